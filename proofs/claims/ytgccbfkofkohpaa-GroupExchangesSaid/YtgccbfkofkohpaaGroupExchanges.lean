/- sentinellaw4.GroupExchanges: the walk. -/
import Derived.Test.YtgccbfkofkohpaaGpGroup
import Derived.Test.YtgccbfkofkohpaaGpKnown
import Derived.Test.YtgccbfkofkohpaaGaTx
import Derived.Test.YtgccbfkofkohpaaGaSz
import Derived.Test.YtgccbfkofkohpaaSReg
import Derived.Test.YtgccbfkofkohpaaSRBytes
import Derived.Test.YtgccbfkofkohpaaGpEq
import Derived.Test.YtgccbfkofkohpaaFermat
import Derived.Test.YtgccbfkofkohpaaRefM
namespace Go.Proofs.Ytgccbfkofkohpaa
set_option linter.unusedVariables false
set_option maxRecDepth 20000
set_option linter.unusedSimpArgs false
open Go.ChangeShapes Go.WideShapes Go.ChangeAt Go.RowKit
theorem exch_pack {k : Int} {p u v x : Nat} (hg : GOk k p) (hu : u < p) (hv : v < p) (hx : x < p) (hxs : x = 0 ∨ ∃ n, x = n * n % p ∧ 1 < n * n % p) (h0 : 0 < u) (h1 : 0 < v) (hu2 : u < p / 2) (hv2 : v < p / 2) : ∃ (L H W X Y Z : Nat), RunsTo 36 #[numV u, numV v] (.tuple #[numV L, numV H]) ∧
    RunsTo 37 #[numV L, numV H, numV (p / 2)] (.tuple #[numV W, .bool true]) ∧
    RunsTo 23 #[.agg (groupA k p (p / 2) 4), numV x, numV u] (numV X) ∧
    RunsTo 23 #[.agg (groupA k p (p / 2) 4), numV X, numV v] (numV Z) ∧
    RunsTo 23 #[.agg (groupA k p (p / 2) 4), numV x, numV v] (numV Y) ∧
    RunsTo 23 #[.agg (groupA k p (p / 2) 4), numV Y, numV u] (numV Z) ∧
    RunsTo 23 #[.agg (groupA k p (p / 2) 4), numV x, numV W] (numV Z) := by
  obtain ⟨-, -, po, p1, p2, pp, pq⟩ := hg
  have hp : p < 4294967296 ^ 8 := Nat.lt_trans p2 (by decide)
  have q1 : 1 < p := by omega
  have hQ : p / 2 < 4294967296 ^ 8 := Nat.lt_of_le_of_lt (Nat.div_le_self _ _) hp
  have hu' := Nat.lt_trans hu hp
  have hv' := Nat.lt_trans hv hp
  have hx' := Nat.lt_trans hx hp
  have hl : ∀ n, n % p < 4294967296 ^ 8 := fun n => Nat.lt_trans (Nat.mod_lt _ (by omega)) hp
  have R : ∀ a e, a < 4294967296 ^ 8 → e < 4294967296 ^ 8 → RunsTo 23 #[.agg (groupA k p (p / 2) 4), numV a, numV e] (numV (a ^ e % p)) := fun a e ha he w => graise_any k p (p / 2) 4 po q1 hp a e ha he w
  have e1 : (x ^ u % p) ^ v % p = x ^ (u * v) % p := by rw [← Nat.pow_mod, ← Nat.pow_mul]
  have e2 : (x ^ v % p) ^ u % p = x ^ (u * v) % p := by rw [← Nat.pow_mod, ← Nat.pow_mul, Nat.mul_comm]
  have hq : u * v % 4294967296 ^ 8 + u * v / 4294967296 ^ 8 * 4294967296 ^ 8 = u * v := by rw [Nat.mul_comm (u * v / _)]; exact Nat.mod_add_div _ _
  have e3 : x ^ (u * v % (p / 2)) % p = x ^ (u * v) % p := by
    rcases hxs with rfl | ⟨n, hn, hn1⟩
    · have hne : u * v % (p / 2) ≠ 0 := prime_mul pq (by rw [Nat.mod_eq_of_lt hu2]; omega) (by rw [Nat.mod_eq_of_lt hv2]; omega)
      rw [Nat.zero_pow (Nat.pos_of_ne_zero hne), Nat.zero_pow (Nat.mul_pos h0 h1)]
    · refine pow_by q1 ?_ _
      rw [hn]
      exact square_one pp po (by omega)
  refine ⟨u * v % 4294967296 ^ 8, u * v / 4294967296 ^ 8, u * v % (p / 2), x ^ u % p, x ^ v % p, x ^ (u * v) % p, rmul_any _ _ hu' hv', fun w => ?_, R _ _ hx' hu', ?_, R _ _ hx' hv', ?_, ?_⟩
  · have := rrest_pos (u * v % 4294967296 ^ 8) (u * v / 4294967296 ^ 8) (p / 2) (Nat.mod_lt _ (by decide)) (Nat.div_lt_of_lt_mul (Nat.mul_lt_mul'' hu' hv')) hQ (by omega) w
    rwa [hq] at this
  · have := R _ _ (hl (x ^ u)) hv'
    rwa [e1] at this
  · have := R _ _ (hl (x ^ v)) hu'
    rwa [e2] at this
  · have := R x (u * v % (p / 2)) hx' (Nat.lt_trans (Nat.mod_lt _ (by omega)) hQ)
    rwa [e3] at this
set_option maxRecDepth 100000 in
set_option maxHeartbeats 8000000 in
theorem GroupExchanges_walk (a0 : Int) (hk0 : -9223372036854775808 ≤ a0) (hl0 : a0 < 9223372036854775808)
    (A1 : Option Addr) (n1 cap1 : Nat) (l1 : List UInt8) (hn1 : l1.length = n1) (hc1 : n1 ≤ cap1) (hm1 : cap1 ≤ maxLen) (hz1 : A1 = none → cap1 = 0)
    (A2 : Option Addr) (n2 cap2 : Nat) (l2 : List UInt8) (hn2 : l2.length = n2) (hc2 : n2 ≤ cap2) (hm2 : cap2 ≤ maxLen) (hz2 : A2 = none → cap2 = 0)
    (A3 : Option Addr) (n3 cap3 : Nat) (l3 : List UInt8) (hn3 : l3.length = n3) (hc3 : n3 ≤ cap3) (hm3 : cap3 ≤ maxLen) (hz3 : A3 = none → cap3 = 0) (w : World) (hr1 : Rd w A1 l1) (hr2 : Rd w A2 l2) (hr3 : Rd w A3 l3) :
    Calls Try.prog 9 #[.int .i64 a0, .slice A1 n1 cap1, .slice A2 n2 cap2, .slice A3 n3 cap3] w fun e w' => e = .returned (.bool true) ∧ Below w.heap.size w w' := by
  have ib1 : IsB w l1 (.slice A1 n1 cap1) := hr1.isB' hn1 hc1 hm1 hz1
  have ib2 : IsB w l2 (.slice A2 n2 cap2) := hr2.isB' hn2 hc2 hm2 hz2
  have ib3 : IsB w l3 (.slice A3 n3 cap3) := hr3.isB' hn3 hc3 hm3 hz3
  obtain ⟨k, p, hg, kG⟩ := group_any hk0 hl0
  obtain ⟨p1, p2⟩ : 4000 < p ∧ p < 16777216 := ⟨hg.2.2.2.1, hg.2.2.2.2.1⟩
  have hpl : p < 4294967296 ^ 8 := Nat.lt_trans p2 (by decide)
  have hql : p / 2 < 4294967296 ^ 8 := Nat.lt_of_le_of_lt (Nat.div_le_self _ _) hpl
  have kU := fun (w : World) (v : Value) (h : IsB w l2 v) => gexp_any k p (p / 2) 4 (by omega) hql l2 v w h
  have kV := fun (w : World) (v : Value) (h : IsB w l3 v) => gexp_any k p (p / 2) 4 (by omega) hql l3 v w h
  have kX := fun (w : World) (v : Value) (h : IsB w l1 v) => ginto_any k p (p / 2) 4 hg.2.2.1 (by omega) hpl l1 v w h
  have bd : ∀ l, 0 < expN (p / 2) l ∧ expN (p / 2) l < p / 2 := fun l => by
    rw [expN_eq]
    have := Nat.mod_lt (readN (sumY (outF (macW [] [[101, 120, 112, 111, 110, 101, 110, 116], l])))) (show 0 < p / 2 - 1 by omega)
    omega
  obtain ⟨u0, u1⟩ := bd l2
  obtain ⟨v0, v1⟩ := bd l3
  have x1 := intoN_lt (P := p) (by omega) l1
  have xs := intoN_is p l1
  obtain ⟨u, hu⟩ : ∃ u, expN (p / 2) l2 = u := ⟨_, rfl⟩
  obtain ⟨v, hv⟩ : ∃ v, expN (p / 2) l3 = v := ⟨_, rfl⟩
  obtain ⟨x, hx⟩ : ∃ x, intoN p l1 = x := ⟨_, rfl⟩
  rw [hu] at kU u0 u1
  rw [hv] at kV v0 v1
  rw [hx] at kX x1 xs
  obtain ⟨L, H, W, X, Y, Z, z1, z2, z3, z4, z5, z6, z7⟩ := exch_pack hg (by omega) (by omega) x1 xs u0 v0 u1 v1
  clear hu hv hx xs bd
  by_cases b1 : 60 < l1.length
  · refine calls_fx (args := [.int .i64 a0, .slice A1 n1 cap1, .slice A2 n2 cap2, .slice A3 n3 cap3]) 86 Try.func9 rfl rfl rfl ?_
    intro fa F
    have M := Mx.start w
    replace M := M.argB 0 ib1 (fun g e => by cases e)
    replace M := M.argB 1 ib2 (fun g e => by cases e)
    replace M := M.argB 2 ib3 (fun g e => by cases e)
    refine wp_seq_k fun K1 hK1 => ?_
    refine wp_region_lit ?_
    refine wl_run (w' := w) (wanted_none rfl) rfl F rfl (.bool false) (run_mv _ (.inr rfl) rfl) fun a2 F2 => ?_
    clear F
    refine hK1 _ _ ?_
    refine wp_seq_k fun K3 hK3 => ?_
    refine wp_seq_k fun K4 hK4 => ?_
    refine wp_region_lit ?_
    refine wl_call (wanted_none rfl) rfl F2 rfl rfl (enters_of Try.func13 (by kernel_rfl) rfl) #[] (args0) (call_ex (gknown_any w)) ?_
    rintro _ w5 a5 ⟨rfl, b5⟩ F5
    have M5 := M.step b5
    refine wl_run (w' := w5) (wanted_none rfl) rfl F5 rfl (.bool false) (run_not _ _ rfl (F5.get (t := 17) rfl)) fun a6 F6 => ?_
    clear F5
    refine hK4 _ _ ?_
    refine wp_cond_false (F6.get (t := 18) rfl) ?_
    refine wp_skip ?_
    refine hK3 _ _ ?_
    refine wp_seq_k fun K7 hK7 => ?_
    refine wp_seq_k fun K8 hK8 => ?_
    refine wp_region_lit ?_
    refine wl_run (w' := w5) (wanted_none rfl) rfl F6 rfl (.slice A1 n1 cap1) (run_mv _ (.inl rfl) (F6.get (t := 1) rfl)) fun a9 F9 => ?_
    clear F6
    refine wl_run (w' := w5) (wanted_none rfl) rfl F9 rfl (.int .i64 (l1.length : Int)) (y_len _ rfl (F9.get (t := 19) rfl) (M5.isb (k := 0) rfl) rfl) fun a10 F10 => ?_
    clear F9
    refine wl_run (w' := w5) (wanted_none rfl) rfl F10 rfl (.bool true) (y_gtr _ _ _ _ rfl (F10.get (t := 20) rfl) rfl (decide_eq_true (show (60 : Int) < (l1.length : Int) by omega))) fun a11 F11 => ?_
    clear F10
    refine wl_run (w' := w5) (wanted_none rfl) rfl F11 rfl (.bool true) (run_mv _ (.inl rfl) (F11.get (t := 21) rfl)) fun a12 F12 => ?_
    clear F11
    refine wl_skip (wanted_no rfl rfl rfl (F12.get (t := 22) rfl)) rfl F12 rfl fun a13 F13 => ?_
    clear F12
    refine wl_skip (wanted_no rfl rfl rfl (F13.get (t := 22) rfl)) rfl F13 rfl fun a14 F14 => ?_
    clear F13
    refine wl_skip (wanted_no rfl rfl rfl (F14.get (t := 22) rfl)) rfl F14 rfl fun a15 F15 => ?_
    clear F14
    refine wl_run (w' := w5) (wanted_none rfl) rfl F15 rfl (.bool true) (run_pick_t rfl (F15.get (t := 22) rfl) rfl) fun a16 F16 => ?_
    clear F15
    refine wl_run (w' := w5) (wanted_none rfl) rfl F16 rfl (.bool true) (run_mv _ (.inl rfl) (F16.get (t := 26) rfl)) fun a17 F17 => ?_
    clear F16
    refine wl_skip (wanted_no rfl rfl rfl (F17.get (t := 27) rfl)) rfl F17 rfl fun a18 F18 => ?_
    clear F17
    refine wl_skip (wanted_no rfl rfl rfl (F18.get (t := 27) rfl)) rfl F18 rfl fun a19 F19 => ?_
    clear F18
    refine wl_skip (wanted_no rfl rfl rfl (F19.get (t := 27) rfl)) rfl F19 rfl fun a20 F20 => ?_
    clear F19
    refine wl_run (w' := w5) (wanted_none rfl) rfl F20 rfl (.bool true) (run_pick_t rfl (F20.get (t := 27) rfl) rfl) fun a21 F21 => ?_
    clear F20
    refine hK8 _ _ ?_
    refine wp_cond_true (F21.get (t := 31) rfl) ?_
    refine wp_seq_k fun K22 hK22 => ?_
    refine wp_region_lit ?_
    refine wl_run (w' := w5) (wanted_none rfl) rfl F21 rfl (.bool true) (run_mv _ (.inr rfl) rfl) fun a23 F23 => ?_
    clear F21
    refine hK22 _ _ ?_
    refine wp_ret ?_
    try simp only [Exit.then, Exit.inBlock, Exit.jump]
    exact bodyPost_ret (res1 rfl (F23.get (t := 8) rfl)) F23.defers ⟨rfl, M5.below⟩
  · by_cases b2 : 60 < l2.length
    · refine calls_fx (args := [.int .i64 a0, .slice A1 n1 cap1, .slice A2 n2 cap2, .slice A3 n3 cap3]) 86 Try.func9 rfl rfl rfl ?_
      intro fa F
      have M := Mx.start w
      replace M := M.argB 0 ib1 (fun g e => by cases e)
      replace M := M.argB 1 ib2 (fun g e => by cases e)
      replace M := M.argB 2 ib3 (fun g e => by cases e)
      refine wp_seq_k fun K1 hK1 => ?_
      refine wp_region_lit ?_
      refine wl_run (w' := w) (wanted_none rfl) rfl F rfl (.bool false) (run_mv _ (.inr rfl) rfl) fun a2 F2 => ?_
      clear F
      refine hK1 _ _ ?_
      refine wp_seq_k fun K3 hK3 => ?_
      refine wp_seq_k fun K4 hK4 => ?_
      refine wp_region_lit ?_
      refine wl_call (wanted_none rfl) rfl F2 rfl rfl (enters_of Try.func13 (by kernel_rfl) rfl) #[] (args0) (call_ex (gknown_any w)) ?_
      rintro _ w5 a5 ⟨rfl, b5⟩ F5
      have M5 := M.step b5
      refine wl_run (w' := w5) (wanted_none rfl) rfl F5 rfl (.bool false) (run_not _ _ rfl (F5.get (t := 17) rfl)) fun a6 F6 => ?_
      clear F5
      refine hK4 _ _ ?_
      refine wp_cond_false (F6.get (t := 18) rfl) ?_
      refine wp_skip ?_
      refine hK3 _ _ ?_
      refine wp_seq_k fun K7 hK7 => ?_
      refine wp_seq_k fun K8 hK8 => ?_
      refine wp_region_lit ?_
      refine wl_run (w' := w5) (wanted_none rfl) rfl F6 rfl (.slice A1 n1 cap1) (run_mv _ (.inl rfl) (F6.get (t := 1) rfl)) fun a9 F9 => ?_
      clear F6
      refine wl_run (w' := w5) (wanted_none rfl) rfl F9 rfl (.int .i64 (l1.length : Int)) (y_len _ rfl (F9.get (t := 19) rfl) (M5.isb (k := 0) rfl) rfl) fun a10 F10 => ?_
      clear F9
      refine wl_run (w' := w5) (wanted_none rfl) rfl F10 rfl (.bool false) (y_gtr _ _ _ _ rfl (F10.get (t := 20) rfl) rfl (decide_eq_false (show ¬ (60 : Int) < (l1.length : Int) by omega))) fun a11 F11 => ?_
      clear F10
      refine wl_run (w' := w5) (wanted_none rfl) rfl F11 rfl (.bool false) (run_mv _ (.inl rfl) (F11.get (t := 21) rfl)) fun a12 F12 => ?_
      clear F11
      refine wl_run (w' := w5) (wanted_yes rfl rfl rfl (F12.get (t := 22) rfl)) rfl F12 rfl (.slice A2 n2 cap2) (run_mv _ (.inl rfl) (F12.get (t := 2) rfl)) fun a13 F13 => ?_
      clear F12
      refine wl_run (w' := w5) (wanted_yes rfl rfl rfl (F13.get (t := 22) rfl)) rfl F13 rfl (.int .i64 (l2.length : Int)) (y_len _ rfl (F13.get (t := 23) rfl) (M5.isb (k := 1) rfl) rfl) fun a14 F14 => ?_
      clear F13
      refine wl_run (w' := w5) (wanted_yes rfl rfl rfl (F14.get (t := 22) rfl)) rfl F14 rfl (.bool true) (y_gtr _ _ _ _ rfl (F14.get (t := 24) rfl) rfl (decide_eq_true (show (60 : Int) < (l2.length : Int) by omega))) fun a15 F15 => ?_
      clear F14
      refine wl_run (w' := w5) (wanted_none rfl) rfl F15 rfl (.bool true) (run_pick_f rfl (F15.get (t := 22) rfl) (F15.get (t := 25) rfl)) fun a16 F16 => ?_
      clear F15
      refine wl_run (w' := w5) (wanted_none rfl) rfl F16 rfl (.bool true) (run_mv _ (.inl rfl) (F16.get (t := 26) rfl)) fun a17 F17 => ?_
      clear F16
      refine wl_skip (wanted_no rfl rfl rfl (F17.get (t := 27) rfl)) rfl F17 rfl fun a18 F18 => ?_
      clear F17
      refine wl_skip (wanted_no rfl rfl rfl (F18.get (t := 27) rfl)) rfl F18 rfl fun a19 F19 => ?_
      clear F18
      refine wl_skip (wanted_no rfl rfl rfl (F19.get (t := 27) rfl)) rfl F19 rfl fun a20 F20 => ?_
      clear F19
      refine wl_run (w' := w5) (wanted_none rfl) rfl F20 rfl (.bool true) (run_pick_t rfl (F20.get (t := 27) rfl) rfl) fun a21 F21 => ?_
      clear F20
      refine hK8 _ _ ?_
      refine wp_cond_true (F21.get (t := 31) rfl) ?_
      refine wp_seq_k fun K22 hK22 => ?_
      refine wp_region_lit ?_
      refine wl_run (w' := w5) (wanted_none rfl) rfl F21 rfl (.bool true) (run_mv _ (.inr rfl) rfl) fun a23 F23 => ?_
      clear F21
      refine hK22 _ _ ?_
      refine wp_ret ?_
      try simp only [Exit.then, Exit.inBlock, Exit.jump]
      exact bodyPost_ret (res1 rfl (F23.get (t := 8) rfl)) F23.defers ⟨rfl, M5.below⟩
    · by_cases b3 : 60 < l3.length
      · refine calls_fx (args := [.int .i64 a0, .slice A1 n1 cap1, .slice A2 n2 cap2, .slice A3 n3 cap3]) 86 Try.func9 rfl rfl rfl ?_
        intro fa F
        have M := Mx.start w
        replace M := M.argB 0 ib1 (fun g e => by cases e)
        replace M := M.argB 1 ib2 (fun g e => by cases e)
        replace M := M.argB 2 ib3 (fun g e => by cases e)
        refine wp_seq_k fun K1 hK1 => ?_
        refine wp_region_lit ?_
        refine wl_run (w' := w) (wanted_none rfl) rfl F rfl (.bool false) (run_mv _ (.inr rfl) rfl) fun a2 F2 => ?_
        clear F
        refine hK1 _ _ ?_
        refine wp_seq_k fun K3 hK3 => ?_
        refine wp_seq_k fun K4 hK4 => ?_
        refine wp_region_lit ?_
        refine wl_call (wanted_none rfl) rfl F2 rfl rfl (enters_of Try.func13 (by kernel_rfl) rfl) #[] (args0) (call_ex (gknown_any w)) ?_
        rintro _ w5 a5 ⟨rfl, b5⟩ F5
        have M5 := M.step b5
        refine wl_run (w' := w5) (wanted_none rfl) rfl F5 rfl (.bool false) (run_not _ _ rfl (F5.get (t := 17) rfl)) fun a6 F6 => ?_
        clear F5
        refine hK4 _ _ ?_
        refine wp_cond_false (F6.get (t := 18) rfl) ?_
        refine wp_skip ?_
        refine hK3 _ _ ?_
        refine wp_seq_k fun K7 hK7 => ?_
        refine wp_seq_k fun K8 hK8 => ?_
        refine wp_region_lit ?_
        refine wl_run (w' := w5) (wanted_none rfl) rfl F6 rfl (.slice A1 n1 cap1) (run_mv _ (.inl rfl) (F6.get (t := 1) rfl)) fun a9 F9 => ?_
        clear F6
        refine wl_run (w' := w5) (wanted_none rfl) rfl F9 rfl (.int .i64 (l1.length : Int)) (y_len _ rfl (F9.get (t := 19) rfl) (M5.isb (k := 0) rfl) rfl) fun a10 F10 => ?_
        clear F9
        refine wl_run (w' := w5) (wanted_none rfl) rfl F10 rfl (.bool false) (y_gtr _ _ _ _ rfl (F10.get (t := 20) rfl) rfl (decide_eq_false (show ¬ (60 : Int) < (l1.length : Int) by omega))) fun a11 F11 => ?_
        clear F10
        refine wl_run (w' := w5) (wanted_none rfl) rfl F11 rfl (.bool false) (run_mv _ (.inl rfl) (F11.get (t := 21) rfl)) fun a12 F12 => ?_
        clear F11
        refine wl_run (w' := w5) (wanted_yes rfl rfl rfl (F12.get (t := 22) rfl)) rfl F12 rfl (.slice A2 n2 cap2) (run_mv _ (.inl rfl) (F12.get (t := 2) rfl)) fun a13 F13 => ?_
        clear F12
        refine wl_run (w' := w5) (wanted_yes rfl rfl rfl (F13.get (t := 22) rfl)) rfl F13 rfl (.int .i64 (l2.length : Int)) (y_len _ rfl (F13.get (t := 23) rfl) (M5.isb (k := 1) rfl) rfl) fun a14 F14 => ?_
        clear F13
        refine wl_run (w' := w5) (wanted_yes rfl rfl rfl (F14.get (t := 22) rfl)) rfl F14 rfl (.bool false) (y_gtr _ _ _ _ rfl (F14.get (t := 24) rfl) rfl (decide_eq_false (show ¬ (60 : Int) < (l2.length : Int) by omega))) fun a15 F15 => ?_
        clear F14
        refine wl_run (w' := w5) (wanted_none rfl) rfl F15 rfl (.bool false) (run_pick_f rfl (F15.get (t := 22) rfl) (F15.get (t := 25) rfl)) fun a16 F16 => ?_
        clear F15
        refine wl_run (w' := w5) (wanted_none rfl) rfl F16 rfl (.bool false) (run_mv _ (.inl rfl) (F16.get (t := 26) rfl)) fun a17 F17 => ?_
        clear F16
        refine wl_run (w' := w5) (wanted_yes rfl rfl rfl (F17.get (t := 27) rfl)) rfl F17 rfl (.slice A3 n3 cap3) (run_mv _ (.inl rfl) (F17.get (t := 3) rfl)) fun a18 F18 => ?_
        clear F17
        refine wl_run (w' := w5) (wanted_yes rfl rfl rfl (F18.get (t := 27) rfl)) rfl F18 rfl (.int .i64 (l3.length : Int)) (y_len _ rfl (F18.get (t := 28) rfl) (M5.isb (k := 2) rfl) rfl) fun a19 F19 => ?_
        clear F18
        refine wl_run (w' := w5) (wanted_yes rfl rfl rfl (F19.get (t := 27) rfl)) rfl F19 rfl (.bool true) (y_gtr _ _ _ _ rfl (F19.get (t := 29) rfl) rfl (decide_eq_true (show (60 : Int) < (l3.length : Int) by omega))) fun a20 F20 => ?_
        clear F19
        refine wl_run (w' := w5) (wanted_none rfl) rfl F20 rfl (.bool true) (run_pick_f rfl (F20.get (t := 27) rfl) (F20.get (t := 30) rfl)) fun a21 F21 => ?_
        clear F20
        refine hK8 _ _ ?_
        refine wp_cond_true (F21.get (t := 31) rfl) ?_
        refine wp_seq_k fun K22 hK22 => ?_
        refine wp_region_lit ?_
        refine wl_run (w' := w5) (wanted_none rfl) rfl F21 rfl (.bool true) (run_mv _ (.inr rfl) rfl) fun a23 F23 => ?_
        clear F21
        refine hK22 _ _ ?_
        refine wp_ret ?_
        try simp only [Exit.then, Exit.inBlock, Exit.jump]
        exact bodyPost_ret (res1 rfl (F23.get (t := 8) rfl)) F23.defers ⟨rfl, M5.below⟩
      · refine calls_fx (args := [.int .i64 a0, .slice A1 n1 cap1, .slice A2 n2 cap2, .slice A3 n3 cap3]) 86 Try.func9 rfl rfl rfl ?_
        intro fa F
        have M := Mx.start w
        replace M := M.argB 0 ib1 (fun g e => by cases e)
        replace M := M.argB 1 ib2 (fun g e => by cases e)
        replace M := M.argB 2 ib3 (fun g e => by cases e)
        refine wp_seq_k fun K1 hK1 => ?_
        refine wp_region_lit ?_
        refine wl_run (w' := w) (wanted_none rfl) rfl F rfl (.bool false) (run_mv _ (.inr rfl) rfl) fun a2 F2 => ?_
        clear F
        refine hK1 _ _ ?_
        refine wp_seq_k fun K3 hK3 => ?_
        refine wp_seq_k fun K4 hK4 => ?_
        refine wp_region_lit ?_
        refine wl_call (wanted_none rfl) rfl F2 rfl rfl (enters_of Try.func13 (by kernel_rfl) rfl) #[] (args0) (call_ex (gknown_any w)) ?_
        rintro _ w5 a5 ⟨rfl, b5⟩ F5
        have M5 := M.step b5
        refine wl_run (w' := w5) (wanted_none rfl) rfl F5 rfl (.bool false) (run_not _ _ rfl (F5.get (t := 17) rfl)) fun a6 F6 => ?_
        clear F5
        refine hK4 _ _ ?_
        refine wp_cond_false (F6.get (t := 18) rfl) ?_
        refine wp_skip ?_
        refine hK3 _ _ ?_
        refine wp_seq_k fun K7 hK7 => ?_
        refine wp_seq_k fun K8 hK8 => ?_
        refine wp_region_lit ?_
        refine wl_run (w' := w5) (wanted_none rfl) rfl F6 rfl (.slice A1 n1 cap1) (run_mv _ (.inl rfl) (F6.get (t := 1) rfl)) fun a9 F9 => ?_
        clear F6
        refine wl_run (w' := w5) (wanted_none rfl) rfl F9 rfl (.int .i64 (l1.length : Int)) (y_len _ rfl (F9.get (t := 19) rfl) (M5.isb (k := 0) rfl) rfl) fun a10 F10 => ?_
        clear F9
        refine wl_run (w' := w5) (wanted_none rfl) rfl F10 rfl (.bool false) (y_gtr _ _ _ _ rfl (F10.get (t := 20) rfl) rfl (decide_eq_false (show ¬ (60 : Int) < (l1.length : Int) by omega))) fun a11 F11 => ?_
        clear F10
        refine wl_run (w' := w5) (wanted_none rfl) rfl F11 rfl (.bool false) (run_mv _ (.inl rfl) (F11.get (t := 21) rfl)) fun a12 F12 => ?_
        clear F11
        refine wl_run (w' := w5) (wanted_yes rfl rfl rfl (F12.get (t := 22) rfl)) rfl F12 rfl (.slice A2 n2 cap2) (run_mv _ (.inl rfl) (F12.get (t := 2) rfl)) fun a13 F13 => ?_
        clear F12
        refine wl_run (w' := w5) (wanted_yes rfl rfl rfl (F13.get (t := 22) rfl)) rfl F13 rfl (.int .i64 (l2.length : Int)) (y_len _ rfl (F13.get (t := 23) rfl) (M5.isb (k := 1) rfl) rfl) fun a14 F14 => ?_
        clear F13
        refine wl_run (w' := w5) (wanted_yes rfl rfl rfl (F14.get (t := 22) rfl)) rfl F14 rfl (.bool false) (y_gtr _ _ _ _ rfl (F14.get (t := 24) rfl) rfl (decide_eq_false (show ¬ (60 : Int) < (l2.length : Int) by omega))) fun a15 F15 => ?_
        clear F14
        refine wl_run (w' := w5) (wanted_none rfl) rfl F15 rfl (.bool false) (run_pick_f rfl (F15.get (t := 22) rfl) (F15.get (t := 25) rfl)) fun a16 F16 => ?_
        clear F15
        refine wl_run (w' := w5) (wanted_none rfl) rfl F16 rfl (.bool false) (run_mv _ (.inl rfl) (F16.get (t := 26) rfl)) fun a17 F17 => ?_
        clear F16
        refine wl_run (w' := w5) (wanted_yes rfl rfl rfl (F17.get (t := 27) rfl)) rfl F17 rfl (.slice A3 n3 cap3) (run_mv _ (.inl rfl) (F17.get (t := 3) rfl)) fun a18 F18 => ?_
        clear F17
        refine wl_run (w' := w5) (wanted_yes rfl rfl rfl (F18.get (t := 27) rfl)) rfl F18 rfl (.int .i64 (l3.length : Int)) (y_len _ rfl (F18.get (t := 28) rfl) (M5.isb (k := 2) rfl) rfl) fun a19 F19 => ?_
        clear F18
        refine wl_run (w' := w5) (wanted_yes rfl rfl rfl (F19.get (t := 27) rfl)) rfl F19 rfl (.bool false) (y_gtr _ _ _ _ rfl (F19.get (t := 29) rfl) rfl (decide_eq_false (show ¬ (60 : Int) < (l3.length : Int) by omega))) fun a20 F20 => ?_
        clear F19
        refine wl_run (w' := w5) (wanted_none rfl) rfl F20 rfl (.bool false) (run_pick_f rfl (F20.get (t := 27) rfl) (F20.get (t := 30) rfl)) fun a21 F21 => ?_
        clear F20
        refine hK8 _ _ ?_
        refine wp_cond_false (F21.get (t := 31) rfl) ?_
        refine wp_skip ?_
        refine hK7 _ _ ?_
        refine wp_seq_k fun K22 hK22 => ?_
        refine wp_region_lit ?_
        refine wl_run (w' := w5) (wanted_none rfl) rfl F21 rfl (.int .i64 a0) (run_mv _ (.inl rfl) (F21.get (t := 0) rfl)) fun a23 F23 => ?_
        clear F21
        refine wl_call (wanted_none rfl) rfl F23 rfl rfl (enters_of Try.func20 (by kernel_rfl) rfl) #[.int .i64 a0] (args1 (F23.get (t := 32) rfl)) (call_ex (kG w5)) ?_
        rintro _ w24 a24 ⟨rfl, b24⟩ F24
        have M24 := M5.step b24
        refine wl_alloc (wanted_none rfl) rfl F24 rfl M24 3 (t := 28) (c := groupA 0 0 0 0) (by unfold execOp; rw [groupA_zero]; kernel_rfl) ?_
        intro g25 a25 w25 F25 M25
        clear F24 M24
        refine wl_st (wanted_none rfl) rfl F25 M25 (k := 3) rfl _ _ _ rfl (F25.get (t := 9) rfl) (F25.get (t := 33) rfl) (groupA k p (p / 2) 4) (groupA k p (p / 2) 4) rfl (Nat.le_of_ble_eq_true rfl) (groupA_cells _ _ _ _) (y_put0 rfl) (by kernel_rfl) ?_
        intro w26 M26
        clear M25
        refine hK22 _ _ ?_
        refine wp_seq_k fun K27 hK27 => ?_
        refine region_fxM F25 [fun vE => vE = .agg (groupA k p (p / 2) 4), fun vE => vE = .slice A1 n1 cap1, fun vE => vE = numV x, fun vE => vE = .agg (groupA k p (p / 2) 4), fun vE => vE = .slice A2 n2 cap2, fun vE => vE = numV u, fun vE => vE = .agg (groupA k p (p / 2) 4), fun vE => vE = .slice A3 n3 cap3, fun vE => vE = numV v, fun vE => ∃ g, vE = .pointer (some ⟨g, 0, none⟩), fun vE => ∃ g, vE = .pointer (some ⟨g, 0, none⟩), fun vE => ∃ g, vE = .pointer (some ⟨g, 0, none⟩)] (JM none w fun SV pV => [(0, bytR l1 (.slice A1 n1 cap1)), (1, bytR l2 (.slice A2 n2 cap2)), (2, bytR l3 (.slice A3 n3 cap3)), (3, blkR g25 28 (groupA k p (p / 2) 4)), (4, condR (SV 9) (ptrR 26 (numA 0) (pV 9))), (5, condR (SV 10) (ptrR 26 (numA 0) (pV 10))), (6, condR (SV 11) (ptrR 26 (numA 0) (pV 11)))]) 12 rfl (by kernel_rfl) rfl (by kernel_rfl) (fun p => ((((M26.step (step_drew _)).triv 4).triv 5).triv 6).sub ⟨rfl, rfl, rfl, rfl, rfl, rfl, rfl, trivial⟩) ⟨?_, ?_, ?_, ?_, ?_, ?_, ?_, ?_, ?_, ?_, ?_, ?_, trivial⟩ ?_
        · intro ua uw SV pV M0 hk hn hd
          have M : Mx none w uw _ := M0
          clear M0
          have e9 : ua.eval (.tmp 9) = .pointer (some ⟨g25, 0, none⟩) := (show ua.eval (.tmp 9) = _ from hd 9 (by decide)).trans (F25.get (t := 9) rfl)
          exact hopM_run (wanted_none rfl) (.agg (groupA k p (p / 2) 4)) (y_ldN _ _ rfl e9 (M.blk (k := 3) rfl) (groupA k p (p / 2) 4) (y_all rfl) Try.underlying28 rfl (by kernel_rfl)) rfl (M.sub ⟨rfl, rfl, rfl, rfl, rfl, rfl, rfl, trivial⟩)
        · intro ua uw SV pV M0 hk hn hd
          have M : Mx none w uw _ := M0
          clear M0
          have e1 : ua.eval (.tmp 1) = .slice A1 n1 cap1 := (show ua.eval (.tmp 1) = _ from hd 1 (by decide)).trans (F25.get (t := 1) rfl)
          exact hopM_run (wanted_none rfl) (.slice A1 n1 cap1) (run_mv _ (.inl rfl) e1) rfl (M.sub ⟨rfl, rfl, rfl, rfl, rfl, rfl, rfl, trivial⟩)
        · intro ua uw SV pV M0 hk hn hd
          have M : Mx none w uw _ := M0
          clear M0
          obtain ⟨s0, f34, q34⟩ := (show SV 0 = true ∧ ua.eval (.tmp 34) = pV 0 ∧ stE _ 0 (pV 0) from hd 34 (by decide))
          have e34 : ua.eval (.tmp 34) = .agg (groupA k p (p / 2) 4) := f34.trans q34
          obtain ⟨s1, f35, q35⟩ := (show SV 1 = true ∧ ua.eval (.tmp 35) = pV 1 ∧ stE _ 1 (pV 1) from hd 35 (by decide))
          have e35 : ua.eval (.tmp 35) = .slice A1 n1 cap1 := f35.trans q35
          exact hopM_call (wanted_none rfl) rfl #[.agg (groupA k p (p / 2) 4), .slice A1 n1 cap1] (args2 e34 e35) (enters_of Try.func31 (by kernel_rfl) rfl) ((kX uw _ (M.isb (k := 0) rfl)).mono fun e w2 h => ⟨_, h.1, rfl, (M.step h.2).sub ⟨rfl, rfl, rfl, rfl, rfl, rfl, rfl, trivial⟩⟩)
        · intro ua uw SV pV M0 hk hn hd
          have M : Mx none w uw _ := M0
          clear M0
          have e9 : ua.eval (.tmp 9) = .pointer (some ⟨g25, 0, none⟩) := (show ua.eval (.tmp 9) = _ from hd 9 (by decide)).trans (F25.get (t := 9) rfl)
          exact hopM_run (wanted_none rfl) (.agg (groupA k p (p / 2) 4)) (y_ldN _ _ rfl e9 (M.blk (k := 3) rfl) (groupA k p (p / 2) 4) (y_all rfl) Try.underlying28 rfl (by kernel_rfl)) rfl (M.sub ⟨rfl, rfl, rfl, rfl, rfl, rfl, rfl, trivial⟩)
        · intro ua uw SV pV M0 hk hn hd
          have M : Mx none w uw _ := M0
          clear M0
          have e2 : ua.eval (.tmp 2) = .slice A2 n2 cap2 := (show ua.eval (.tmp 2) = _ from hd 2 (by decide)).trans (F25.get (t := 2) rfl)
          exact hopM_run (wanted_none rfl) (.slice A2 n2 cap2) (run_mv _ (.inl rfl) e2) rfl (M.sub ⟨rfl, rfl, rfl, rfl, rfl, rfl, rfl, trivial⟩)
        · intro ua uw SV pV M0 hk hn hd
          have M : Mx none w uw _ := M0
          clear M0
          obtain ⟨s3, f37, q37⟩ := (show SV 3 = true ∧ ua.eval (.tmp 37) = pV 3 ∧ stE _ 3 (pV 3) from hd 37 (by decide))
          have e37 : ua.eval (.tmp 37) = .agg (groupA k p (p / 2) 4) := f37.trans q37
          obtain ⟨s4, f38, q38⟩ := (show SV 4 = true ∧ ua.eval (.tmp 38) = pV 4 ∧ stE _ 4 (pV 4) from hd 38 (by decide))
          have e38 : ua.eval (.tmp 38) = .slice A2 n2 cap2 := f38.trans q38
          exact hopM_call (wanted_none rfl) rfl #[.agg (groupA k p (p / 2) 4), .slice A2 n2 cap2] (args2 e37 e38) (enters_of Try.func30 (by kernel_rfl) rfl) ((kU uw _ (M.isb (k := 1) rfl)).mono fun e w2 h => ⟨_, h.1, rfl, (M.step h.2).sub ⟨rfl, rfl, rfl, rfl, rfl, rfl, rfl, trivial⟩⟩)
        · intro ua uw SV pV M0 hk hn hd
          have M : Mx none w uw _ := M0
          clear M0
          have e9 : ua.eval (.tmp 9) = .pointer (some ⟨g25, 0, none⟩) := (show ua.eval (.tmp 9) = _ from hd 9 (by decide)).trans (F25.get (t := 9) rfl)
          exact hopM_run (wanted_none rfl) (.agg (groupA k p (p / 2) 4)) (y_ldN _ _ rfl e9 (M.blk (k := 3) rfl) (groupA k p (p / 2) 4) (y_all rfl) Try.underlying28 rfl (by kernel_rfl)) rfl (M.sub ⟨rfl, rfl, rfl, rfl, rfl, rfl, rfl, trivial⟩)
        · intro ua uw SV pV M0 hk hn hd
          have M : Mx none w uw _ := M0
          clear M0
          have e3 : ua.eval (.tmp 3) = .slice A3 n3 cap3 := (show ua.eval (.tmp 3) = _ from hd 3 (by decide)).trans (F25.get (t := 3) rfl)
          exact hopM_run (wanted_none rfl) (.slice A3 n3 cap3) (run_mv _ (.inl rfl) e3) rfl (M.sub ⟨rfl, rfl, rfl, rfl, rfl, rfl, rfl, trivial⟩)
        · intro ua uw SV pV M0 hk hn hd
          have M : Mx none w uw _ := M0
          clear M0
          obtain ⟨s6, f40, q40⟩ := (show SV 6 = true ∧ ua.eval (.tmp 40) = pV 6 ∧ stE _ 6 (pV 6) from hd 40 (by decide))
          have e40 : ua.eval (.tmp 40) = .agg (groupA k p (p / 2) 4) := f40.trans q40
          obtain ⟨s7, f41, q41⟩ := (show SV 7 = true ∧ ua.eval (.tmp 41) = pV 7 ∧ stE _ 7 (pV 7) from hd 41 (by decide))
          have e41 : ua.eval (.tmp 41) = .slice A3 n3 cap3 := f41.trans q41
          exact hopM_call (wanted_none rfl) rfl #[.agg (groupA k p (p / 2) 4), .slice A3 n3 cap3] (args2 e40 e41) (enters_of Try.func30 (by kernel_rfl) rfl) ((kV uw _ (M.isb (k := 2) rfl)).mono fun e w2 h => ⟨_, h.1, rfl, (M.step h.2).sub ⟨rfl, rfl, rfl, rfl, rfl, rfl, rfl, trivial⟩⟩)
        · intro ua uw SV pV M0 hk hn hd
          have M : Mx none w uw _ := M0
          clear M0
          exact hopM_run (wanted_none rfl) _ (y_new_num rfl) ⟨_, rfl⟩ ((M.allocP 4 26 (numA 0)).sub ⟨rfl, rfl, rfl, rfl, rfl, rfl, rfl, trivial⟩)
        · intro ua uw SV pV M0 hk hn hd
          have M : Mx none w uw _ := M0
          clear M0
          exact hopM_run (wanted_none rfl) _ (y_new_num rfl) ⟨_, rfl⟩ ((M.allocP 5 26 (numA 0)).sub ⟨rfl, rfl, rfl, rfl, rfl, rfl, rfl, trivial⟩)
        · intro ua uw SV pV M0 hk hn hd
          have M : Mx none w uw _ := M0
          clear M0
          exact hopM_run (wanted_none rfl) _ (y_new_num rfl) ⟨_, rfl⟩ ((M.allocP 6 26 (numA 0)).sub ⟨rfl, rfl, rfl, rfl, rfl, rfl, rfl, trivial⟩)
        intro p28 a28 w28 M28 G28 y28
        obtain ⟨-, -, q2, -, -, q5, -, -, q8, q9, q10, q11, -⟩ := y28
        obtain ⟨gp9x27, r9⟩ := (show ∃ g, p28 9 = .pointer (some ⟨g, 0, none⟩) from q9)
        obtain ⟨gp10x27, r10⟩ := (show ∃ g, p28 10 = .pointer (some ⟨g, 0, none⟩) from q10)
        obtain ⟨gp11x27, r11⟩ := (show ∃ g, p28 11 = .pointer (some ⟨g, 0, none⟩) from q11)
        have r2 : p28 2 = numV x := q2
        have r5 : p28 5 = numV u := q5
        have r8 : p28 8 = numV v := q8
        replace M28 : Mx _ _ w28 [(0, bytR l1 (.slice A1 n1 cap1)), (1, bytR l2 (.slice A2 n2 cap2)), (2, bytR l3 (.slice A3 n3 cap3)), (3, blkR g25 28 (groupA k p (p / 2) 4)), (4, condR true (ptrR 26 (numA 0) (p28 9))), (5, condR true (ptrR 26 (numA 0) (p28 10))), (6, condR true (ptrR 26 (numA 0) (p28 11)))] := M28
        simp only [List.take_succ_cons, List.take_zero, layV, Nat.zero_add, Nat.reduceAdd, r2, r5, r8, r9, r10, r11] at G28
        rw [r9, r10, r11] at M28
        have M28_4 := M28.ptr (k := 4) (g := gp9x27) rfl
        have M28_5 := M28_4.ptr (k := 5) (g := gp10x27) rfl
        have M28_6 := M28_5.ptr (k := 6) (g := gp11x27) rfl
        simp only [List.drop_succ_cons, List.drop_zero]
        refine wl_st (wanted_none rfl) rfl G28 M28_6 (k := 4) rfl _ _ _ rfl (G28.get (t := 10) rfl) (G28.get (t := 36) rfl) (numA x) (numA x) rfl (Nat.le_of_ble_eq_true rfl) (numA_cells _) (y_put0 rfl) size26 ?_
        intro w29 M29
        clear M28_6
        refine wl_st (wanted_none rfl) rfl G28 M29 (k := 5) rfl _ _ _ rfl (G28.get (t := 11) rfl) (G28.get (t := 39) rfl) (numA u) (numA u) rfl (Nat.le_of_ble_eq_true rfl) (numA_cells _) (y_put0 rfl) size26 ?_
        intro w30 M30
        clear M29
        refine wl_st (wanted_none rfl) rfl G28 M30 (k := 6) rfl _ _ _ rfl (G28.get (t := 12) rfl) (G28.get (t := 42) rfl) (numA v) (numA v) rfl (Nat.le_of_ble_eq_true rfl) (numA_cells _) (y_put0 rfl) size26 ?_
        intro w31 M31
        clear M30
        refine hK27 _ _ ?_
        refine wp_seq_k fun K32 hK32 => ?_
        refine wp_region_lit ?_
        refine wl_run (w' := w31) (wanted_none rfl) rfl G28 rfl (numV u) (y_ldN _ _ rfl (G28.get (t := 11) rfl) (M31.blk (k := 5) rfl) (numA u) (y_all rfl) Try.underlying26 rfl size26) fun a33 F33 => ?_
        clear G28
        refine wl_run (w' := w31) (wanted_none rfl) rfl F33 rfl (numV v) (y_ldN _ _ rfl (F33.get (t := 12) rfl) (M31.blk (k := 6) rfl) (numA v) (y_all rfl) Try.underlying26 rfl size26) fun a34 F34 => ?_
        clear F33
        refine wl_call (wanted_none rfl) rfl F34 rfl rfl (enters_of Try.func36 (by kernel_rfl) rfl) #[numV u, numV v] (args2 (F34.get (t := 44) rfl) (F34.get (t := 45) rfl)) (call_ex (z1 w31)) ?_
        rintro _ w35 a35 ⟨rfl, b35⟩ F35
        have M35 := M31.step b35
        refine wl_run (w' := w35) (wanted_none rfl) rfl F35 rfl (.tuple #[numV L, numV H]) (run_mv _ (.inl rfl) (F35.get (t := 46) rfl)) fun a36 F36 => ?_
        clear F35
        refine wl_run (w' := w35) (wanted_none rfl) rfl F36 rfl (numV L) (y_ext _ _ rfl (F36.get (t := 43) rfl) rfl) fun a37 F37 => ?_
        clear F36
        refine wl_run (w' := w35) (wanted_none rfl) rfl F37 rfl (numV H) (y_ext _ _ rfl (F37.get (t := 43) rfl) rfl) fun a38 F38 => ?_
        clear F37
        refine wl_alloc (wanted_none rfl) rfl F38 rfl M35 7 (t := 26) (c := numA 0) (y_new_num rfl) ?_
        intro g39 a39 w39 F39 M39
        clear F38 M35
        refine wl_alloc (wanted_none rfl) rfl F39 rfl M39 8 (t := 26) (c := numA 0) (y_new_num rfl) ?_
        intro g40 a40 w40 F40 M40
        clear F39 M39
        refine wl_st (wanted_none rfl) rfl F40 M40 (k := 7) rfl _ _ _ rfl (F40.get (t := 13) rfl) (F40.get (t := 47) rfl) (numA L) (numA L) rfl (Nat.le_of_ble_eq_true rfl) (numA_cells _) (y_put0 rfl) size26 ?_
        intro w41 M41
        clear M40
        refine wl_st (wanted_none rfl) rfl F40 M41 (k := 8) rfl _ _ _ rfl (F40.get (t := 14) rfl) (F40.get (t := 48) rfl) (numA H) (numA H) rfl (Nat.le_of_ble_eq_true rfl) (numA_cells _) (y_put0 rfl) size26 ?_
        intro w42 M42
        clear M41
        refine hK32 _ _ ?_
        refine wp_seq_k fun K43 hK43 => ?_
        refine wp_region_lit ?_
        refine wl_run (w' := w42) (wanted_none rfl) rfl F40 rfl (numV L) (y_ldN _ _ rfl (F40.get (t := 13) rfl) (M42.blk (k := 7) rfl) (numA L) (y_all rfl) Try.underlying26 rfl size26) fun a44 F44 => ?_
        clear F40
        refine wl_run (w' := w42) (wanted_none rfl) rfl F44 rfl (numV H) (y_ldN _ _ rfl (F44.get (t := 14) rfl) (M42.blk (k := 8) rfl) (numA H) (y_all rfl) Try.underlying26 rfl size26) fun a45 F45 => ?_
        clear F44
        refine wl_run (w' := w42) (wanted_none rfl) rfl F45 rfl (.pointer (some ⟨g25, 9, none⟩)) (by unfold execOp; simp only [(F45.get (t := 9) rfl)]; kernel_rfl) fun a46 F46 => ?_
        clear F45
        refine wl_run (w' := w42) (wanted_none rfl) rfl F46 rfl (numV (p / 2)) (y_ldN _ _ rfl (F46.get (t := 52) rfl) (M42.blk (k := 3) rfl) (numA (p / 2)) groupA_q Try.underlying26 rfl size26) fun a47 F47 => ?_
        clear F46
        refine wl_call (wanted_none rfl) rfl F47 rfl rfl (enters_of Try.func37 (by kernel_rfl) rfl) #[numV L, numV H, numV (p / 2)] (args3 (F47.get (t := 50) rfl) (F47.get (t := 51) rfl) (F47.get (t := 53) rfl)) (call_ex (z2 w42)) ?_
        rintro _ w48 a48 ⟨rfl, b48⟩ F48
        have M48 := M42.step b48
        refine wl_run (w' := w48) (wanted_none rfl) rfl F48 rfl (.tuple #[numV W, .bool true]) (run_mv _ (.inl rfl) (F48.get (t := 54) rfl)) fun a49 F49 => ?_
        clear F48
        refine wl_run (w' := w48) (wanted_none rfl) rfl F49 rfl (numV W) (y_ext _ _ rfl (F49.get (t := 49) rfl) rfl) fun a50 F50 => ?_
        clear F49
        refine wl_run (w' := w48) (wanted_none rfl) rfl F50 rfl (.bool true) (y_ext _ _ rfl (F50.get (t := 49) rfl) rfl) fun a51 F51 => ?_
        clear F50
        refine wl_alloc (wanted_none rfl) rfl F51 rfl M48 9 (t := 26) (c := numA 0) (y_new_num rfl) ?_
        intro g52 a52 w52 F52 M52
        clear F51 M48
        refine wl_st (wanted_none rfl) rfl F52 M52 (k := 9) rfl _ _ _ rfl (F52.get (t := 15) rfl) (F52.get (t := 55) rfl) (numA W) (numA W) rfl (Nat.le_of_ble_eq_true rfl) (numA_cells _) (y_put0 rfl) size26 ?_
        intro w53 M53
        clear M52
        refine wl_run (w' := w53) (wanted_none rfl) rfl F52 rfl (.bool true) (run_mv _ (.inr rfl) (F52.get (t := 56) rfl)) fun a54 F54 => ?_
        clear F52
        refine hK43 _ _ ?_
        refine wp_seq_k fun K55 hK55 => ?_
        refine region_fx F54 [StK.eq (.agg (groupA k p (p / 2) 4)), StK.eq (.agg (groupA k p (p / 2) 4)), StK.eq (numV x), StK.eq (numV u), StK.eq (numV X), StK.eq (numV v), StK.eq (numV Z), StK.eq (.agg (groupA k p (p / 2) 4)), StK.eq (.agg (groupA k p (p / 2) 4)), StK.eq (numV x), StK.eq (numV v), StK.eq (numV Y), StK.eq (numV u), StK.eq (numV Z), StK.eq (.bool true), StK.eq (.bool true), StK.eq (.agg (groupA k p (p / 2) 4)), StK.eq (.agg (groupA k p (p / 2) 4)), StK.eq (numV x), StK.eq (numV u), StK.eq (numV X), StK.eq (numV v), StK.eq (numV Z), StK.eq (.agg (groupA k p (p / 2) 4)), StK.eq (numV x), StK.eq (numV W), StK.eq (numV Z), StK.eq (.bool true), StK.eq (.bool true), StK.eq (.bool true)] 30 rfl (by kernel_rfl) ⟨?_, ?_, ?_, ?_, ?_, ?_, ?_, ?_, ?_, ?_, ?_, ?_, ?_, ?_, ?_, ?_, ?_, ?_, ?_, ?_, ?_, ?_, ?_, ?_, ?_, ?_, ?_, ?_, ?_, ?_, trivial⟩ ?_
        · intro ua uw hb hd
          have e9 : ua.eval (.tmp 9) = .pointer (some ⟨g25, 0, none⟩) := (show ua.eval (.tmp 9) = _ from hd 9 (by decide)).trans (F54.get (t := 9) rfl)
          exact hop_runK (F := (StK.eq (.agg (groupA k p (p / 2) 4))).F) (wanted_none rfl) (.agg (groupA k p (p / 2) 4)) (y_ldN _ _ rfl e9 ((M53.step hb).blk (k := 3) rfl) (groupA k p (p / 2) 4) (y_all rfl) Try.underlying28 rfl (by kernel_rfl)) rfl
        · intro ua uw hb hd
          have e9 : ua.eval (.tmp 9) = .pointer (some ⟨g25, 0, none⟩) := (show ua.eval (.tmp 9) = _ from hd 9 (by decide)).trans (F54.get (t := 9) rfl)
          exact hop_runK (F := (StK.eq (.agg (groupA k p (p / 2) 4))).F) (wanted_none rfl) (.agg (groupA k p (p / 2) 4)) (y_ldN _ _ rfl e9 ((M53.step hb).blk (k := 3) rfl) (groupA k p (p / 2) 4) (y_all rfl) Try.underlying28 rfl (by kernel_rfl)) rfl
        · intro ua uw hb hd
          have e10 : ua.eval (.tmp 10) = .pointer (some ⟨gp9x27, 0, none⟩) := (show ua.eval (.tmp 10) = _ from hd 10 (by decide)).trans (F54.get (t := 10) rfl)
          exact hop_runK (F := (StK.eq (numV x)).F) (wanted_none rfl) (numV x) (y_ldN _ _ rfl e10 ((M53.step hb).blk (k := 4) rfl) (numA x) (y_all rfl) Try.underlying26 rfl size26) rfl
        · intro ua uw hb hd
          have e11 : ua.eval (.tmp 11) = .pointer (some ⟨gp10x27, 0, none⟩) := (show ua.eval (.tmp 11) = _ from hd 11 (by decide)).trans (F54.get (t := 11) rfl)
          exact hop_runK (F := (StK.eq (numV u)).F) (wanted_none rfl) (numV u) (y_ldN _ _ rfl e11 ((M53.step hb).blk (k := 5) rfl) (numA u) (y_all rfl) Try.underlying26 rfl size26) rfl
        · intro ua uw hb hd
          have e58 : ua.eval (.tmp 58) = .agg (groupA k p (p / 2) 4) := hd 58 (by decide)
          have e59 : ua.eval (.tmp 59) = numV x := hd 59 (by decide)
          have e60 : ua.eval (.tmp 60) = numV u := hd 60 (by decide)
          exact hop_callK (F := (StK.eq (numV X)).F) (wanted_none rfl) hb.size rfl #[.agg (groupA k p (p / 2) 4), numV x, numV u] (args3 e58 e59 e60) (enters_of Try.func23 (by kernel_rfl) rfl) (call_eqS (z3 uw))
        · intro ua uw hb hd
          have e12 : ua.eval (.tmp 12) = .pointer (some ⟨gp11x27, 0, none⟩) := (show ua.eval (.tmp 12) = _ from hd 12 (by decide)).trans (F54.get (t := 12) rfl)
          exact hop_runK (F := (StK.eq (numV v)).F) (wanted_none rfl) (numV v) (y_ldN _ _ rfl e12 ((M53.step hb).blk (k := 6) rfl) (numA v) (y_all rfl) Try.underlying26 rfl size26) rfl
        · intro ua uw hb hd
          have e57 : ua.eval (.tmp 57) = .agg (groupA k p (p / 2) 4) := hd 57 (by decide)
          have e61 : ua.eval (.tmp 61) = numV X := hd 61 (by decide)
          have e62 : ua.eval (.tmp 62) = numV v := hd 62 (by decide)
          exact hop_callK (F := (StK.eq (numV Z)).F) (wanted_none rfl) hb.size rfl #[.agg (groupA k p (p / 2) 4), numV X, numV v] (args3 e57 e61 e62) (enters_of Try.func23 (by kernel_rfl) rfl) (call_eqS (z4 uw))
        · intro ua uw hb hd
          have e9 : ua.eval (.tmp 9) = .pointer (some ⟨g25, 0, none⟩) := (show ua.eval (.tmp 9) = _ from hd 9 (by decide)).trans (F54.get (t := 9) rfl)
          exact hop_runK (F := (StK.eq (.agg (groupA k p (p / 2) 4))).F) (wanted_none rfl) (.agg (groupA k p (p / 2) 4)) (y_ldN _ _ rfl e9 ((M53.step hb).blk (k := 3) rfl) (groupA k p (p / 2) 4) (y_all rfl) Try.underlying28 rfl (by kernel_rfl)) rfl
        · intro ua uw hb hd
          have e9 : ua.eval (.tmp 9) = .pointer (some ⟨g25, 0, none⟩) := (show ua.eval (.tmp 9) = _ from hd 9 (by decide)).trans (F54.get (t := 9) rfl)
          exact hop_runK (F := (StK.eq (.agg (groupA k p (p / 2) 4))).F) (wanted_none rfl) (.agg (groupA k p (p / 2) 4)) (y_ldN _ _ rfl e9 ((M53.step hb).blk (k := 3) rfl) (groupA k p (p / 2) 4) (y_all rfl) Try.underlying28 rfl (by kernel_rfl)) rfl
        · intro ua uw hb hd
          have e10 : ua.eval (.tmp 10) = .pointer (some ⟨gp9x27, 0, none⟩) := (show ua.eval (.tmp 10) = _ from hd 10 (by decide)).trans (F54.get (t := 10) rfl)
          exact hop_runK (F := (StK.eq (numV x)).F) (wanted_none rfl) (numV x) (y_ldN _ _ rfl e10 ((M53.step hb).blk (k := 4) rfl) (numA x) (y_all rfl) Try.underlying26 rfl size26) rfl
        · intro ua uw hb hd
          have e12 : ua.eval (.tmp 12) = .pointer (some ⟨gp11x27, 0, none⟩) := (show ua.eval (.tmp 12) = _ from hd 12 (by decide)).trans (F54.get (t := 12) rfl)
          exact hop_runK (F := (StK.eq (numV v)).F) (wanted_none rfl) (numV v) (y_ldN _ _ rfl e12 ((M53.step hb).blk (k := 6) rfl) (numA v) (y_all rfl) Try.underlying26 rfl size26) rfl
        · intro ua uw hb hd
          have e65 : ua.eval (.tmp 65) = .agg (groupA k p (p / 2) 4) := hd 65 (by decide)
          have e66 : ua.eval (.tmp 66) = numV x := hd 66 (by decide)
          have e67 : ua.eval (.tmp 67) = numV v := hd 67 (by decide)
          exact hop_callK (F := (StK.eq (numV Y)).F) (wanted_none rfl) hb.size rfl #[.agg (groupA k p (p / 2) 4), numV x, numV v] (args3 e65 e66 e67) (enters_of Try.func23 (by kernel_rfl) rfl) (call_eqS (z5 uw))
        · intro ua uw hb hd
          have e11 : ua.eval (.tmp 11) = .pointer (some ⟨gp10x27, 0, none⟩) := (show ua.eval (.tmp 11) = _ from hd 11 (by decide)).trans (F54.get (t := 11) rfl)
          exact hop_runK (F := (StK.eq (numV u)).F) (wanted_none rfl) (numV u) (y_ldN _ _ rfl e11 ((M53.step hb).blk (k := 5) rfl) (numA u) (y_all rfl) Try.underlying26 rfl size26) rfl
        · intro ua uw hb hd
          have e64 : ua.eval (.tmp 64) = .agg (groupA k p (p / 2) 4) := hd 64 (by decide)
          have e68 : ua.eval (.tmp 68) = numV Y := hd 68 (by decide)
          have e69 : ua.eval (.tmp 69) = numV u := hd 69 (by decide)
          exact hop_callK (F := (StK.eq (numV Z)).F) (wanted_none rfl) hb.size rfl #[.agg (groupA k p (p / 2) 4), numV Y, numV u] (args3 e64 e68 e69) (enters_of Try.func23 (by kernel_rfl) rfl) (call_eqS (z6 uw))
        · intro ua uw hb hd
          have e63 : ua.eval (.tmp 63) = numV Z := hd 63 (by decide)
          have e70 : ua.eval (.tmp 70) = numV Z := hd 70 (by decide)
          exact hop_runK (F := (StK.eq (.bool true)).F) (wanted_none rfl) (.bool true) (y_eqA _ _ _ _ rfl e63 e70 (by kernel_rfl) (eqn_same Z _)) rfl
        · intro ua uw hb hd
          have e71 : ua.eval (.tmp 71) = .bool true := hd 71 (by decide)
          exact hop_runK (F := (StK.eq (.bool true)).F) (wanted_none rfl) (.bool true) (run_mv _ (.inl rfl) e71) rfl
        · intro ua uw hb hd
          have eg : ua.eval (.tmp 72) = .bool true := hd 72 (by decide)
          have e9 : ua.eval (.tmp 9) = .pointer (some ⟨g25, 0, none⟩) := (show ua.eval (.tmp 9) = _ from hd 9 (by decide)).trans (F54.get (t := 9) rfl)
          exact hop_runK (F := (StK.eq (.agg (groupA k p (p / 2) 4))).F) (wanted_yes rfl rfl rfl eg) (.agg (groupA k p (p / 2) 4)) (y_ldN _ _ rfl e9 ((M53.step hb).blk (k := 3) rfl) (groupA k p (p / 2) 4) (y_all rfl) Try.underlying28 rfl (by kernel_rfl)) rfl
        · intro ua uw hb hd
          have eg : ua.eval (.tmp 72) = .bool true := hd 72 (by decide)
          have e9 : ua.eval (.tmp 9) = .pointer (some ⟨g25, 0, none⟩) := (show ua.eval (.tmp 9) = _ from hd 9 (by decide)).trans (F54.get (t := 9) rfl)
          exact hop_runK (F := (StK.eq (.agg (groupA k p (p / 2) 4))).F) (wanted_yes rfl rfl rfl eg) (.agg (groupA k p (p / 2) 4)) (y_ldN _ _ rfl e9 ((M53.step hb).blk (k := 3) rfl) (groupA k p (p / 2) 4) (y_all rfl) Try.underlying28 rfl (by kernel_rfl)) rfl
        · intro ua uw hb hd
          have eg : ua.eval (.tmp 72) = .bool true := hd 72 (by decide)
          have e10 : ua.eval (.tmp 10) = .pointer (some ⟨gp9x27, 0, none⟩) := (show ua.eval (.tmp 10) = _ from hd 10 (by decide)).trans (F54.get (t := 10) rfl)
          exact hop_runK (F := (StK.eq (numV x)).F) (wanted_yes rfl rfl rfl eg) (numV x) (y_ldN _ _ rfl e10 ((M53.step hb).blk (k := 4) rfl) (numA x) (y_all rfl) Try.underlying26 rfl size26) rfl
        · intro ua uw hb hd
          have eg : ua.eval (.tmp 72) = .bool true := hd 72 (by decide)
          have e11 : ua.eval (.tmp 11) = .pointer (some ⟨gp10x27, 0, none⟩) := (show ua.eval (.tmp 11) = _ from hd 11 (by decide)).trans (F54.get (t := 11) rfl)
          exact hop_runK (F := (StK.eq (numV u)).F) (wanted_yes rfl rfl rfl eg) (numV u) (y_ldN _ _ rfl e11 ((M53.step hb).blk (k := 5) rfl) (numA u) (y_all rfl) Try.underlying26 rfl size26) rfl
        · intro ua uw hb hd
          have eg : ua.eval (.tmp 72) = .bool true := hd 72 (by decide)
          have e74 : ua.eval (.tmp 74) = .agg (groupA k p (p / 2) 4) := hd 74 (by decide)
          have e75 : ua.eval (.tmp 75) = numV x := hd 75 (by decide)
          have e76 : ua.eval (.tmp 76) = numV u := hd 76 (by decide)
          exact hop_callK (F := (StK.eq (numV X)).F) (wanted_yes rfl rfl rfl eg) hb.size rfl #[.agg (groupA k p (p / 2) 4), numV x, numV u] (args3 e74 e75 e76) (enters_of Try.func23 (by kernel_rfl) rfl) (call_eqS (z3 uw))
        · intro ua uw hb hd
          have eg : ua.eval (.tmp 72) = .bool true := hd 72 (by decide)
          have e12 : ua.eval (.tmp 12) = .pointer (some ⟨gp11x27, 0, none⟩) := (show ua.eval (.tmp 12) = _ from hd 12 (by decide)).trans (F54.get (t := 12) rfl)
          exact hop_runK (F := (StK.eq (numV v)).F) (wanted_yes rfl rfl rfl eg) (numV v) (y_ldN _ _ rfl e12 ((M53.step hb).blk (k := 6) rfl) (numA v) (y_all rfl) Try.underlying26 rfl size26) rfl
        · intro ua uw hb hd
          have eg : ua.eval (.tmp 72) = .bool true := hd 72 (by decide)
          have e73 : ua.eval (.tmp 73) = .agg (groupA k p (p / 2) 4) := hd 73 (by decide)
          have e77 : ua.eval (.tmp 77) = numV X := hd 77 (by decide)
          have e78 : ua.eval (.tmp 78) = numV v := hd 78 (by decide)
          exact hop_callK (F := (StK.eq (numV Z)).F) (wanted_yes rfl rfl rfl eg) hb.size rfl #[.agg (groupA k p (p / 2) 4), numV X, numV v] (args3 e73 e77 e78) (enters_of Try.func23 (by kernel_rfl) rfl) (call_eqS (z4 uw))
        · intro ua uw hb hd
          have eg : ua.eval (.tmp 72) = .bool true := hd 72 (by decide)
          have e9 : ua.eval (.tmp 9) = .pointer (some ⟨g25, 0, none⟩) := (show ua.eval (.tmp 9) = _ from hd 9 (by decide)).trans (F54.get (t := 9) rfl)
          exact hop_runK (F := (StK.eq (.agg (groupA k p (p / 2) 4))).F) (wanted_yes rfl rfl rfl eg) (.agg (groupA k p (p / 2) 4)) (y_ldN _ _ rfl e9 ((M53.step hb).blk (k := 3) rfl) (groupA k p (p / 2) 4) (y_all rfl) Try.underlying28 rfl (by kernel_rfl)) rfl
        · intro ua uw hb hd
          have eg : ua.eval (.tmp 72) = .bool true := hd 72 (by decide)
          have e10 : ua.eval (.tmp 10) = .pointer (some ⟨gp9x27, 0, none⟩) := (show ua.eval (.tmp 10) = _ from hd 10 (by decide)).trans (F54.get (t := 10) rfl)
          exact hop_runK (F := (StK.eq (numV x)).F) (wanted_yes rfl rfl rfl eg) (numV x) (y_ldN _ _ rfl e10 ((M53.step hb).blk (k := 4) rfl) (numA x) (y_all rfl) Try.underlying26 rfl size26) rfl
        · intro ua uw hb hd
          have eg : ua.eval (.tmp 72) = .bool true := hd 72 (by decide)
          have e15 : ua.eval (.tmp 15) = .pointer (some ⟨g52, 0, none⟩) := (show ua.eval (.tmp 15) = _ from hd 15 (by decide)).trans (F54.get (t := 15) rfl)
          exact hop_runK (F := (StK.eq (numV W)).F) (wanted_yes rfl rfl rfl eg) (numV W) (y_ldN _ _ rfl e15 ((M53.step hb).blk (k := 9) rfl) (numA W) (y_all rfl) Try.underlying26 rfl size26) rfl
        · intro ua uw hb hd
          have eg : ua.eval (.tmp 72) = .bool true := hd 72 (by decide)
          have e80 : ua.eval (.tmp 80) = .agg (groupA k p (p / 2) 4) := hd 80 (by decide)
          have e81 : ua.eval (.tmp 81) = numV x := hd 81 (by decide)
          have e82 : ua.eval (.tmp 82) = numV W := hd 82 (by decide)
          exact hop_callK (F := (StK.eq (numV Z)).F) (wanted_yes rfl rfl rfl eg) hb.size rfl #[.agg (groupA k p (p / 2) 4), numV x, numV W] (args3 e80 e81 e82) (enters_of Try.func23 (by kernel_rfl) rfl) (call_eqS (z7 uw))
        · intro ua uw hb hd
          have eg : ua.eval (.tmp 72) = .bool true := hd 72 (by decide)
          have e79 : ua.eval (.tmp 79) = numV Z := hd 79 (by decide)
          have e83 : ua.eval (.tmp 83) = numV Z := hd 83 (by decide)
          exact hop_runK (F := (StK.eq (.bool true)).F) (wanted_yes rfl rfl rfl eg) (.bool true) (y_eqA _ _ _ _ rfl e79 e83 (by kernel_rfl) (eqn_same Z _)) rfl
        · intro ua uw hb hd
          have e72 : ua.eval (.tmp 72) = .bool true := hd 72 (by decide)
          have e84 : ua.eval (.tmp 84) = .bool true := hd 84 (by decide)
          exact hop_runK (F := (StK.eq (.bool true)).F) (wanted_none rfl) (.bool true) (run_pick_t rfl e72 e84) rfl
        · intro ua uw hb hd
          have e85 : ua.eval (.tmp 85) = .bool true := hd 85 (by decide)
          exact hop_runK (F := (StK.eq (.bool true)).F) (wanted_none rfl) (.bool true) (run_mv _ (.inr rfl) e85) rfl
        intro p56 a56 w56 b56 G56 y56
        obtain ⟨-, -, -, -, -, -, -, -, -, -, -, -, -, -, -, -, -, -, -, -, -, -, -, -, -, -, -, -, -, q29, -⟩ := y56
        have r29 : p56 29 = .bool true := q29 (by decide)
        simp only [List.take_succ_cons, List.take_zero, layV, Nat.zero_add, Nat.reduceAdd, r29] at G56
        have M56 := M53.kc b56
        clear F54 M53 r29 q29
        refine hK55 _ _ ?_
        refine wp_ret ?_
        try simp only [Exit.then, Exit.inBlock, Exit.jump]
        exact bodyPost_ret (res1 rfl (G56.get (t := 8) rfl)) G56.defers ⟨rfl, M56.below⟩
end Go.Proofs.Ytgccbfkofkohpaa
