/- sentinellaw4.GroupNumbers: the walk. -/
import Derived.Test.YtgccbfkofkohpaaGpGroup
import Derived.Test.YtgccbfkofkohpaaGpKnown
import Derived.Test.YtgccbfkofkohpaaGaTx
import Derived.Test.YtgccbfkofkohpaaGaSz
import Derived.Test.YtgccbfkofkohpaaSReg
import Derived.Test.YtgccbfkofkohpaaSRBytes
import Derived.Test.YtgccbfkofkohpaaGpEq
import Derived.Test.YtgccbfkofkohpaaRefP
namespace Go.Proofs.Ytgccbfkofkohpaa
set_option linter.unusedVariables false
set_option maxRecDepth 20000
set_option linter.unusedSimpArgs false
open Go.ChangeShapes Go.WideShapes Go.ChangeAt Go.RowKit
theorem rof_b {w : World} {u : Value} {L : List (List UInt8)} (hu : IsP w L u) (hL : L.length ≤ 10) (hl : ∀ l ∈ L, l.length ≤ 2000) (hc : (cat L).length ≤ 5000) :
    Calls Try.prog 42 #[u] w fun e w' => e = .returned (.agg (arr16 (outF (macW [] L)))) ∧ Below w.heap.size w w' := by
  obtain ⟨B, d, rfl, k1, k2, k3⟩ := hu
  exact rof_any B L _ d rfl k1 hL hl hc w k3
theorem rread_b {l : List UInt8} {v : Value} {N : Nat} (w : World) (h : IsB w l v) (hl : l.length ≤ 32) (hN : readN l = N) :
    Calls Try.prog 40 #[v] w fun e w' => e = .returned (.tuple #[numV N, .bool true]) ∧ Below w.heap.size w w' := by
  subst hN
  obtain ⟨A, c, rfl, h1, h2, h3, h4⟩ := h
  exact rread_any A l _ c rfl hl w h4
theorem numbers_pack {k : Int} {p : Nat} {l : List UInt8} (hg : GOk k p) : ∃ (N Q1 r e z : Nat) (u c : Int), RunsTo 38 #[numV (p / 2), numV 1] (.tuple #[numV Q1, .int .u32 u]) ∧
    RunsTo 37 #[numV N, numV 0, numV Q1] (.tuple #[numV r, .bool true]) ∧
    RunsTo 43 #[numV r, numV 1] (.tuple #[numV e, .int .u32 c]) ∧
    RunsTo 22 #[.int .i64 1] (numV 1) ∧ readN (sumY (outF (macW [] [[101, 120, 112, 111, 110, 101, 110, 116], l]))) = N ∧ expN (p / 2) l = e ∧ intoN p l = z := by
  obtain ⟨-, -, po, p1, p2, pp, pq⟩ := hg
  have hp : p < 4294967296 ^ 8 := Nat.lt_trans p2 (by decide)
  have hQ : p / 2 < 4294967296 ^ 8 := Nat.lt_of_le_of_lt (Nat.div_le_self _ _) hp
  have hs : subN (p / 2) 1 = p / 2 - 1 := by unfold subN; rw [if_pos (by omega)]
  obtain ⟨N, hN⟩ : ∃ N, readN (sumY (outF (macW [] [[101, 120, 112, 111, 110, 101, 110, 116], l]))) = N := ⟨_, rfl⟩
  have hNl : N < 4294967296 ^ 8 := by
    rw [← hN]
    exact readN_lt_num (by rw [sumY_len]; decide)
  obtain ⟨r, hr⟩ : ∃ r, N % (p / 2 - 1) = r := ⟨_, rfl⟩
  have hrl : r < p := by rw [← hr]; exact Nat.lt_trans (Nat.mod_lt _ (by omega)) (by omega)
  have hrr : r < 4294967296 ^ 8 := Nat.lt_trans hrl hp
  have hr1 : r + 1 < 4294967296 ^ 8 := Nat.lt_trans (m := 16777218) (by omega) (by decide)
  have ha : addN r 1 = r + 1 := by unfold addN; exact if_pos hr1
  refine ⟨N, p / 2 - 1, r, r + 1, intoN p l, lentI (p / 2) 1, overI r 1, ?_, fun w => ?_, ?_, fun w => from_ref 1 (by decide) (by decide) w, hN, ?_, rfl⟩
  · have := rsub_any (p / 2) 1 hQ (by decide)
    rwa [hs] at this
  · have := rrest_pos N 0 (p / 2 - 1) hNl (by decide) (Nat.lt_of_le_of_lt (Nat.sub_le _ _) hQ) (by omega) w
    rwa [Nat.zero_mul, Nat.add_zero, hr] at this
  · have := radd_any r 1 hrr (by decide)
    rwa [ha] at this
  · rw [expN_eq, hN, hr]
set_option maxRecDepth 100000 in
set_option maxHeartbeats 8000000 in
theorem GroupNumbers_walk (a0 : Int) (hk0 : -9223372036854775808 ≤ a0) (hl0 : a0 < 9223372036854775808)
    (A1 : Option Addr) (n1 cap1 : Nat) (l1 : List UInt8) (hn1 : l1.length = n1) (hc1 : n1 ≤ cap1) (hm1 : cap1 ≤ maxLen) (hz1 : A1 = none → cap1 = 0) (w : World) (hr1 : Rd w A1 l1) :
    Calls Try.prog 12 #[.int .i64 a0, .slice A1 n1 cap1] w fun e w' => e = .returned (.bool true) ∧ Below w.heap.size w w' := by
  have ib1 : IsB w l1 (.slice A1 n1 cap1) := hr1.isB' hn1 hc1 hm1 hz1
  obtain ⟨k, p, hg, kG⟩ := group_any hk0 hl0
  obtain ⟨N, Q1, r, e, z, u, c, z1, z2, z3, z4, hN, hE, hZ⟩ := numbers_pack (l := l1) hg
  have hpl : p < 4294967296 ^ 8 := Nat.lt_trans hg.2.2.2.2.1 (by decide)
  have hp1 : 1 < p := by have := hg.2.2.2.1; omega
  have hql : p / 2 < 4294967296 ^ 8 := Nat.lt_of_le_of_lt (Nat.div_le_self _ _) hpl
  have kE := fun (w : World) (v : Value) (h : IsB w l1 v) => gexp_any k p (p / 2) 4 (by have := hg.2.2.2.1; omega) hql l1 v w h
  have kI := fun (w : World) (v : Value) (h : IsB w l1 v) => ginto_any k p (p / 2) 4 hg.2.2.1 hp1 hpl l1 v w h
  rw [hE] at kE
  rw [hZ] at kI
  obtain ⟨S, hS⟩ : ∃ S, macW [] [[101, 120, 112, 111, 110, 101, 110, 116], l1] = S := ⟨_, rfl⟩
  rw [hS] at hN
  have kB := fun w => rbytes_any (outF S) (outF_bd S) w
  have hsl := sumY_len (outF S)
  by_cases hbig : 100 < l1.length
  · refine calls_fx (args := [.int .i64 a0, .slice A1 n1 cap1]) 67 Try.func12 rfl rfl rfl ?_
    intro fa F
    have M := Mx.start w
    replace M := M.argB 0 ib1 (fun g e => by cases e)
    refine wp_seq_k fun K1 hK1 => ?_
    refine wp_region_lit ?_
    refine wl_run (w' := w) (wanted_none rfl) rfl F rfl (.bool false) (run_mv _ (.inr rfl) rfl) fun a2 F2 => ?_
    clear F
    refine hK1 _ _ ?_
    refine wp_seq_k fun K3 hK3 => ?_
    refine wp_seq_k fun K4 hK4 => ?_
    refine wp_region_lit ?_
    refine wl_call (wanted_none rfl) rfl F2 rfl rfl (enters_of Try.func13 (by kernel_rfl) rfl) #[] (args0) (call_ex (gknown_any w)) ?_
    rintro _ w5 a5 ⟨rfl, b5⟩ F5
    have M5 := M.step b5
    refine wl_run (w' := w5) (wanted_none rfl) rfl F5 rfl (.bool false) (run_not _ _ rfl (F5.get (t := 14) rfl)) fun a6 F6 => ?_
    clear F5
    refine hK4 _ _ ?_
    refine wp_cond_false (F6.get (t := 15) rfl) ?_
    refine wp_skip ?_
    refine hK3 _ _ ?_
    refine wp_seq_k fun K7 hK7 => ?_
    refine wp_seq_k fun K8 hK8 => ?_
    refine wp_region_lit ?_
    refine wl_run (w' := w5) (wanted_none rfl) rfl F6 rfl (.slice A1 n1 cap1) (run_mv _ (.inl rfl) (F6.get (t := 1) rfl)) fun a9 F9 => ?_
    clear F6
    refine wl_run (w' := w5) (wanted_none rfl) rfl F9 rfl (.int .i64 (l1.length : Int)) (y_len _ rfl (F9.get (t := 16) rfl) (M5.isb (k := 0) rfl) rfl) fun a10 F10 => ?_
    clear F9
    refine wl_run (w' := w5) (wanted_none rfl) rfl F10 rfl (.bool true) (y_gtr _ _ _ _ rfl (F10.get (t := 17) rfl) rfl (decide_eq_true (show (100 : Int) < (l1.length : Int) by omega))) fun a11 F11 => ?_
    clear F10
    refine hK8 _ _ ?_
    refine wp_cond_true (F11.get (t := 18) rfl) ?_
    refine wp_seq_k fun K12 hK12 => ?_
    refine wp_region_lit ?_
    refine wl_run (w' := w5) (wanted_none rfl) rfl F11 rfl (.bool true) (run_mv _ (.inr rfl) rfl) fun a13 F13 => ?_
    clear F11
    refine hK12 _ _ ?_
    refine wp_ret ?_
    try simp only [Exit.then, Exit.inBlock, Exit.jump]
    exact bodyPost_ret (res1 rfl (F13.get (t := 4) rfl)) F13.defers ⟨rfl, M5.below⟩
  · have kM := fun (w : World) (u : Value) (h : IsP w [[101, 120, 112, 111, 110, 101, 110, 116], l1] u) => rof_b h (show 2 ≤ 10 by decide) (fun l hl => by
      rcases List.mem_cons.1 hl with rfl | hl
      · decide
      · rcases List.mem_cons.1 hl with rfl | hl
        · omega
        · cases hl) (by simp only [cat, List.length_append, eightL_len, List.length_cons, List.length_nil]; omega)
    rw [hS] at kM
    clear hE hZ hS
    refine calls_fx (args := [.int .i64 a0, .slice A1 n1 cap1]) 67 Try.func12 rfl rfl rfl ?_
    intro fa F
    have M := Mx.start w
    replace M := M.argB 0 ib1 (fun g e => by cases e)
    refine wp_seq_k fun K1 hK1 => ?_
    refine wp_region_lit ?_
    refine wl_run (w' := w) (wanted_none rfl) rfl F rfl (.bool false) (run_mv _ (.inr rfl) rfl) fun a2 F2 => ?_
    clear F
    refine hK1 _ _ ?_
    refine wp_seq_k fun K3 hK3 => ?_
    refine wp_seq_k fun K4 hK4 => ?_
    refine wp_region_lit ?_
    refine wl_call (wanted_none rfl) rfl F2 rfl rfl (enters_of Try.func13 (by kernel_rfl) rfl) #[] (args0) (call_ex (gknown_any w)) ?_
    rintro _ w5 a5 ⟨rfl, b5⟩ F5
    have M5 := M.step b5
    refine wl_run (w' := w5) (wanted_none rfl) rfl F5 rfl (.bool false) (run_not _ _ rfl (F5.get (t := 14) rfl)) fun a6 F6 => ?_
    clear F5
    refine hK4 _ _ ?_
    refine wp_cond_false (F6.get (t := 15) rfl) ?_
    refine wp_skip ?_
    refine hK3 _ _ ?_
    refine wp_seq_k fun K7 hK7 => ?_
    refine wp_seq_k fun K8 hK8 => ?_
    refine wp_region_lit ?_
    refine wl_run (w' := w5) (wanted_none rfl) rfl F6 rfl (.slice A1 n1 cap1) (run_mv _ (.inl rfl) (F6.get (t := 1) rfl)) fun a9 F9 => ?_
    clear F6
    refine wl_run (w' := w5) (wanted_none rfl) rfl F9 rfl (.int .i64 (l1.length : Int)) (y_len _ rfl (F9.get (t := 16) rfl) (M5.isb (k := 0) rfl) rfl) fun a10 F10 => ?_
    clear F9
    refine wl_run (w' := w5) (wanted_none rfl) rfl F10 rfl (.bool false) (y_gtr _ _ _ _ rfl (F10.get (t := 17) rfl) rfl (decide_eq_false (show ¬ (100 : Int) < (l1.length : Int) by omega))) fun a11 F11 => ?_
    clear F10
    refine hK8 _ _ ?_
    refine wp_cond_false (F11.get (t := 18) rfl) ?_
    refine wp_skip ?_
    refine hK7 _ _ ?_
    refine wp_seq_k fun K12 hK12 => ?_
    refine wp_region_lit ?_
    refine wl_run (w' := w5) (wanted_none rfl) rfl F11 rfl (.int .i64 a0) (run_mv _ (.inl rfl) (F11.get (t := 0) rfl)) fun a13 F13 => ?_
    clear F11
    refine wl_call (wanted_none rfl) rfl F13 rfl rfl (enters_of Try.func20 (by kernel_rfl) rfl) #[.int .i64 a0] (args1 (F13.get (t := 19) rfl)) (call_ex (kG w5)) ?_
    rintro _ w14 a14 ⟨rfl, b14⟩ F14
    have M14 := M5.step b14
    refine wl_alloc (wanted_none rfl) rfl F14 rfl M14 1 (t := 28) (c := groupA 0 0 0 0) (by unfold execOp; rw [groupA_zero]; kernel_rfl) ?_
    intro g15 a15 w15 F15 M15
    clear F14 M14
    refine wl_st (wanted_none rfl) rfl F15 M15 (k := 1) rfl _ _ _ rfl (F15.get (t := 5) rfl) (F15.get (t := 20) rfl) (groupA k p (p / 2) 4) (groupA k p (p / 2) 4) rfl (Nat.le_of_ble_eq_true rfl) (groupA_cells _ _ _ _) (y_put0 rfl) (by kernel_rfl) ?_
    intro w16 M16
    clear M15
    refine hK12 _ _ ?_
    refine wp_seq_k fun K17 hK17 => ?_
    refine region_fxU F15 [StK.lit w16.heap.size [101, 120, 112, 111, 110, 101, 110, 116], StK.lit w16.heap.size [101, 120, 112, 111, 110, 101, 110, 116], StK.eq (.slice A1 n1 cap1), StK.parts [[101, 120, 112, 111, 110, 101, 110, 116], l1], StK.eq (.agg (arr16 (outF S))), StK.bytes (sumY (outF S)), StK.eq (.tuple #[numV N, .bool true]), StK.eq (.tuple #[numV N, .bool true]), StK.eq (numV N), StK.eq (.bool true)] 10 (by kernel_rfl) rfl ⟨?_, ?_, ?_, ?_, ?_, ?_, ?_, ?_, ?_, ?_, trivial⟩ ?_
    · intro ua uw hb hd
      exact hop_lit (wanted_none rfl) hb.size [101, 120, 112, 111, 110, 101, 110, 116] (by decide) (by decide) _ rfl (by simp only [List.map_toArray, List.map_cons, List.map_nil]; kernel_rfl)
    · intro ua uw hb hd
      have l22 : LitB w16.heap.size uw [101, 120, 112, 111, 110, 101, 110, 116] (ua.eval (.tmp 22)) := hd 22 (by decide)
      have e22 := l22.isB
      exact hop_convK (wanted_none rfl) _ rfl l22
    · intro ua uw hb hd
      have e1 : ua.eval (.tmp 1) = .slice A1 n1 cap1 := (show ua.eval (.tmp 1) = _ from hd 1 (by decide)).trans (F15.get (t := 1) rfl)
      exact hop_runK (F := (StK.eq (.slice A1 n1 cap1)).F) (wanted_none rfl) (.slice A1 n1 cap1) (run_mv _ (.inl rfl) e1) rfl
    · intro ua uw hb hd
      have l23 : LitB w16.heap.size uw [101, 120, 112, 111, 110, 101, 110, 116] (ua.eval (.tmp 23)) := hd 23 (by decide)
      have e23 := l23.isB
      have e24 : ua.eval (.tmp 24) = .slice A1 n1 cap1 := hd 24 (by decide)
      exact hop_parts2 (wanted_none rfl) hb.size (.tmp 23) (.tmp 24) rfl e23 (by rw [e24]; exact ((M16.step hb).isb (k := 0) rfl))
    · intro ua uw hb hd
      have e25 : IsP uw [[101, 120, 112, 111, 110, 101, 110, 116], l1] (ua.eval (.tmp 25)) := hd 25 (by decide)
      exact hop_callK (F := (StK.eq (.agg (arr16 (outF S)))).F) (wanted_none rfl) hb.size rfl #[(ua.eval (.tmp 25))] (args1 rfl) (enters_of Try.func42 (by kernel_rfl) rfl) (call_eqS (kM _ _ e25))
    · intro ua uw hb hd
      have e26 : ua.eval (.tmp 26) = .agg (arr16 (outF S)) := hd 26 (by decide)
      exact hop_callK (F := (StK.bytes (sumY (outF S))).F) (wanted_none rfl) hb.size rfl #[.agg (arr16 (outF S))] (args1 e26) (enters_of Try.func41 (by kernel_rfl) rfl) ((kB uw).mono fun e w2 h => (by obtain ⟨v, h1, h2, h3⟩ := h; exact ⟨v, h1, h3, (show IsB w2 (sumY (outF S)) v from h2.isb)⟩))
    · intro ua uw hb hd
      have e27 : IsB uw (sumY (outF S)) (ua.eval (.tmp 27)) := hd 27 (by decide)
      exact hop_callK (F := (StK.eq (.tuple #[numV N, .bool true])).F) (wanted_none rfl) hb.size rfl #[(ua.eval (.tmp 27))] (args1 rfl) (enters_of Try.func40 (by kernel_rfl) rfl) (call_eqS (rread_b uw e27 (by rw [hsl]; decide) hN))
    · intro ua uw hb hd
      have e28 : ua.eval (.tmp 28) = .tuple #[numV N, .bool true] := hd 28 (by decide)
      exact hop_runK (F := (StK.eq (.tuple #[numV N, .bool true])).F) (wanted_none rfl) (.tuple #[numV N, .bool true]) (run_mv _ (.inl rfl) e28) rfl
    · intro ua uw hb hd
      have e21 : ua.eval (.tmp 21) = .tuple #[numV N, .bool true] := hd 21 (by decide)
      exact hop_runK (F := (StK.eq (numV N)).F) (wanted_none rfl) (numV N) (y_ext _ _ rfl e21 rfl) rfl
    · intro ua uw hb hd
      have e21 : ua.eval (.tmp 21) = .tuple #[numV N, .bool true] := hd 21 (by decide)
      exact hop_runK (F := (StK.eq (.bool true)).F) (wanted_none rfl) (.bool true) (y_ext _ _ rfl e21 rfl) rfl
    intro p18 a18 w18 b18 G18 y18
    obtain ⟨-, -, -, -, -, -, -, -, q8, q9, -⟩ := y18
    have r8 : p18 8 = numV N := q8 (by decide)
    have r9 : p18 9 = .bool true := q9 (by decide)
    simp only [List.take_succ_cons, List.take_zero, layV, Nat.zero_add, Nat.reduceAdd, r8, r9] at G18
    have M18 := M16.kc b18
    clear F15 M16 r8 q8 r9 q9
    simp only [List.drop_succ_cons, List.drop_zero]
    refine wl_alloc (wanted_none rfl) rfl G18 rfl M18 2 (t := 26) (c := numA 0) (y_new_num rfl) ?_
    intro g19 a19 w19 F19 M19
    clear G18 M18
    refine wl_st (wanted_none rfl) rfl F19 M19 (k := 2) rfl _ _ _ rfl (F19.get (t := 6) rfl) (F19.get (t := 29) rfl) (numA N) (numA N) rfl (Nat.le_of_ble_eq_true rfl) (numA_cells _) (y_put0 rfl) size26 ?_
    intro w20 M20
    clear M19
    refine wl_run (w' := w20) (wanted_none rfl) rfl F19 rfl (.bool true) (run_mv _ (.inr rfl) (F19.get (t := 30) rfl)) fun a21 F21 => ?_
    clear F19
    refine hK17 _ _ ?_
    refine wp_seq_k fun K22 hK22 => ?_
    refine region_fxL F21 [StK.eq (.pointer (some ⟨g15, 9, none⟩)), StK.eq (numV (p / 2)), StK.eq (numV 1), StK.eq (.tuple #[numV Q1, .int .u32 u]), StK.eq (.tuple #[numV Q1, .int .u32 u]), StK.eq (numV Q1), StK.eq (.int .u32 u), StK.new w20.heap.size (numA 0) 26 (by decide)] 8 6 31 1 4 #[numV Q1, .int .u32 u] (.int .u32 u) rfl (by kernel_rfl) rfl (by kernel_rfl) (fun _ _ h => h) rfl (fun _ _ => Iff.rfl) rfl ⟨?_, ?_, ?_, ?_, ?_, ?_, ?_, ?_, trivial⟩ ?_
    · intro ua uw hb hd
      have e5 : ua.eval (.tmp 5) = .pointer (some ⟨g15, 0, none⟩) := (show ua.eval (.tmp 5) = _ from hd 5 (by decide)).trans (F21.get (t := 5) rfl)
      exact hop_runK (F := (StK.eq (.pointer (some ⟨g15, 9, none⟩))).F) (wanted_none rfl) (.pointer (some ⟨g15, 9, none⟩)) (by unfold execOp; simp only [e5]; kernel_rfl) rfl
    · intro ua uw hb hd
      have e32 : ua.eval (.tmp 32) = .pointer (some ⟨g15, 9, none⟩) := hd 32 (by decide)
      exact hop_runK (F := (StK.eq (numV (p / 2))).F) (wanted_none rfl) (numV (p / 2)) (y_ldN _ _ rfl e32 ((M20.step hb).blk (k := 1) rfl) (numA (p / 2)) groupA_q Try.underlying26 rfl size26) rfl
    · intro ua uw hb hd
      exact hop_callK (F := (StK.eq (numV 1)).F) (wanted_none rfl) hb.size rfl #[.int .i64 1] (args1 rfl) (enters_of Try.func22 (by kernel_rfl) rfl) (call_eqS (z4 uw))
    · intro ua uw hb hd
      have e33 : ua.eval (.tmp 33) = numV (p / 2) := hd 33 (by decide)
      have e34 : ua.eval (.tmp 34) = numV 1 := hd 34 (by decide)
      exact hop_callK (F := (StK.eq (.tuple #[numV Q1, .int .u32 u])).F) (wanted_none rfl) hb.size rfl #[numV (p / 2), numV 1] (args2 e33 e34) (enters_of Try.func38 (by kernel_rfl) rfl) (call_eqS (z1 uw))
    · intro ua uw hb hd
      have e35 : ua.eval (.tmp 35) = .tuple #[numV Q1, .int .u32 u] := hd 35 (by decide)
      exact hop_runK (F := (StK.eq (.tuple #[numV Q1, .int .u32 u])).F) (wanted_none rfl) (.tuple #[numV Q1, .int .u32 u]) (run_mv _ (.inl rfl) e35) rfl
    · intro ua uw hb hd
      have e31 : ua.eval (.tmp 31) = .tuple #[numV Q1, .int .u32 u] := hd 31 (by decide)
      exact hop_runK (F := (StK.eq (numV Q1)).F) (wanted_none rfl) (numV Q1) (y_ext _ _ rfl e31 rfl) rfl
    · intro ua uw hb hd
      have e31 : ua.eval (.tmp 31) = .tuple #[numV Q1, .int .u32 u] := hd 31 (by decide)
      exact hop_runK (F := (StK.eq (.int .u32 u)).F) (wanted_none rfl) (.int .u32 u) (y_ext _ _ rfl e31 rfl) rfl
    · intro ua uw hb hd
      exact hop_new (wanted_none rfl) hb.size hb.size (by decide) (y_new_num rfl)
    intro p23 a23 w23 b23 G23 y23
    obtain ⟨-, -, -, -, -, q5, q6, q7, -⟩ := y23
    obtain ⟨gn7x22, r7, hg7, hc7⟩ := q7 (by decide)
    replace r7 : p23 7 = .pointer (some ⟨gn7x22, 0, none⟩) := r7
    have r5 : p23 5 = numV Q1 := q5 (by decide)
    have r6 : p23 6 = .int .u32 u := q6 (by decide)
    simp only [List.take_succ_cons, List.take_zero, layV, Nat.zero_add, Nat.reduceAdd, r5, r6, r7] at G23
    have M23 := M20.newb b23.below 3 hg7 hc7
    clear hg7 hc7 r7
    clear F21 M20 r5 q5 r6 q6
    simp only [List.drop_succ_cons, List.drop_zero]
    refine st_ex M23 (k := 3) rfl _ _ _ rfl (G23.get (t := 8) rfl) (G23.get (t := 36) rfl) (numA Q1) (numA Q1) rfl (Nat.le_of_ble_eq_true rfl) (numA_cells _) (y_put0 rfl) size26 ?_
    intro w24 M24
    clear M23
    refine wl_run (w' := w24) (wanted_none rfl) rfl G23 rfl (.int .u32 u) (run_mv _ (.inr rfl) (G23.get (t := 37) rfl)) fun a25 F25 => ?_
    clear G23
    refine hK22 _ _ ?_
    refine wp_seq_k fun K26 hK26 => ?_
    refine wp_region_lit ?_
    refine wl_run (w' := w24) (wanted_none rfl) rfl F25 rfl (numV N) (y_ldN _ _ rfl (F25.get (t := 6) rfl) (M24.blk (k := 2) rfl) (numA N) (y_all rfl) Try.underlying26 rfl size26) fun a27 F27 => ?_
    clear F25
    refine wl_run (w' := w24) (wanted_none rfl) rfl F27 rfl (numV 0) (y_zbuild rfl) fun a28 F28 => ?_
    clear F27
    refine wl_run (w' := w24) (wanted_none rfl) rfl F28 rfl (numV Q1) (y_ldN _ _ rfl (F28.get (t := 8) rfl) (M24.blk (k := 3) rfl) (numA Q1) (y_all rfl) Try.underlying26 rfl size26) fun a29 F29 => ?_
    clear F28
    refine wl_call (wanted_none rfl) rfl F29 rfl rfl (enters_of Try.func37 (by kernel_rfl) rfl) #[numV N, numV 0, numV Q1] (args3 (F29.get (t := 39) rfl) (F29.get (t := 40) rfl) (F29.get (t := 41) rfl)) (call_ex (z2 w24)) ?_
    rintro _ w30 a30 ⟨rfl, b30⟩ F30
    have M30 := M24.step b30
    refine wl_run (w' := w30) (wanted_none rfl) rfl F30 rfl (.tuple #[numV r, .bool true]) (run_mv _ (.inl rfl) (F30.get (t := 42) rfl)) fun a31 F31 => ?_
    clear F30
    refine wl_run (w' := w30) (wanted_none rfl) rfl F31 rfl (numV r) (y_ext _ _ rfl (F31.get (t := 38) rfl) rfl) fun a32 F32 => ?_
    clear F31
    refine wl_run (w' := w30) (wanted_none rfl) rfl F32 rfl (.bool true) (y_ext _ _ rfl (F32.get (t := 38) rfl) rfl) fun a33 F33 => ?_
    clear F32
    refine wl_alloc (wanted_none rfl) rfl F33 rfl M30 4 (t := 26) (c := numA 0) (y_new_num rfl) ?_
    intro g34 a34 w34 F34 M34
    clear F33 M30
    refine wl_st (wanted_none rfl) rfl F34 M34 (k := 4) rfl _ _ _ rfl (F34.get (t := 10) rfl) (F34.get (t := 43) rfl) (numA r) (numA r) rfl (Nat.le_of_ble_eq_true rfl) (numA_cells _) (y_put0 rfl) size26 ?_
    intro w35 M35
    clear M34
    refine wl_run (w' := w35) (wanted_none rfl) rfl F34 rfl (.bool true) (run_mv _ (.inr rfl) (F34.get (t := 44) rfl)) fun a36 F36 => ?_
    clear F34
    refine hK26 _ _ ?_
    refine wp_seq_k fun K37 hK37 => ?_
    refine region_fxL F36 [StK.eq (numV r), StK.eq (numV 1), StK.eq (.tuple #[numV e, .int .u32 c]), StK.eq (.tuple #[numV e, .int .u32 c]), StK.eq (numV e), StK.eq (.int .u32 c), StK.new w35.heap.size (numA 0) 26 (by decide)] 7 5 45 1 3 #[numV e, .int .u32 c] (.int .u32 c) rfl (by kernel_rfl) rfl (by kernel_rfl) (fun _ _ h => h) rfl (fun _ _ => Iff.rfl) rfl ⟨?_, ?_, ?_, ?_, ?_, ?_, ?_, trivial⟩ ?_
    · intro ua uw hb hd
      have e10 : ua.eval (.tmp 10) = .pointer (some ⟨g34, 0, none⟩) := (show ua.eval (.tmp 10) = _ from hd 10 (by decide)).trans (F36.get (t := 10) rfl)
      exact hop_runK (F := (StK.eq (numV r)).F) (wanted_none rfl) (numV r) (y_ldN _ _ rfl e10 ((M35.step hb).blk (k := 4) rfl) (numA r) (y_all rfl) Try.underlying26 rfl size26) rfl
    · intro ua uw hb hd
      exact hop_callK (F := (StK.eq (numV 1)).F) (wanted_none rfl) hb.size rfl #[.int .i64 1] (args1 rfl) (enters_of Try.func22 (by kernel_rfl) rfl) (call_eqS (z4 uw))
    · intro ua uw hb hd
      have e46 : ua.eval (.tmp 46) = numV r := hd 46 (by decide)
      have e47 : ua.eval (.tmp 47) = numV 1 := hd 47 (by decide)
      exact hop_callK (F := (StK.eq (.tuple #[numV e, .int .u32 c])).F) (wanted_none rfl) hb.size rfl #[numV r, numV 1] (args2 e46 e47) (enters_of Try.func43 (by kernel_rfl) rfl) (call_eqS (z3 uw))
    · intro ua uw hb hd
      have e48 : ua.eval (.tmp 48) = .tuple #[numV e, .int .u32 c] := hd 48 (by decide)
      exact hop_runK (F := (StK.eq (.tuple #[numV e, .int .u32 c])).F) (wanted_none rfl) (.tuple #[numV e, .int .u32 c]) (run_mv _ (.inl rfl) e48) rfl
    · intro ua uw hb hd
      have e45 : ua.eval (.tmp 45) = .tuple #[numV e, .int .u32 c] := hd 45 (by decide)
      exact hop_runK (F := (StK.eq (numV e)).F) (wanted_none rfl) (numV e) (y_ext _ _ rfl e45 rfl) rfl
    · intro ua uw hb hd
      have e45 : ua.eval (.tmp 45) = .tuple #[numV e, .int .u32 c] := hd 45 (by decide)
      exact hop_runK (F := (StK.eq (.int .u32 c)).F) (wanted_none rfl) (.int .u32 c) (y_ext _ _ rfl e45 rfl) rfl
    · intro ua uw hb hd
      exact hop_new (wanted_none rfl) hb.size hb.size (by decide) (y_new_num rfl)
    intro p38 a38 w38 b38 G38 y38
    obtain ⟨-, -, -, -, q4, q5, q6, -⟩ := y38
    obtain ⟨gn6x37, r6, hg6, hc6⟩ := q6 (by decide)
    replace r6 : p38 6 = .pointer (some ⟨gn6x37, 0, none⟩) := r6
    have r4 : p38 4 = numV e := q4 (by decide)
    have r5 : p38 5 = .int .u32 c := q5 (by decide)
    simp only [List.take_succ_cons, List.take_zero, layV, Nat.zero_add, Nat.reduceAdd, r4, r5, r6] at G38
    have M38 := M35.newb b38.below 5 hg6 hc6
    clear hg6 hc6 r6
    clear F36 M35 r4 q4 r5 q5
    simp only [List.drop_succ_cons, List.drop_zero]
    refine st_ex M38 (k := 5) rfl _ _ _ rfl (G38.get (t := 12) rfl) (G38.get (t := 49) rfl) (numA e) (numA e) rfl (Nat.le_of_ble_eq_true rfl) (numA_cells _) (y_put0 rfl) size26 ?_
    intro w39 M39
    clear M38
    refine wl_run (w' := w39) (wanted_none rfl) rfl G38 rfl (.int .u32 c) (run_mv _ (.inr rfl) (G38.get (t := 50) rfl)) fun a40 F40 => ?_
    clear G38
    refine hK37 _ _ ?_
    refine wp_seq_k fun K41 hK41 => ?_
    refine region_fxM F40 [fun vE => vE = .agg (groupA k p (p / 2) 4), fun vE => vE = .slice A1 n1 cap1, fun vE => vE = numV e, fun vE => vE = numV e, fun vE => vE = .bool true, fun vE => vE = .bool true, fun vE => vE = .agg (groupA k p (p / 2) 4), fun vE => vE = .slice A1 n1 cap1, fun vE => vE = numV z, fun vE => vE = .agg (groupA k p (p / 2) 4), fun _ => True, fun vE => vE = .slice A1 n1 cap1, fun _ => True, fun vE => vE = numV z, fun vE => vE = .bool true, fun vE => vE = .bool true, fun vE => vE = .bool true] (JM none w fun SV pV => [(0, bytR l1 (.slice A1 n1 cap1)), (1, blkR g15 28 (groupA k p (p / 2) 4)), (2, blkR g19 26 (numA N)), (3, blkR gn7x22 26 (numA Q1)), (4, blkR g34 26 (numA r)), (5, blkR gn6x37 26 (numA e)), (6, eitherR (SV 12) (ownR ([] ++ l1) (pV 12)) (condR (SV 10) (ownR [] (pV 10))))]) 17 rfl (by kernel_rfl) rfl (by kernel_rfl) (fun p => ((M39.step (step_drew _)).triv 6).sub ⟨rfl, rfl, rfl, rfl, rfl, rfl, rfl, trivial⟩) ⟨?_, ?_, ?_, ?_, ?_, ?_, ?_, ?_, ?_, ?_, ?_, ?_, ?_, ?_, ?_, ?_, ?_, trivial⟩ ?_
    · intro ua uw SV pV M0 hk hn hd
      have M : Mx none w uw _ := M0
      clear M0
      have e5 : ua.eval (.tmp 5) = .pointer (some ⟨g15, 0, none⟩) := (show ua.eval (.tmp 5) = _ from hd 5 (by decide)).trans (F40.get (t := 5) rfl)
      exact hopM_run (wanted_none rfl) (.agg (groupA k p (p / 2) 4)) (y_ldN _ _ rfl e5 (M.blk (k := 1) rfl) (groupA k p (p / 2) 4) (y_all rfl) Try.underlying28 rfl (by kernel_rfl)) rfl (M.sub ⟨rfl, rfl, rfl, rfl, rfl, rfl, rfl, trivial⟩)
    · intro ua uw SV pV M0 hk hn hd
      have M : Mx none w uw _ := M0
      clear M0
      have e1 : ua.eval (.tmp 1) = .slice A1 n1 cap1 := (show ua.eval (.tmp 1) = _ from hd 1 (by decide)).trans (F40.get (t := 1) rfl)
      exact hopM_run (wanted_none rfl) (.slice A1 n1 cap1) (run_mv _ (.inl rfl) e1) rfl (M.sub ⟨rfl, rfl, rfl, rfl, rfl, rfl, rfl, trivial⟩)
    · intro ua uw SV pV M0 hk hn hd
      have M : Mx none w uw _ := M0
      clear M0
      obtain ⟨s0, f51, q51⟩ := (show SV 0 = true ∧ ua.eval (.tmp 51) = pV 0 ∧ stE _ 0 (pV 0) from hd 51 (by decide))
      have e51 : ua.eval (.tmp 51) = .agg (groupA k p (p / 2) 4) := f51.trans q51
      obtain ⟨s1, f52, q52⟩ := (show SV 1 = true ∧ ua.eval (.tmp 52) = pV 1 ∧ stE _ 1 (pV 1) from hd 52 (by decide))
      have e52 : ua.eval (.tmp 52) = .slice A1 n1 cap1 := f52.trans q52
      exact hopM_call (wanted_none rfl) rfl #[.agg (groupA k p (p / 2) 4), .slice A1 n1 cap1] (args2 e51 e52) (enters_of Try.func30 (by kernel_rfl) rfl) ((kE uw _ (M.isb (k := 0) rfl)).mono fun e w2 h => ⟨_, h.1, rfl, (M.step h.2).sub ⟨rfl, rfl, rfl, rfl, rfl, rfl, rfl, trivial⟩⟩)
    · intro ua uw SV pV M0 hk hn hd
      have M : Mx none w uw _ := M0
      clear M0
      have e12 : ua.eval (.tmp 12) = .pointer (some ⟨gn6x37, 0, none⟩) := (show ua.eval (.tmp 12) = _ from hd 12 (by decide)).trans (F40.get (t := 12) rfl)
      exact hopM_run (wanted_none rfl) (numV e) (y_ldN _ _ rfl e12 (M.blk (k := 5) rfl) (numA e) (y_all rfl) Try.underlying26 rfl size26) rfl (M.sub ⟨rfl, rfl, rfl, rfl, rfl, rfl, rfl, trivial⟩)
    · intro ua uw SV pV M0 hk hn hd
      have M : Mx none w uw _ := M0
      clear M0
      obtain ⟨s2, f53, q53⟩ := (show SV 2 = true ∧ ua.eval (.tmp 53) = pV 2 ∧ stE _ 2 (pV 2) from hd 53 (by decide))
      have e53 : ua.eval (.tmp 53) = numV e := f53.trans q53
      obtain ⟨s3, f54, q54⟩ := (show SV 3 = true ∧ ua.eval (.tmp 54) = pV 3 ∧ stE _ 3 (pV 3) from hd 54 (by decide))
      have e54 : ua.eval (.tmp 54) = numV e := f54.trans q54
      exact hopM_run (wanted_none rfl) (.bool true) (y_eqA _ _ _ _ rfl e53 e54 (by kernel_rfl) (eqn_same e _)) rfl (M.sub ⟨rfl, rfl, rfl, rfl, rfl, rfl, rfl, trivial⟩)
    · intro ua uw SV pV M0 hk hn hd
      have M : Mx none w uw _ := M0
      clear M0
      obtain ⟨s4, f55, q55⟩ := (show SV 4 = true ∧ ua.eval (.tmp 55) = pV 4 ∧ stE _ 4 (pV 4) from hd 55 (by decide))
      have e55 : ua.eval (.tmp 55) = .bool true := f55.trans q55
      exact hopM_run (wanted_none rfl) (.bool true) (run_mv _ (.inl rfl) e55) rfl (M.sub ⟨rfl, rfl, rfl, rfl, rfl, rfl, rfl, trivial⟩)
    · intro ua uw SV pV M0 hk hn hd
      have M : Mx none w uw _ := M0
      clear M0
      obtain ⟨s5, f56, q56⟩ := (show SV 5 = true ∧ ua.eval (.tmp 56) = pV 5 ∧ stE _ 5 (pV 5) from hd 56 (by decide))
      have e56 : ua.eval (.tmp 56) = .bool true := f56.trans q56
      have e5 : ua.eval (.tmp 5) = .pointer (some ⟨g15, 0, none⟩) := (show ua.eval (.tmp 5) = _ from hd 5 (by decide)).trans (F40.get (t := 5) rfl)
      exact hopM_run (wanted_yes rfl rfl rfl e56) (.agg (groupA k p (p / 2) 4)) (y_ldN _ _ rfl e5 (M.blk (k := 1) rfl) (groupA k p (p / 2) 4) (y_all rfl) Try.underlying28 rfl (by kernel_rfl)) rfl (M.sub ⟨rfl, rfl, rfl, rfl, rfl, rfl, rfl, trivial⟩)
    · intro ua uw SV pV M0 hk hn hd
      have M : Mx none w uw _ := M0
      clear M0
      obtain ⟨s5, f56, q56⟩ := (show SV 5 = true ∧ ua.eval (.tmp 56) = pV 5 ∧ stE _ 5 (pV 5) from hd 56 (by decide))
      have e56 : ua.eval (.tmp 56) = .bool true := f56.trans q56
      have e1 : ua.eval (.tmp 1) = .slice A1 n1 cap1 := (show ua.eval (.tmp 1) = _ from hd 1 (by decide)).trans (F40.get (t := 1) rfl)
      exact hopM_run (wanted_yes rfl rfl rfl e56) (.slice A1 n1 cap1) (run_mv _ (.inl rfl) e1) rfl (M.sub ⟨rfl, rfl, rfl, rfl, rfl, rfl, rfl, trivial⟩)
    · intro ua uw SV pV M0 hk hn hd
      have M : Mx none w uw _ := M0
      clear M0
      obtain ⟨s5, f56, q56⟩ := (show SV 5 = true ∧ ua.eval (.tmp 56) = pV 5 ∧ stE _ 5 (pV 5) from hd 56 (by decide))
      have e56 : ua.eval (.tmp 56) = .bool true := f56.trans q56
      obtain ⟨s6, f57, q57⟩ := (show SV 6 = true ∧ ua.eval (.tmp 57) = pV 6 ∧ stE _ 6 (pV 6) from hd 57 (by decide))
      have e57 : ua.eval (.tmp 57) = .agg (groupA k p (p / 2) 4) := f57.trans q57
      obtain ⟨s7, f58, q58⟩ := (show SV 7 = true ∧ ua.eval (.tmp 58) = pV 7 ∧ stE _ 7 (pV 7) from hd 58 (by decide))
      have e58 : ua.eval (.tmp 58) = .slice A1 n1 cap1 := f58.trans q58
      exact hopM_call (wanted_yes rfl rfl rfl e56) rfl #[.agg (groupA k p (p / 2) 4), .slice A1 n1 cap1] (args2 e57 e58) (enters_of Try.func31 (by kernel_rfl) rfl) ((kI uw _ (M.isb (k := 0) rfl)).mono fun e w2 h => ⟨_, h.1, rfl, (M.step h.2).sub ⟨rfl, rfl, rfl, rfl, rfl, rfl, rfl, trivial⟩⟩)
    · intro ua uw SV pV M0 hk hn hd
      have M : Mx none w uw _ := M0
      clear M0
      obtain ⟨s5, f56, q56⟩ := (show SV 5 = true ∧ ua.eval (.tmp 56) = pV 5 ∧ stE _ 5 (pV 5) from hd 56 (by decide))
      have e56 : ua.eval (.tmp 56) = .bool true := f56.trans q56
      have e5 : ua.eval (.tmp 5) = .pointer (some ⟨g15, 0, none⟩) := (show ua.eval (.tmp 5) = _ from hd 5 (by decide)).trans (F40.get (t := 5) rfl)
      exact hopM_run (wanted_yes rfl rfl rfl e56) (.agg (groupA k p (p / 2) 4)) (y_ldN _ _ rfl e5 (M.blk (k := 1) rfl) (groupA k p (p / 2) 4) (y_all rfl) Try.underlying28 rfl (by kernel_rfl)) rfl (M.sub ⟨rfl, rfl, rfl, rfl, rfl, rfl, rfl, trivial⟩)
    · intro ua uw SV pV M0 hk hn hd
      have M : Mx none w uw _ := M0
      clear M0
      obtain ⟨s5, f56, q56⟩ := (show SV 5 = true ∧ ua.eval (.tmp 56) = pV 5 ∧ stE _ 5 (pV 5) from hd 56 (by decide))
      have e56 : ua.eval (.tmp 56) = .bool true := f56.trans q56
      exact hopM_exM (wanted_yes rfl rfl rfl e56) (run_lit0 M 6 rfl) fun v w2 h2 => ⟨trivial, h2.sub ⟨rfl, rfl, rfl, rfl, rfl, rfl, (eitherR_at (hn 12 (by kernel_rfl)) rfl), trivial⟩⟩
    · intro ua uw SV pV M0 hk hn hd
      have M : Mx none w uw _ := M0
      clear M0
      obtain ⟨s5, f56, q56⟩ := (show SV 5 = true ∧ ua.eval (.tmp 56) = pV 5 ∧ stE _ 5 (pV 5) from hd 56 (by decide))
      have e56 : ua.eval (.tmp 56) = .bool true := f56.trans q56
      have e1 : ua.eval (.tmp 1) = .slice A1 n1 cap1 := (show ua.eval (.tmp 1) = _ from hd 1 (by decide)).trans (F40.get (t := 1) rfl)
      exact hopM_run (wanted_yes rfl rfl rfl e56) (.slice A1 n1 cap1) (run_mv _ (.inl rfl) e1) rfl (M.sub ⟨rfl, rfl, rfl, rfl, rfl, rfl, rfl, trivial⟩)
    · intro ua uw SV pV M0 hk hn hd
      have M : Mx none w uw _ := M0
      clear M0
      obtain ⟨s5, f56, q56⟩ := (show SV 5 = true ∧ ua.eval (.tmp 56) = pV 5 ∧ stE _ 5 (pV 5) from hd 56 (by decide))
      have e56 : ua.eval (.tmp 56) = .bool true := f56.trans q56
      obtain ⟨s10, f61, q61⟩ := (show SV 10 = true ∧ ua.eval (.tmp 61) = pV 10 ∧ stE _ 10 (pV 10) from hd 61 (by decide))
      have e61 : ua.eval (.tmp 61) = (pV 10) := f61
      obtain ⟨s11, f62, q62⟩ := (show SV 11 = true ∧ ua.eval (.tmp 62) = pV 11 ∧ stE _ 11 (pV 11) from hd 62 (by decide))
      have e62 : ua.eval (.tmp 62) = .slice A1 n1 cap1 := f62.trans q62
      exact hopM_exM (wanted_yes rfl rfl rfl e56) (run_app M (k := 6) (eitherR_look s10 hk rfl) _ _ rfl e61 e62 (M.isb (k := 0) rfl) (by simp only [List.length_nil]; omega)) fun v w2 h2 => ⟨trivial, h2.sub ⟨rfl, rfl, rfl, rfl, rfl, rfl, rfl, trivial⟩⟩
    · intro ua uw SV pV M0 hk hn hd
      have M : Mx none w uw _ := M0
      clear M0
      obtain ⟨s5, f56, q56⟩ := (show SV 5 = true ∧ ua.eval (.tmp 56) = pV 5 ∧ stE _ 5 (pV 5) from hd 56 (by decide))
      have e56 : ua.eval (.tmp 56) = .bool true := f56.trans q56
      obtain ⟨s9, f60, q60⟩ := (show SV 9 = true ∧ ua.eval (.tmp 60) = pV 9 ∧ stE _ 9 (pV 9) from hd 60 (by decide))
      have e60 : ua.eval (.tmp 60) = .agg (groupA k p (p / 2) 4) := f60.trans q60
      obtain ⟨s12, f63, q63⟩ := (show SV 12 = true ∧ ua.eval (.tmp 63) = pV 12 ∧ stE _ 12 (pV 12) from hd 63 (by decide))
      have e63 : ua.eval (.tmp 63) = (pV 12) := f63
      exact hopM_call (wanted_yes rfl rfl rfl e56) rfl #[.agg (groupA k p (p / 2) 4), (pV 12)] (args2 e60 e63) (enters_of Try.func31 (by kernel_rfl) rfl) ((kI uw _ (M.isO (k := 6) (eitherR_l s12 rfl))).mono fun e w2 h => ⟨_, h.1, rfl, (M.step h.2).sub ⟨rfl, rfl, rfl, rfl, rfl, rfl, rfl, trivial⟩⟩)
    · intro ua uw SV pV M0 hk hn hd
      have M : Mx none w uw _ := M0
      clear M0
      obtain ⟨s5, f56, q56⟩ := (show SV 5 = true ∧ ua.eval (.tmp 56) = pV 5 ∧ stE _ 5 (pV 5) from hd 56 (by decide))
      have e56 : ua.eval (.tmp 56) = .bool true := f56.trans q56
      obtain ⟨s8, f59, q59⟩ := (show SV 8 = true ∧ ua.eval (.tmp 59) = pV 8 ∧ stE _ 8 (pV 8) from hd 59 (by decide))
      have e59 : ua.eval (.tmp 59) = numV z := f59.trans q59
      obtain ⟨s13, f64, q64⟩ := (show SV 13 = true ∧ ua.eval (.tmp 64) = pV 13 ∧ stE _ 13 (pV 13) from hd 64 (by decide))
      have e64 : ua.eval (.tmp 64) = numV z := f64.trans q64
      exact hopM_run (wanted_yes rfl rfl rfl e56) (.bool true) (y_eqA _ _ _ _ rfl e59 e64 (by kernel_rfl) (eqn_same z _)) rfl (M.sub ⟨rfl, rfl, rfl, rfl, rfl, rfl, rfl, trivial⟩)
    · intro ua uw SV pV M0 hk hn hd
      have M : Mx none w uw _ := M0
      clear M0
      obtain ⟨s5, f56, q56⟩ := (show SV 5 = true ∧ ua.eval (.tmp 56) = pV 5 ∧ stE _ 5 (pV 5) from hd 56 (by decide))
      have e56 : ua.eval (.tmp 56) = .bool true := f56.trans q56
      obtain ⟨s14, f65, q65⟩ := (show SV 14 = true ∧ ua.eval (.tmp 65) = pV 14 ∧ stE _ 14 (pV 14) from hd 65 (by decide))
      have e65 : ua.eval (.tmp 65) = .bool true := f65.trans q65
      exact hopM_run (wanted_none rfl) (.bool true) (run_pick_t rfl e56 e65) rfl (M.sub ⟨rfl, rfl, rfl, rfl, rfl, rfl, rfl, trivial⟩)
    · intro ua uw SV pV M0 hk hn hd
      have M : Mx none w uw _ := M0
      clear M0
      obtain ⟨s15, f66, q66⟩ := (show SV 15 = true ∧ ua.eval (.tmp 66) = pV 15 ∧ stE _ 15 (pV 15) from hd 66 (by decide))
      have e66 : ua.eval (.tmp 66) = .bool true := f66.trans q66
      exact hopM_run (wanted_none rfl) (.bool true) (run_mv _ (.inr rfl) e66) rfl (M.sub ⟨rfl, rfl, rfl, rfl, rfl, rfl, rfl, trivial⟩)
    intro p42 a42 w42 M42 G42 y42
    obtain ⟨-, -, -, -, -, -, -, -, -, -, -, -, -, -, -, -, q16, -⟩ := y42
    have r16 : p42 16 = .bool true := q16
    replace M42 : Mx _ _ w42 [(0, bytR l1 (.slice A1 n1 cap1)), (1, blkR g15 28 (groupA k p (p / 2) 4)), (2, blkR g19 26 (numA N)), (3, blkR gn7x22 26 (numA Q1)), (4, blkR g34 26 (numA r)), (5, blkR gn6x37 26 (numA e)), (6, eitherR true (ownR ([] ++ l1) (p42 12)) (condR true (ownR [] (p42 10))))] := M42
    simp only [List.take_succ_cons, List.take_zero, layV, Nat.zero_add, Nat.reduceAdd, r16] at G42
    refine hK41 _ _ ?_
    refine wp_ret ?_
    try simp only [Exit.then, Exit.inBlock, Exit.jump]
    exact bodyPost_ret (res1 rfl (G42.get (t := 4) rfl)) G42.defers ⟨rfl, M42.below⟩
end Go.Proofs.Ytgccbfkofkohpaa
