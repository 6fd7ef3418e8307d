/- sentinelref4.Has. -/
import Derived.Test.YtgccbfkofkohpaaGaSy
import Derived.Test.YtgccbfkofkohpaaSymA
import Derived.Test.YtgccbfkofkohpaaGpEq
import Derived.Test.YtgccbfkofkohpaaGpRRaise
import Derived.Test.YtgccbfkofkohpaaGaGc
import Derived.Test.YtgccbfkofkohpaaGaGd
namespace Go.Proofs.Ytgccbfkofkohpaa
set_option linter.unusedVariables false
set_option maxRecDepth 20000
set_option linter.unusedSimpArgs false
open Go.ChangeShapes Go.WideShapes Go.ChangeAt Go.RowKit
theorem rhas_pack {k : Int} {a P Q g : Nat} (h1 : 1 < P) (hP : P < 2147483648) (ha : a < 4294967296 ^ 8) (hQ : Q < 4294967296 ^ 8) : ∃ (V : Nat) (d e : Int), RunsTo 29 #[numV a, numV 1] (.int .i64 d) ∧ RunsTo 29 #[numV a, numV P] (.int .i64 e) ∧ RunsTo 24 #[.agg (groupA k P Q g), numV a, numV Q] (numV V) ∧
    ((¬ 0 < d ∧ hasB a P Q = false) ∨ (0 < d ∧ ¬ e < 0 ∧ hasB a P Q = false) ∨ (0 < d ∧ e < 0 ∧ V = 1 ∧ hasB a P Q = true) ∨ (0 < d ∧ e < 0 ∧ (∀ w, (Op.equalIn 10000 26 (.agg (numA V)) (.agg (numA 1))).run Try.prog w = .ok false w) ∧ hasB a P Q = false)) := by
  have hp : P < 4294967296 ^ 8 := Nat.lt_trans hP (by decide)
  refine ⟨a ^ Q % P, cmpI a 1, cmpI a P, rcmp_any a 1 ha (by decide), rcmp_any a P ha hp, rraise_any k P Q g h1 hP a Q ha hQ, ?_⟩
  unfold hasB cmpI
  by_cases c1 : 1 < a
  · by_cases c2 : a < P
    · by_cases c3 : a ^ Q % P = 1
      · exact .inr (.inr (.inl ⟨by rw [if_neg (by omega), if_pos c1]; decide, by rw [if_pos c2]; decide, c3, decide_eq_true ⟨c1, c2, c3⟩⟩))
      · exact .inr (.inr (.inr ⟨by rw [if_neg (by omega), if_pos c1]; decide, by rw [if_pos c2]; decide, eqn_diff (Nat.lt_trans (Nat.mod_lt _ (by omega)) hp) (by decide) c3, decide_eq_false (fun h => c3 h.2.2)⟩))
    · exact .inr (.inl ⟨by rw [if_neg (by omega), if_pos c1]; decide, by rw [if_neg c2]; split <;> decide, decide_eq_false (fun h => c2 h.2.1)⟩)
  · exact .inl ⟨by (rw [if_neg c1]; split <;> decide), decide_eq_false (fun h => c1 h.1)⟩
set_option maxRecDepth 100000 in
set_option maxHeartbeats 4000000 in
theorem rhas_any (k : Int) (P Q g : Nat) (h1 : 1 < P) (hP : P < 2147483648) (a : Nat) (ha : a < 4294967296 ^ 8) (hQ : Q < 4294967296 ^ 8) (w : World) :
    Calls Try.prog 28 #[.agg (groupA k P Q g), numV a] w fun e' w' => e' = .returned (.bool (hasB a P Q)) ∧ Below w.heap.size w w' := by
  obtain ⟨V, d, e, k1, k2, k3, hw⟩ := rhas_pack (k := k) (g := g) h1 hP ha hQ
  have kO := fun w => from_ref 1 (by decide) (by decide) w
  clear h1 hP ha hQ
  rcases hw with ⟨c1, c4⟩ | ⟨c1, c2, c4⟩ | ⟨c1, c2, rfl, c4⟩ | ⟨c1, c2, c3, c4⟩
  · rw [c4]
    clear c4
    refine calls_fx (args := [.agg (groupA k P Q g), numV a]) 25 Try.func28 rfl rfl rfl ?_
    intro fa F
    have M := Mx.start w
    refine wp_seq_k fun K1 hK1 => ?_
    refine wp_region_lit ?_
    refine wl_alloc (wanted_none rfl) rfl F rfl M 0 (t := 28) (c := groupA k P Q g) (by unfold execOp; simp only [(F.get (t := 0) rfl)]; kernel_rfl) ?_
    intro g2 a2 w2 F2 M2
    clear F M
    refine wl_alloc (wanted_none rfl) rfl F2 rfl M2 1 (t := 26) (c := numA a) (by unfold execOp; simp only [(F2.get (t := 1) rfl)]; kernel_rfl) ?_
    intro g3 a3 w3 F3 M3
    clear F2 M2
    refine wl_run (w' := w3) (wanted_none rfl) rfl F3 rfl (.bool false) (run_mv _ (.inr rfl) rfl) fun a4 F4 => ?_
    clear F3
    refine hK1 _ _ ?_
    refine wp_seq_k fun K5 hK5 => ?_
    refine region_fx F4 [StK.eq (numV a), StK.eq (numV 1), StK.eq (.int .i64 d), StK.eq (.bool false), StK.eq (.bool false), StK.eq undef, StK.eq undef, StK.eq undef, StK.eq undef, StK.eq undef, StK.eq (.bool false), StK.eq (.bool false), StK.eq undef, StK.eq undef, StK.eq undef, StK.eq undef, StK.eq undef, StK.eq undef, StK.eq undef, StK.eq (.bool false), StK.eq (.bool false)] 21 rfl (by kernel_rfl) ⟨?_, ?_, ?_, ?_, ?_, ?_, ?_, ?_, ?_, ?_, ?_, ?_, ?_, ?_, ?_, ?_, ?_, ?_, ?_, ?_, ?_, trivial⟩ ?_
    · intro ua uw hb hd
      have e3 : ua.eval (.tmp 3) = .pointer (some ⟨g3, 0, none⟩) := (show ua.eval (.tmp 3) = _ from hd 3 (by decide)).trans (F4.get (t := 3) rfl)
      exact hop_runK (F := (StK.eq (numV a)).F) (wanted_none rfl) (numV a) (y_ldN _ _ rfl e3 ((M3.step hb).blk (k := 1) rfl) (numA a) (y_all rfl) Try.underlying26 rfl size26) rfl
    · intro ua uw hb hd
      exact hop_callK (F := (StK.eq (numV 1)).F) (wanted_none rfl) hb.size rfl #[.int .i64 1] (args1 rfl) (enters_of Try.func22 (by kernel_rfl) rfl) (call_eqS (kO uw))
    · intro ua uw hb hd
      have e5 : ua.eval (.tmp 5) = numV a := hd 5 (by decide)
      have e6 : ua.eval (.tmp 6) = numV 1 := hd 6 (by decide)
      exact hop_callK (F := (StK.eq (.int .i64 d)).F) (wanted_none rfl) hb.size rfl #[numV a, numV 1] (args2 e5 e6) (enters_of Try.func29 (by kernel_rfl) rfl) (call_eqS (k1 uw))
    · intro ua uw hb hd
      have e7 : ua.eval (.tmp 7) = .int .i64 d := hd 7 (by decide)
      exact hop_runK (F := (StK.eq (.bool false)).F) (wanted_none rfl) (.bool false) (y_gtr _ _ _ _ rfl e7 rfl (decide_eq_false c1)) rfl
    · intro ua uw hb hd
      have e8 : ua.eval (.tmp 8) = .bool false := hd 8 (by decide)
      exact hop_runK (F := (StK.eq (.bool false)).F) (wanted_none rfl) (.bool false) (run_mv _ (.inl rfl) e8) rfl
    · intro ua uw hb hd
      have eg : ua.eval (.tmp 9) = .bool false := hd 9 (by decide)
      exact hop_skipK (F := (StK.eq (undef)).F) rfl rfl rfl eg rfl
    · intro ua uw hb hd
      have eg : ua.eval (.tmp 9) = .bool false := hd 9 (by decide)
      exact hop_skipK (F := (StK.eq (undef)).F) rfl rfl rfl eg rfl
    · intro ua uw hb hd
      have eg : ua.eval (.tmp 9) = .bool false := hd 9 (by decide)
      exact hop_skipK (F := (StK.eq (undef)).F) rfl rfl rfl eg rfl
    · intro ua uw hb hd
      have eg : ua.eval (.tmp 9) = .bool false := hd 9 (by decide)
      exact hop_skipK (F := (StK.eq (undef)).F) rfl rfl rfl eg rfl
    · intro ua uw hb hd
      have eg : ua.eval (.tmp 9) = .bool false := hd 9 (by decide)
      exact hop_skipK (F := (StK.eq (undef)).F) rfl rfl rfl eg rfl
    · intro ua uw hb hd
      have e9 : ua.eval (.tmp 9) = .bool false := hd 9 (by decide)
      have e14 : ua.eval (.tmp 14) = undef := hd 14 (by decide)
      exact hop_runK (F := (StK.eq (.bool false)).F) (wanted_none rfl) (.bool false) (run_pick_f rfl e9 rfl) rfl
    · intro ua uw hb hd
      have e15 : ua.eval (.tmp 15) = .bool false := hd 15 (by decide)
      exact hop_runK (F := (StK.eq (.bool false)).F) (wanted_none rfl) (.bool false) (run_mv _ (.inl rfl) e15) rfl
    · intro ua uw hb hd
      have eg : ua.eval (.tmp 16) = .bool false := hd 16 (by decide)
      exact hop_skipK (F := (StK.eq (undef)).F) rfl rfl rfl eg rfl
    · intro ua uw hb hd
      have eg : ua.eval (.tmp 16) = .bool false := hd 16 (by decide)
      exact hop_skipK (F := (StK.eq (undef)).F) rfl rfl rfl eg rfl
    · intro ua uw hb hd
      have eg : ua.eval (.tmp 16) = .bool false := hd 16 (by decide)
      exact hop_skipK (F := (StK.eq (undef)).F) rfl rfl rfl eg rfl
    · intro ua uw hb hd
      have eg : ua.eval (.tmp 16) = .bool false := hd 16 (by decide)
      exact hop_skipK (F := (StK.eq (undef)).F) rfl rfl rfl eg rfl
    · intro ua uw hb hd
      have eg : ua.eval (.tmp 16) = .bool false := hd 16 (by decide)
      exact hop_skipK (F := (StK.eq (undef)).F) rfl rfl rfl eg rfl
    · intro ua uw hb hd
      have eg : ua.eval (.tmp 16) = .bool false := hd 16 (by decide)
      exact hop_skipK (F := (StK.eq (undef)).F) rfl rfl rfl eg rfl
    · intro ua uw hb hd
      have eg : ua.eval (.tmp 16) = .bool false := hd 16 (by decide)
      exact hop_skipK (F := (StK.eq (undef)).F) rfl rfl rfl eg rfl
    · intro ua uw hb hd
      have e16 : ua.eval (.tmp 16) = .bool false := hd 16 (by decide)
      have e23 : ua.eval (.tmp 23) = undef := hd 23 (by decide)
      exact hop_runK (F := (StK.eq (.bool false)).F) (wanted_none rfl) (.bool false) (run_pick_f rfl e16 rfl) rfl
    · intro ua uw hb hd
      have e24 : ua.eval (.tmp 24) = .bool false := hd 24 (by decide)
      exact hop_runK (F := (StK.eq (.bool false)).F) (wanted_none rfl) (.bool false) (run_mv _ (.inr rfl) e24) rfl
    intro p6 a6 w6 b6 G6 y6
    obtain ⟨-, -, -, -, -, -, -, -, -, -, -, -, -, -, -, -, -, -, -, -, q20, -⟩ := y6
    have r20 : p6 20 = .bool false := q20 (by decide)
    simp only [List.take_succ_cons, List.take_zero, layV, Nat.zero_add, Nat.reduceAdd, r20] at G6
    have M6 := M3.kc b6
    clear F4 M3 r20 q20
    refine hK5 _ _ ?_
    refine wp_ret ?_
    try simp only [Exit.then, Exit.inBlock]
    exact bodyPost_ret (res1 rfl (G6.get (t := 4) rfl)) G6.defers ⟨rfl, M6.below⟩
  · rw [c4]
    clear c4
    refine calls_fx (args := [.agg (groupA k P Q g), numV a]) 25 Try.func28 rfl rfl rfl ?_
    intro fa F
    have M := Mx.start w
    refine wp_seq_k fun K1 hK1 => ?_
    refine wp_region_lit ?_
    refine wl_alloc (wanted_none rfl) rfl F rfl M 0 (t := 28) (c := groupA k P Q g) (by unfold execOp; simp only [(F.get (t := 0) rfl)]; kernel_rfl) ?_
    intro g2 a2 w2 F2 M2
    clear F M
    refine wl_alloc (wanted_none rfl) rfl F2 rfl M2 1 (t := 26) (c := numA a) (by unfold execOp; simp only [(F2.get (t := 1) rfl)]; kernel_rfl) ?_
    intro g3 a3 w3 F3 M3
    clear F2 M2
    refine wl_run (w' := w3) (wanted_none rfl) rfl F3 rfl (.bool false) (run_mv _ (.inr rfl) rfl) fun a4 F4 => ?_
    clear F3
    refine hK1 _ _ ?_
    refine wp_seq_k fun K5 hK5 => ?_
    refine region_fx F4 [StK.eq (numV a), StK.eq (numV 1), StK.eq (.int .i64 d), StK.eq (.bool true), StK.eq (.bool true), StK.eq (numV a), StK.eq (.pointer (some ⟨g2, 1, none⟩)), StK.eq (numV P), StK.eq (.int .i64 e), StK.eq (.bool false), StK.eq (.bool false), StK.eq (.bool false), StK.eq undef, StK.eq undef, StK.eq undef, StK.eq undef, StK.eq undef, StK.eq undef, StK.eq undef, StK.eq (.bool false), StK.eq (.bool false)] 21 rfl (by kernel_rfl) ⟨?_, ?_, ?_, ?_, ?_, ?_, ?_, ?_, ?_, ?_, ?_, ?_, ?_, ?_, ?_, ?_, ?_, ?_, ?_, ?_, ?_, trivial⟩ ?_
    · intro ua uw hb hd
      have e3 : ua.eval (.tmp 3) = .pointer (some ⟨g3, 0, none⟩) := (show ua.eval (.tmp 3) = _ from hd 3 (by decide)).trans (F4.get (t := 3) rfl)
      exact hop_runK (F := (StK.eq (numV a)).F) (wanted_none rfl) (numV a) (y_ldN _ _ rfl e3 ((M3.step hb).blk (k := 1) rfl) (numA a) (y_all rfl) Try.underlying26 rfl size26) rfl
    · intro ua uw hb hd
      exact hop_callK (F := (StK.eq (numV 1)).F) (wanted_none rfl) hb.size rfl #[.int .i64 1] (args1 rfl) (enters_of Try.func22 (by kernel_rfl) rfl) (call_eqS (kO uw))
    · intro ua uw hb hd
      have e5 : ua.eval (.tmp 5) = numV a := hd 5 (by decide)
      have e6 : ua.eval (.tmp 6) = numV 1 := hd 6 (by decide)
      exact hop_callK (F := (StK.eq (.int .i64 d)).F) (wanted_none rfl) hb.size rfl #[numV a, numV 1] (args2 e5 e6) (enters_of Try.func29 (by kernel_rfl) rfl) (call_eqS (k1 uw))
    · intro ua uw hb hd
      have e7 : ua.eval (.tmp 7) = .int .i64 d := hd 7 (by decide)
      exact hop_runK (F := (StK.eq (.bool true)).F) (wanted_none rfl) (.bool true) (y_gtr _ _ _ _ rfl e7 rfl (decide_eq_true c1)) rfl
    · intro ua uw hb hd
      have e8 : ua.eval (.tmp 8) = .bool true := hd 8 (by decide)
      exact hop_runK (F := (StK.eq (.bool true)).F) (wanted_none rfl) (.bool true) (run_mv _ (.inl rfl) e8) rfl
    · intro ua uw hb hd
      have eg : ua.eval (.tmp 9) = .bool true := hd 9 (by decide)
      have e3 : ua.eval (.tmp 3) = .pointer (some ⟨g3, 0, none⟩) := (show ua.eval (.tmp 3) = _ from hd 3 (by decide)).trans (F4.get (t := 3) rfl)
      exact hop_runK (F := (StK.eq (numV a)).F) (wanted_yes rfl rfl rfl eg) (numV a) (y_ldN _ _ rfl e3 ((M3.step hb).blk (k := 1) rfl) (numA a) (y_all rfl) Try.underlying26 rfl size26) rfl
    · intro ua uw hb hd
      have eg : ua.eval (.tmp 9) = .bool true := hd 9 (by decide)
      have e2 : ua.eval (.tmp 2) = .pointer (some ⟨g2, 0, none⟩) := (show ua.eval (.tmp 2) = _ from hd 2 (by decide)).trans (F4.get (t := 2) rfl)
      exact hop_runK (F := (StK.eq (.pointer (some ⟨g2, 1, none⟩))).F) (wanted_yes rfl rfl rfl eg) (.pointer (some ⟨g2, 1, none⟩)) (by unfold execOp; simp only [e2]; kernel_rfl) rfl
    · intro ua uw hb hd
      have eg : ua.eval (.tmp 9) = .bool true := hd 9 (by decide)
      have e11 : ua.eval (.tmp 11) = .pointer (some ⟨g2, 1, none⟩) := hd 11 (by decide)
      exact hop_runK (F := (StK.eq (numV P)).F) (wanted_yes rfl rfl rfl eg) (numV P) (y_ldN _ _ rfl e11 ((M3.step hb).blk (k := 0) rfl) (numA P) groupA_p Try.underlying26 rfl size26) rfl
    · intro ua uw hb hd
      have eg : ua.eval (.tmp 9) = .bool true := hd 9 (by decide)
      have e10 : ua.eval (.tmp 10) = numV a := hd 10 (by decide)
      have e12 : ua.eval (.tmp 12) = numV P := hd 12 (by decide)
      exact hop_callK (F := (StK.eq (.int .i64 e)).F) (wanted_yes rfl rfl rfl eg) hb.size rfl #[numV a, numV P] (args2 e10 e12) (enters_of Try.func29 (by kernel_rfl) rfl) (call_eqS (k2 uw))
    · intro ua uw hb hd
      have eg : ua.eval (.tmp 9) = .bool true := hd 9 (by decide)
      have e13 : ua.eval (.tmp 13) = .int .i64 e := hd 13 (by decide)
      exact hop_runK (F := (StK.eq (.bool false)).F) (wanted_yes rfl rfl rfl eg) (.bool false) (y_lss _ _ _ _ rfl e13 rfl (decide_eq_false c2)) rfl
    · intro ua uw hb hd
      have e9 : ua.eval (.tmp 9) = .bool true := hd 9 (by decide)
      have e14 : ua.eval (.tmp 14) = .bool false := hd 14 (by decide)
      exact hop_runK (F := (StK.eq (.bool false)).F) (wanted_none rfl) (.bool false) (run_pick_t rfl e9 e14) rfl
    · intro ua uw hb hd
      have e15 : ua.eval (.tmp 15) = .bool false := hd 15 (by decide)
      exact hop_runK (F := (StK.eq (.bool false)).F) (wanted_none rfl) (.bool false) (run_mv _ (.inl rfl) e15) rfl
    · intro ua uw hb hd
      have eg : ua.eval (.tmp 16) = .bool false := hd 16 (by decide)
      exact hop_skipK (F := (StK.eq (undef)).F) rfl rfl rfl eg rfl
    · intro ua uw hb hd
      have eg : ua.eval (.tmp 16) = .bool false := hd 16 (by decide)
      exact hop_skipK (F := (StK.eq (undef)).F) rfl rfl rfl eg rfl
    · intro ua uw hb hd
      have eg : ua.eval (.tmp 16) = .bool false := hd 16 (by decide)
      exact hop_skipK (F := (StK.eq (undef)).F) rfl rfl rfl eg rfl
    · intro ua uw hb hd
      have eg : ua.eval (.tmp 16) = .bool false := hd 16 (by decide)
      exact hop_skipK (F := (StK.eq (undef)).F) rfl rfl rfl eg rfl
    · intro ua uw hb hd
      have eg : ua.eval (.tmp 16) = .bool false := hd 16 (by decide)
      exact hop_skipK (F := (StK.eq (undef)).F) rfl rfl rfl eg rfl
    · intro ua uw hb hd
      have eg : ua.eval (.tmp 16) = .bool false := hd 16 (by decide)
      exact hop_skipK (F := (StK.eq (undef)).F) rfl rfl rfl eg rfl
    · intro ua uw hb hd
      have eg : ua.eval (.tmp 16) = .bool false := hd 16 (by decide)
      exact hop_skipK (F := (StK.eq (undef)).F) rfl rfl rfl eg rfl
    · intro ua uw hb hd
      have e16 : ua.eval (.tmp 16) = .bool false := hd 16 (by decide)
      have e23 : ua.eval (.tmp 23) = undef := hd 23 (by decide)
      exact hop_runK (F := (StK.eq (.bool false)).F) (wanted_none rfl) (.bool false) (run_pick_f rfl e16 rfl) rfl
    · intro ua uw hb hd
      have e24 : ua.eval (.tmp 24) = .bool false := hd 24 (by decide)
      exact hop_runK (F := (StK.eq (.bool false)).F) (wanted_none rfl) (.bool false) (run_mv _ (.inr rfl) e24) rfl
    intro p6 a6 w6 b6 G6 y6
    obtain ⟨-, -, -, -, -, -, -, -, -, -, -, -, -, -, -, -, -, -, -, -, q20, -⟩ := y6
    have r20 : p6 20 = .bool false := q20 (by decide)
    simp only [List.take_succ_cons, List.take_zero, layV, Nat.zero_add, Nat.reduceAdd, r20] at G6
    have M6 := M3.kc b6
    clear F4 M3 r20 q20
    refine hK5 _ _ ?_
    refine wp_ret ?_
    try simp only [Exit.then, Exit.inBlock]
    exact bodyPost_ret (res1 rfl (G6.get (t := 4) rfl)) G6.defers ⟨rfl, M6.below⟩
  · rw [c4]
    clear c4
    refine calls_fx (args := [.agg (groupA k P Q g), numV a]) 25 Try.func28 rfl rfl rfl ?_
    intro fa F
    have M := Mx.start w
    refine wp_seq_k fun K1 hK1 => ?_
    refine wp_region_lit ?_
    refine wl_alloc (wanted_none rfl) rfl F rfl M 0 (t := 28) (c := groupA k P Q g) (by unfold execOp; simp only [(F.get (t := 0) rfl)]; kernel_rfl) ?_
    intro g2 a2 w2 F2 M2
    clear F M
    refine wl_alloc (wanted_none rfl) rfl F2 rfl M2 1 (t := 26) (c := numA a) (by unfold execOp; simp only [(F2.get (t := 1) rfl)]; kernel_rfl) ?_
    intro g3 a3 w3 F3 M3
    clear F2 M2
    refine wl_run (w' := w3) (wanted_none rfl) rfl F3 rfl (.bool false) (run_mv _ (.inr rfl) rfl) fun a4 F4 => ?_
    clear F3
    refine hK1 _ _ ?_
    refine wp_seq_k fun K5 hK5 => ?_
    refine region_fx F4 [StK.eq (numV a), StK.eq (numV 1), StK.eq (.int .i64 d), StK.eq (.bool true), StK.eq (.bool true), StK.eq (numV a), StK.eq (.pointer (some ⟨g2, 1, none⟩)), StK.eq (numV P), StK.eq (.int .i64 e), StK.eq (.bool true), StK.eq (.bool true), StK.eq (.bool true), StK.eq (.agg (groupA k P Q g)), StK.eq (numV a), StK.eq (.pointer (some ⟨g2, 9, none⟩)), StK.eq (numV Q), StK.eq (numV 1), StK.eq (numV 1), StK.eq (.bool true), StK.eq (.bool true), StK.eq (.bool true)] 21 rfl (by kernel_rfl) ⟨?_, ?_, ?_, ?_, ?_, ?_, ?_, ?_, ?_, ?_, ?_, ?_, ?_, ?_, ?_, ?_, ?_, ?_, ?_, ?_, ?_, trivial⟩ ?_
    · intro ua uw hb hd
      have e3 : ua.eval (.tmp 3) = .pointer (some ⟨g3, 0, none⟩) := (show ua.eval (.tmp 3) = _ from hd 3 (by decide)).trans (F4.get (t := 3) rfl)
      exact hop_runK (F := (StK.eq (numV a)).F) (wanted_none rfl) (numV a) (y_ldN _ _ rfl e3 ((M3.step hb).blk (k := 1) rfl) (numA a) (y_all rfl) Try.underlying26 rfl size26) rfl
    · intro ua uw hb hd
      exact hop_callK (F := (StK.eq (numV 1)).F) (wanted_none rfl) hb.size rfl #[.int .i64 1] (args1 rfl) (enters_of Try.func22 (by kernel_rfl) rfl) (call_eqS (kO uw))
    · intro ua uw hb hd
      have e5 : ua.eval (.tmp 5) = numV a := hd 5 (by decide)
      have e6 : ua.eval (.tmp 6) = numV 1 := hd 6 (by decide)
      exact hop_callK (F := (StK.eq (.int .i64 d)).F) (wanted_none rfl) hb.size rfl #[numV a, numV 1] (args2 e5 e6) (enters_of Try.func29 (by kernel_rfl) rfl) (call_eqS (k1 uw))
    · intro ua uw hb hd
      have e7 : ua.eval (.tmp 7) = .int .i64 d := hd 7 (by decide)
      exact hop_runK (F := (StK.eq (.bool true)).F) (wanted_none rfl) (.bool true) (y_gtr _ _ _ _ rfl e7 rfl (decide_eq_true c1)) rfl
    · intro ua uw hb hd
      have e8 : ua.eval (.tmp 8) = .bool true := hd 8 (by decide)
      exact hop_runK (F := (StK.eq (.bool true)).F) (wanted_none rfl) (.bool true) (run_mv _ (.inl rfl) e8) rfl
    · intro ua uw hb hd
      have eg : ua.eval (.tmp 9) = .bool true := hd 9 (by decide)
      have e3 : ua.eval (.tmp 3) = .pointer (some ⟨g3, 0, none⟩) := (show ua.eval (.tmp 3) = _ from hd 3 (by decide)).trans (F4.get (t := 3) rfl)
      exact hop_runK (F := (StK.eq (numV a)).F) (wanted_yes rfl rfl rfl eg) (numV a) (y_ldN _ _ rfl e3 ((M3.step hb).blk (k := 1) rfl) (numA a) (y_all rfl) Try.underlying26 rfl size26) rfl
    · intro ua uw hb hd
      have eg : ua.eval (.tmp 9) = .bool true := hd 9 (by decide)
      have e2 : ua.eval (.tmp 2) = .pointer (some ⟨g2, 0, none⟩) := (show ua.eval (.tmp 2) = _ from hd 2 (by decide)).trans (F4.get (t := 2) rfl)
      exact hop_runK (F := (StK.eq (.pointer (some ⟨g2, 1, none⟩))).F) (wanted_yes rfl rfl rfl eg) (.pointer (some ⟨g2, 1, none⟩)) (by unfold execOp; simp only [e2]; kernel_rfl) rfl
    · intro ua uw hb hd
      have eg : ua.eval (.tmp 9) = .bool true := hd 9 (by decide)
      have e11 : ua.eval (.tmp 11) = .pointer (some ⟨g2, 1, none⟩) := hd 11 (by decide)
      exact hop_runK (F := (StK.eq (numV P)).F) (wanted_yes rfl rfl rfl eg) (numV P) (y_ldN _ _ rfl e11 ((M3.step hb).blk (k := 0) rfl) (numA P) groupA_p Try.underlying26 rfl size26) rfl
    · intro ua uw hb hd
      have eg : ua.eval (.tmp 9) = .bool true := hd 9 (by decide)
      have e10 : ua.eval (.tmp 10) = numV a := hd 10 (by decide)
      have e12 : ua.eval (.tmp 12) = numV P := hd 12 (by decide)
      exact hop_callK (F := (StK.eq (.int .i64 e)).F) (wanted_yes rfl rfl rfl eg) hb.size rfl #[numV a, numV P] (args2 e10 e12) (enters_of Try.func29 (by kernel_rfl) rfl) (call_eqS (k2 uw))
    · intro ua uw hb hd
      have eg : ua.eval (.tmp 9) = .bool true := hd 9 (by decide)
      have e13 : ua.eval (.tmp 13) = .int .i64 e := hd 13 (by decide)
      exact hop_runK (F := (StK.eq (.bool true)).F) (wanted_yes rfl rfl rfl eg) (.bool true) (y_lss _ _ _ _ rfl e13 rfl (decide_eq_true c2)) rfl
    · intro ua uw hb hd
      have e9 : ua.eval (.tmp 9) = .bool true := hd 9 (by decide)
      have e14 : ua.eval (.tmp 14) = .bool true := hd 14 (by decide)
      exact hop_runK (F := (StK.eq (.bool true)).F) (wanted_none rfl) (.bool true) (run_pick_t rfl e9 e14) rfl
    · intro ua uw hb hd
      have e15 : ua.eval (.tmp 15) = .bool true := hd 15 (by decide)
      exact hop_runK (F := (StK.eq (.bool true)).F) (wanted_none rfl) (.bool true) (run_mv _ (.inl rfl) e15) rfl
    · intro ua uw hb hd
      have eg : ua.eval (.tmp 16) = .bool true := hd 16 (by decide)
      have e2 : ua.eval (.tmp 2) = .pointer (some ⟨g2, 0, none⟩) := (show ua.eval (.tmp 2) = _ from hd 2 (by decide)).trans (F4.get (t := 2) rfl)
      exact hop_runK (F := (StK.eq (.agg (groupA k P Q g))).F) (wanted_yes rfl rfl rfl eg) (.agg (groupA k P Q g)) (y_ldN _ _ rfl e2 ((M3.step hb).blk (k := 0) rfl) (groupA k P Q g) (y_all rfl) Try.underlying28 rfl (by kernel_rfl)) rfl
    · intro ua uw hb hd
      have eg : ua.eval (.tmp 16) = .bool true := hd 16 (by decide)
      have e3 : ua.eval (.tmp 3) = .pointer (some ⟨g3, 0, none⟩) := (show ua.eval (.tmp 3) = _ from hd 3 (by decide)).trans (F4.get (t := 3) rfl)
      exact hop_runK (F := (StK.eq (numV a)).F) (wanted_yes rfl rfl rfl eg) (numV a) (y_ldN _ _ rfl e3 ((M3.step hb).blk (k := 1) rfl) (numA a) (y_all rfl) Try.underlying26 rfl size26) rfl
    · intro ua uw hb hd
      have eg : ua.eval (.tmp 16) = .bool true := hd 16 (by decide)
      have e2 : ua.eval (.tmp 2) = .pointer (some ⟨g2, 0, none⟩) := (show ua.eval (.tmp 2) = _ from hd 2 (by decide)).trans (F4.get (t := 2) rfl)
      exact hop_runK (F := (StK.eq (.pointer (some ⟨g2, 9, none⟩))).F) (wanted_yes rfl rfl rfl eg) (.pointer (some ⟨g2, 9, none⟩)) (by unfold execOp; simp only [e2]; kernel_rfl) rfl
    · intro ua uw hb hd
      have eg : ua.eval (.tmp 16) = .bool true := hd 16 (by decide)
      have e19 : ua.eval (.tmp 19) = .pointer (some ⟨g2, 9, none⟩) := hd 19 (by decide)
      exact hop_runK (F := (StK.eq (numV Q)).F) (wanted_yes rfl rfl rfl eg) (numV Q) (y_ldN _ _ rfl e19 ((M3.step hb).blk (k := 0) rfl) (numA Q) groupA_q Try.underlying26 rfl size26) rfl
    · intro ua uw hb hd
      have eg : ua.eval (.tmp 16) = .bool true := hd 16 (by decide)
      have e17 : ua.eval (.tmp 17) = .agg (groupA k P Q g) := hd 17 (by decide)
      have e18 : ua.eval (.tmp 18) = numV a := hd 18 (by decide)
      have e20 : ua.eval (.tmp 20) = numV Q := hd 20 (by decide)
      exact hop_callK (F := (StK.eq (numV 1)).F) (wanted_yes rfl rfl rfl eg) hb.size rfl #[.agg (groupA k P Q g), numV a, numV Q] (args3 e17 e18 e20) (enters_of Try.func24 (by kernel_rfl) rfl) (call_eqS (k3 uw))
    · intro ua uw hb hd
      have eg : ua.eval (.tmp 16) = .bool true := hd 16 (by decide)
      exact hop_callK (F := (StK.eq (numV 1)).F) (wanted_yes rfl rfl rfl eg) hb.size rfl #[.int .i64 1] (args1 rfl) (enters_of Try.func22 (by kernel_rfl) rfl) (call_eqS (kO uw))
    · intro ua uw hb hd
      have eg : ua.eval (.tmp 16) = .bool true := hd 16 (by decide)
      have e21 : ua.eval (.tmp 21) = numV 1 := hd 21 (by decide)
      have e22 : ua.eval (.tmp 22) = numV 1 := hd 22 (by decide)
      exact hop_runK (F := (StK.eq (.bool true)).F) (wanted_yes rfl rfl rfl eg) (.bool true) (y_eqA _ _ _ _ rfl e21 e22 (by kernel_rfl) (eqn_same 1 _)) rfl
    · intro ua uw hb hd
      have e16 : ua.eval (.tmp 16) = .bool true := hd 16 (by decide)
      have e23 : ua.eval (.tmp 23) = .bool true := hd 23 (by decide)
      exact hop_runK (F := (StK.eq (.bool true)).F) (wanted_none rfl) (.bool true) (run_pick_t rfl e16 e23) rfl
    · intro ua uw hb hd
      have e24 : ua.eval (.tmp 24) = .bool true := hd 24 (by decide)
      exact hop_runK (F := (StK.eq (.bool true)).F) (wanted_none rfl) (.bool true) (run_mv _ (.inr rfl) e24) rfl
    intro p6 a6 w6 b6 G6 y6
    obtain ⟨-, -, -, -, -, -, -, -, -, -, -, -, -, -, -, -, -, -, -, -, q20, -⟩ := y6
    have r20 : p6 20 = .bool true := q20 (by decide)
    simp only [List.take_succ_cons, List.take_zero, layV, Nat.zero_add, Nat.reduceAdd, r20] at G6
    have M6 := M3.kc b6
    clear F4 M3 r20 q20
    refine hK5 _ _ ?_
    refine wp_ret ?_
    try simp only [Exit.then, Exit.inBlock]
    exact bodyPost_ret (res1 rfl (G6.get (t := 4) rfl)) G6.defers ⟨rfl, M6.below⟩
  · rw [c4]
    clear c4
    refine calls_fx (args := [.agg (groupA k P Q g), numV a]) 25 Try.func28 rfl rfl rfl ?_
    intro fa F
    have M := Mx.start w
    refine wp_seq_k fun K1 hK1 => ?_
    refine wp_region_lit ?_
    refine wl_alloc (wanted_none rfl) rfl F rfl M 0 (t := 28) (c := groupA k P Q g) (by unfold execOp; simp only [(F.get (t := 0) rfl)]; kernel_rfl) ?_
    intro g2 a2 w2 F2 M2
    clear F M
    refine wl_alloc (wanted_none rfl) rfl F2 rfl M2 1 (t := 26) (c := numA a) (by unfold execOp; simp only [(F2.get (t := 1) rfl)]; kernel_rfl) ?_
    intro g3 a3 w3 F3 M3
    clear F2 M2
    refine wl_run (w' := w3) (wanted_none rfl) rfl F3 rfl (.bool false) (run_mv _ (.inr rfl) rfl) fun a4 F4 => ?_
    clear F3
    refine hK1 _ _ ?_
    refine wp_seq_k fun K5 hK5 => ?_
    refine region_fx F4 [StK.eq (numV a), StK.eq (numV 1), StK.eq (.int .i64 d), StK.eq (.bool true), StK.eq (.bool true), StK.eq (numV a), StK.eq (.pointer (some ⟨g2, 1, none⟩)), StK.eq (numV P), StK.eq (.int .i64 e), StK.eq (.bool true), StK.eq (.bool true), StK.eq (.bool true), StK.eq (.agg (groupA k P Q g)), StK.eq (numV a), StK.eq (.pointer (some ⟨g2, 9, none⟩)), StK.eq (numV Q), StK.eq (numV V), StK.eq (numV 1), StK.eq (.bool false), StK.eq (.bool false), StK.eq (.bool false)] 21 rfl (by kernel_rfl) ⟨?_, ?_, ?_, ?_, ?_, ?_, ?_, ?_, ?_, ?_, ?_, ?_, ?_, ?_, ?_, ?_, ?_, ?_, ?_, ?_, ?_, trivial⟩ ?_
    · intro ua uw hb hd
      have e3 : ua.eval (.tmp 3) = .pointer (some ⟨g3, 0, none⟩) := (show ua.eval (.tmp 3) = _ from hd 3 (by decide)).trans (F4.get (t := 3) rfl)
      exact hop_runK (F := (StK.eq (numV a)).F) (wanted_none rfl) (numV a) (y_ldN _ _ rfl e3 ((M3.step hb).blk (k := 1) rfl) (numA a) (y_all rfl) Try.underlying26 rfl size26) rfl
    · intro ua uw hb hd
      exact hop_callK (F := (StK.eq (numV 1)).F) (wanted_none rfl) hb.size rfl #[.int .i64 1] (args1 rfl) (enters_of Try.func22 (by kernel_rfl) rfl) (call_eqS (kO uw))
    · intro ua uw hb hd
      have e5 : ua.eval (.tmp 5) = numV a := hd 5 (by decide)
      have e6 : ua.eval (.tmp 6) = numV 1 := hd 6 (by decide)
      exact hop_callK (F := (StK.eq (.int .i64 d)).F) (wanted_none rfl) hb.size rfl #[numV a, numV 1] (args2 e5 e6) (enters_of Try.func29 (by kernel_rfl) rfl) (call_eqS (k1 uw))
    · intro ua uw hb hd
      have e7 : ua.eval (.tmp 7) = .int .i64 d := hd 7 (by decide)
      exact hop_runK (F := (StK.eq (.bool true)).F) (wanted_none rfl) (.bool true) (y_gtr _ _ _ _ rfl e7 rfl (decide_eq_true c1)) rfl
    · intro ua uw hb hd
      have e8 : ua.eval (.tmp 8) = .bool true := hd 8 (by decide)
      exact hop_runK (F := (StK.eq (.bool true)).F) (wanted_none rfl) (.bool true) (run_mv _ (.inl rfl) e8) rfl
    · intro ua uw hb hd
      have eg : ua.eval (.tmp 9) = .bool true := hd 9 (by decide)
      have e3 : ua.eval (.tmp 3) = .pointer (some ⟨g3, 0, none⟩) := (show ua.eval (.tmp 3) = _ from hd 3 (by decide)).trans (F4.get (t := 3) rfl)
      exact hop_runK (F := (StK.eq (numV a)).F) (wanted_yes rfl rfl rfl eg) (numV a) (y_ldN _ _ rfl e3 ((M3.step hb).blk (k := 1) rfl) (numA a) (y_all rfl) Try.underlying26 rfl size26) rfl
    · intro ua uw hb hd
      have eg : ua.eval (.tmp 9) = .bool true := hd 9 (by decide)
      have e2 : ua.eval (.tmp 2) = .pointer (some ⟨g2, 0, none⟩) := (show ua.eval (.tmp 2) = _ from hd 2 (by decide)).trans (F4.get (t := 2) rfl)
      exact hop_runK (F := (StK.eq (.pointer (some ⟨g2, 1, none⟩))).F) (wanted_yes rfl rfl rfl eg) (.pointer (some ⟨g2, 1, none⟩)) (by unfold execOp; simp only [e2]; kernel_rfl) rfl
    · intro ua uw hb hd
      have eg : ua.eval (.tmp 9) = .bool true := hd 9 (by decide)
      have e11 : ua.eval (.tmp 11) = .pointer (some ⟨g2, 1, none⟩) := hd 11 (by decide)
      exact hop_runK (F := (StK.eq (numV P)).F) (wanted_yes rfl rfl rfl eg) (numV P) (y_ldN _ _ rfl e11 ((M3.step hb).blk (k := 0) rfl) (numA P) groupA_p Try.underlying26 rfl size26) rfl
    · intro ua uw hb hd
      have eg : ua.eval (.tmp 9) = .bool true := hd 9 (by decide)
      have e10 : ua.eval (.tmp 10) = numV a := hd 10 (by decide)
      have e12 : ua.eval (.tmp 12) = numV P := hd 12 (by decide)
      exact hop_callK (F := (StK.eq (.int .i64 e)).F) (wanted_yes rfl rfl rfl eg) hb.size rfl #[numV a, numV P] (args2 e10 e12) (enters_of Try.func29 (by kernel_rfl) rfl) (call_eqS (k2 uw))
    · intro ua uw hb hd
      have eg : ua.eval (.tmp 9) = .bool true := hd 9 (by decide)
      have e13 : ua.eval (.tmp 13) = .int .i64 e := hd 13 (by decide)
      exact hop_runK (F := (StK.eq (.bool true)).F) (wanted_yes rfl rfl rfl eg) (.bool true) (y_lss _ _ _ _ rfl e13 rfl (decide_eq_true c2)) rfl
    · intro ua uw hb hd
      have e9 : ua.eval (.tmp 9) = .bool true := hd 9 (by decide)
      have e14 : ua.eval (.tmp 14) = .bool true := hd 14 (by decide)
      exact hop_runK (F := (StK.eq (.bool true)).F) (wanted_none rfl) (.bool true) (run_pick_t rfl e9 e14) rfl
    · intro ua uw hb hd
      have e15 : ua.eval (.tmp 15) = .bool true := hd 15 (by decide)
      exact hop_runK (F := (StK.eq (.bool true)).F) (wanted_none rfl) (.bool true) (run_mv _ (.inl rfl) e15) rfl
    · intro ua uw hb hd
      have eg : ua.eval (.tmp 16) = .bool true := hd 16 (by decide)
      have e2 : ua.eval (.tmp 2) = .pointer (some ⟨g2, 0, none⟩) := (show ua.eval (.tmp 2) = _ from hd 2 (by decide)).trans (F4.get (t := 2) rfl)
      exact hop_runK (F := (StK.eq (.agg (groupA k P Q g))).F) (wanted_yes rfl rfl rfl eg) (.agg (groupA k P Q g)) (y_ldN _ _ rfl e2 ((M3.step hb).blk (k := 0) rfl) (groupA k P Q g) (y_all rfl) Try.underlying28 rfl (by kernel_rfl)) rfl
    · intro ua uw hb hd
      have eg : ua.eval (.tmp 16) = .bool true := hd 16 (by decide)
      have e3 : ua.eval (.tmp 3) = .pointer (some ⟨g3, 0, none⟩) := (show ua.eval (.tmp 3) = _ from hd 3 (by decide)).trans (F4.get (t := 3) rfl)
      exact hop_runK (F := (StK.eq (numV a)).F) (wanted_yes rfl rfl rfl eg) (numV a) (y_ldN _ _ rfl e3 ((M3.step hb).blk (k := 1) rfl) (numA a) (y_all rfl) Try.underlying26 rfl size26) rfl
    · intro ua uw hb hd
      have eg : ua.eval (.tmp 16) = .bool true := hd 16 (by decide)
      have e2 : ua.eval (.tmp 2) = .pointer (some ⟨g2, 0, none⟩) := (show ua.eval (.tmp 2) = _ from hd 2 (by decide)).trans (F4.get (t := 2) rfl)
      exact hop_runK (F := (StK.eq (.pointer (some ⟨g2, 9, none⟩))).F) (wanted_yes rfl rfl rfl eg) (.pointer (some ⟨g2, 9, none⟩)) (by unfold execOp; simp only [e2]; kernel_rfl) rfl
    · intro ua uw hb hd
      have eg : ua.eval (.tmp 16) = .bool true := hd 16 (by decide)
      have e19 : ua.eval (.tmp 19) = .pointer (some ⟨g2, 9, none⟩) := hd 19 (by decide)
      exact hop_runK (F := (StK.eq (numV Q)).F) (wanted_yes rfl rfl rfl eg) (numV Q) (y_ldN _ _ rfl e19 ((M3.step hb).blk (k := 0) rfl) (numA Q) groupA_q Try.underlying26 rfl size26) rfl
    · intro ua uw hb hd
      have eg : ua.eval (.tmp 16) = .bool true := hd 16 (by decide)
      have e17 : ua.eval (.tmp 17) = .agg (groupA k P Q g) := hd 17 (by decide)
      have e18 : ua.eval (.tmp 18) = numV a := hd 18 (by decide)
      have e20 : ua.eval (.tmp 20) = numV Q := hd 20 (by decide)
      exact hop_callK (F := (StK.eq (numV V)).F) (wanted_yes rfl rfl rfl eg) hb.size rfl #[.agg (groupA k P Q g), numV a, numV Q] (args3 e17 e18 e20) (enters_of Try.func24 (by kernel_rfl) rfl) (call_eqS (k3 uw))
    · intro ua uw hb hd
      have eg : ua.eval (.tmp 16) = .bool true := hd 16 (by decide)
      exact hop_callK (F := (StK.eq (numV 1)).F) (wanted_yes rfl rfl rfl eg) hb.size rfl #[.int .i64 1] (args1 rfl) (enters_of Try.func22 (by kernel_rfl) rfl) (call_eqS (kO uw))
    · intro ua uw hb hd
      have eg : ua.eval (.tmp 16) = .bool true := hd 16 (by decide)
      have e21 : ua.eval (.tmp 21) = numV V := hd 21 (by decide)
      have e22 : ua.eval (.tmp 22) = numV 1 := hd 22 (by decide)
      exact hop_runK (F := (StK.eq (.bool false)).F) (wanted_yes rfl rfl rfl eg) (.bool false) (y_eqA _ _ _ _ rfl e21 e22 (by kernel_rfl) (c3 _)) rfl
    · intro ua uw hb hd
      have e16 : ua.eval (.tmp 16) = .bool true := hd 16 (by decide)
      have e23 : ua.eval (.tmp 23) = .bool false := hd 23 (by decide)
      exact hop_runK (F := (StK.eq (.bool false)).F) (wanted_none rfl) (.bool false) (run_pick_t rfl e16 e23) rfl
    · intro ua uw hb hd
      have e24 : ua.eval (.tmp 24) = .bool false := hd 24 (by decide)
      exact hop_runK (F := (StK.eq (.bool false)).F) (wanted_none rfl) (.bool false) (run_mv _ (.inr rfl) e24) rfl
    intro p6 a6 w6 b6 G6 y6
    obtain ⟨-, -, -, -, -, -, -, -, -, -, -, -, -, -, -, -, -, -, -, -, q20, -⟩ := y6
    have r20 : p6 20 = .bool false := q20 (by decide)
    simp only [List.take_succ_cons, List.take_zero, layV, Nat.zero_add, Nat.reduceAdd, r20] at G6
    have M6 := M3.kc b6
    clear F4 M3 r20 q20
    refine hK5 _ _ ?_
    refine wp_ret ?_
    try simp only [Exit.then, Exit.inBlock]
    exact bodyPost_ret (res1 rfl (G6.get (t := 4) rfl)) G6.defers ⟨rfl, M6.below⟩
end Go.Proofs.Ytgccbfkofkohpaa
