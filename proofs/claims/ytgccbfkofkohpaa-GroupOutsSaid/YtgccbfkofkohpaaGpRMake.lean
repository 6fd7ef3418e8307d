/- sentinelref4.Make. -/
import Derived.Test.YtgccbfkofkohpaaGpMake
namespace Go.Proofs.Ytgccbfkofkohpaa
set_option linter.unusedVariables false
set_option maxRecDepth 20000
set_option linter.unusedSimpArgs false
open Go.ChangeShapes Go.WideShapes Go.ChangeAt Go.RowKit
def RmR (k p : Int) (V : Value) : Prop := ((12 ≤ k ∧ k ≤ 31) ∧ V = .tuple #[.agg (groupA k p.toNat (p / 2).toNat 4), .bool true]) ∨ (¬ (12 ≤ k ∧ k ≤ 31) ∧ V = .tuple #[.agg (groupA 0 0 0 0), .bool false])
theorem pow_even {k : Int} (h : 12 ≤ k ∧ k ≤ 31) : (2 : Int) ^ k.toNat % 2 = 0 := by
  obtain ⟨K, hK⟩ : ∃ K, k.toNat = K + 1 := ⟨k.toNat - 1, by omega⟩
  rw [hK, Int.pow_succ]
  omega
set_option maxRecDepth 100000 in
set_option maxHeartbeats 8000000 in
theorem rgmake_any (k p : Int) (h0 : -9223372036854775808 ≤ k) (h1 : k < 9223372036854775808) (hp : 12 ≤ k ∧ k ≤ 31 → p % 2 = 1 ∧ 3 ≤ p ∧ p < 2 ^ k.toNat ∧ safeB p = true ∧ ∀ x, p < x → x < 2 ^ k.toNat → safeB x = false) (w : World) :
    Calls Try.prog 16 #[.int .i64 k] w fun e w' => ∃ V, e = .returned V ∧ RmR k p V ∧ Below w.heap.size w w' := by
  skip
  go_enter Try.func16, Try.ntmps16
  go_upto_region 1 with fail
  obtain ⟨W, hW⟩ : ∃ W, W = w.alloc (.cells #[Value.int .i64 0, .int .u32 0, .int .u32 0, .int .u32 0, .int .u32 0, .int .u32 0, .int .u32 0, .int .u32 0, .int .u32 0, .int .u32 0, .int .u32 0, .int .u32 0, .int .u32 0, .int .u32 0, .int .u32 0, .int .u32 0, .int .u32 0, .int .u32 0, .int .u32 0, .int .u32 0, .int .u32 0, .int .u32 0, .int .u32 0, .int .u32 0, .int .u32 0] 28) := ⟨_, rfl⟩
  have q_g : Blk W (w.heap.size) 28 #[Value.int .i64 0, .int .u32 0, .int .u32 0, .int .u32 0, .int .u32 0, .int .u32 0, .int .u32 0, .int .u32 0, .int .u32 0, .int .u32 0, .int .u32 0, .int .u32 0, .int .u32 0, .int .u32 0, .int .u32 0, .int .u32 0, .int .u32 0, .int .u32 0, .int .u32 0, .int .u32 0, .int .u32 0, .int .u32 0, .int .u32 0, .int .u32 0, .int .u32 0] := by
    have := (Blk.new w 28 (groupA 0 0 0 0))
    rw [groupA_zero] at this
    rw [hW]; exact this
  have gb : Below w.heap.size w W := by rw [hW]; exact ((Below.refl _ _).alloc (by simp <;> omega) _)
  rw [← hW]
  clear hW
  have log := hid (show w.heap.size ≤ w.heap.size by omega)
  by_cases hr : 12 ≤ k ∧ k ≤ 31
  · have hr0 := hid hr
    obtain ⟨hpo, hp3, hpB, hps, hpn⟩ := hp hr
    obtain ⟨B, hB⟩ : ∃ B : Int, 2 ^ k.toNat = B := ⟨_, rfl⟩
    obtain ⟨b0, b1⟩ : 0 ≤ B ∧ B ≤ 2147483648 := by rw [← hB]; exact pow_k hr
    have hBe : B % 2 = 0 := by rw [← hB]; exact pow_even hr
    rw [hB] at hpB hpn
    have HN := hid hpn
    have HS := hid hps
    clear hps hpn hp
    obtain ⟨hk0, hk1⟩ := hr
    go_wp2_with fail
    go_loopw [4] (fun x wr => ∃ X : Int, p ≤ X ∧ X < B ∧ X % 2 = 1 ∧ x = .int .i64 X ∧ W = wr) (fun x _ => (intOf x).toNat)
    case atStart => exact ⟨B - 1, by omega, by omega, by omega, rfl, rfl⟩
    case round =>
      obtain ⟨X, x0, x1, x2, rfl, rfl⟩ := hrel
      clear hB
      obtain ⟨H, hH⟩ : ∃ H, X / 2 = H := ⟨_, rfl⟩
      have ht : (X - 1).tdiv 2 = H := by rw [Int.tdiv_eq_ediv_of_nonneg (by omega)]; omega
      obtain ⟨u0, u1⟩ : 0 ≤ H ∧ H < 2147483648 := by omega
      have k1 := fun w => rprime_any X (by omega) (by omega) w
      have k2 := fun w => rprime_any H (by omega) (by omega) w
      obtain ⟨c, hc⟩ : ∃ b, primeB X = b := ⟨_, rfl⟩
      obtain ⟨e, he⟩ : ∃ b, primeB H = b := ⟨_, rfl⟩
      have hse : safeB X = (e && c) := by unfold safeB; rw [hH, hc, he]
      rw [hc] at k1
      rw [he] at k2
      have HX := hid hH
      clear hc he hH
      by_cases hXp : X = p
      · subst hXp
        have hce : c = true ∧ e = true := by
          have := HS.out
          rw [hse] at this
          simpa [and_comm] using this
        obtain ⟨rfl, rfl⟩ := hce
        clear hse HN HS
        go_wp2_with fail
        refine (k1 _).mono ?_
        rintro e w1 ⟨rfl, rfl⟩
        go_wp2_with fail
        refine (k2 _).mono ?_
        rintro e w1 ⟨rfl, rfl⟩
        go_wp2_with fail
        refine (from_ref X (by omega) (by omega) _).mono ?_
        rintro e w4 ⟨rfl, bw4⟩
        have g4 := q_g.step bw4
        have c4 := step_trans gb bw4
        go_wp2_with fail
        refine (from_ref H (by omega) (by omega) _).mono ?_
        rintro e w5 ⟨rfl, bw5⟩
        have g5 := g4.step bw5
        have c5 := step_trans c4 bw5
        go_wp2_with fail
        refine (from_ref 4 (by omega) (by omega) _).mono ?_
        rintro e w6 ⟨rfl, bw6⟩
        have g6 := g5.step bw6
        have c6 := step_trans c5 bw6
        clear q_g gb bw4 g4 c4 bw5 g5 c5 bw6
        go_wp2_with (first | (refine wpList_op rfl _ (run_buildG (k := k) (p := X.toNat) (q := H.toNat) (g := 4) _ _ _ _ rfl rfl rfl rfl rfl) ?_) | (refine wpList_store_blk rfl _ (.tmp 2) _ rfl _ rfl (groupA k X.toNat H.toNat 4) rfl (groupA_cells _ _ _ _) _ g6 rfl size_group ?_; intro wz gz mz))
        exact bodyPost_ret (results_blk_tmp rfl rfl mz Try.underlying28 rfl size_group) rfl ⟨.tuple #[.agg (groupA k X.toNat H.toNat 4), .bool true], rfl, .inl ⟨hr0.out, by rw [HX.out]⟩, below_of_grown c6 gz c6.size (by omega)⟩
      · have hce : c = false ∨ (c = true ∧ e = false) := by
          have := HN.out X (by omega) x1
          rw [hse] at this
          cases c <;> cases e <;> simp_all
        clear hse
        rcases hce with rfl | ⟨rfl, rfl⟩
        · go_wp2_with fail
          refine (k1 _).mono ?_
          rintro e w1 ⟨rfl, rfl⟩
          go_wp2_with fail
          go_roundw
          case rel => exact ⟨X - 2, by omega, by omega, by omega, by go_num, (by first | rfl | trivial)⟩
          case measure => simp [intOf] <;> omega
        · go_wp2_with fail
          refine (k1 _).mono ?_
          rintro e w1 ⟨rfl, rfl⟩
          go_wp2_with fail
          refine (k2 _).mono ?_
          rintro e w1 ⟨rfl, rfl⟩
          go_wp2_with fail
          go_roundw
          case rel => exact ⟨X - 2, by omega, by omega, by omega, by go_num, (by first | rfl | trivial)⟩
          case measure => simp [intOf] <;> omega
  · have hr0 := hid hr
    have hway : k < 12 ∨ (¬ k < 12 ∧ 31 < k) := by omega
    rcases hway with hk | ⟨hk, hk2⟩
    · go_wp2_with (refine wpList_store_blk rfl _ (.tmp 2) _ rfl _ rfl (#[Value.int .i64 0, .int .u32 0, .int .u32 0, .int .u32 0, .int .u32 0, .int .u32 0, .int .u32 0, .int .u32 0, .int .u32 0, .int .u32 0, .int .u32 0, .int .u32 0, .int .u32 0, .int .u32 0, .int .u32 0, .int .u32 0, .int .u32 0, .int .u32 0, .int .u32 0, .int .u32 0, .int .u32 0, .int .u32 0, .int .u32 0, .int .u32 0, .int .u32 0]) rfl zG_cells _ q_g rfl size_group ?_; intro wz gz mz)
      rw [← groupA_zero] at mz
      exact bodyPost_ret (results_blk_tmp rfl rfl mz Try.underlying28 rfl size_group) rfl ⟨.tuple #[.agg (groupA 0 0 0 0), .bool false], rfl, .inr ⟨hr0.out, rfl⟩, below_of_grown gb gz gb.size (by omega)⟩
    · have hkd : decide (k < 12) = false := decide_eq_false hk
      go_wp2_with (refine wpList_store_blk rfl _ (.tmp 2) _ rfl _ rfl (#[Value.int .i64 0, .int .u32 0, .int .u32 0, .int .u32 0, .int .u32 0, .int .u32 0, .int .u32 0, .int .u32 0, .int .u32 0, .int .u32 0, .int .u32 0, .int .u32 0, .int .u32 0, .int .u32 0, .int .u32 0, .int .u32 0, .int .u32 0, .int .u32 0, .int .u32 0, .int .u32 0, .int .u32 0, .int .u32 0, .int .u32 0, .int .u32 0, .int .u32 0]) rfl zG_cells _ q_g rfl size_group ?_; intro wz gz mz)
      rw [← groupA_zero] at mz
      exact bodyPost_ret (results_blk_tmp rfl rfl mz Try.underlying28 rfl size_group) rfl ⟨.tuple #[.agg (groupA 0 0 0 0), .bool false], rfl, .inr ⟨hr0.out, rfl⟩, below_of_grown gb gz gb.size (by omega)⟩
end Go.Proofs.Ytgccbfkofkohpaa
