/- The groups. -/
import Derived.Test.YtgccbfkofkohpaaGaGc
import Derived.Test.YtgccbfkofkohpaaGaGb
import Derived.Test.YtgccbfkofkohpaaMake
namespace Go.Proofs.Ytgccbfkofkohpaa
set_option linter.unusedVariables false
set_option maxRecDepth 20000
set_option linter.unusedSimpArgs false
open Go.ChangeShapes Go.WideShapes Go.ChangeAt Go.RowKit
/-- p is the first safe prime below 2^k: reckoned. -/
def chkT (k p D E : Nat) : Bool := primeF p D && (primeF (p / 2) D && (List.range (2 ^ k - 1 - p)).all fun j => compF (2 ^ k - 1 - j) E || compF ((2 ^ k - 1 - j) / 2) E)
theorem tab_of {k p D E : Nat} (hk : k ≤ 31) (h4 : 4 ≤ p) (hp : p < 2 ^ k) (hD : p < (D + 1) * (D + 1)) (hE : E * E ≤ p / 2) (h : chkT k p D E = true) : safeB (p : Int) = true ∧ ∀ x : Int, (p : Int) < x → x < 2 ^ k → safeB x = false := by
  unfold chkT at h
  simp only [Bool.and_eq_true, List.all_eq_true, Bool.or_eq_true] at h
  obtain ⟨h1, h2, h3⟩ := h
  have hl : 2 ^ k ≤ 2 ^ 31 := Nat.pow_le_pow_right (by decide) hk
  generalize hM : 2 ^ k = M at *
  have hM2 : M ≤ 2147483648 := hl
  have hE2 : E * E ≤ p := Nat.le_trans hE (Nat.div_le_self _ _)
  constructor
  · unfold safeB
    rw [primeF_yes (by omega) (by omega) hD h1, show ((p : Nat) : Int) / 2 = ((p / 2 : Nat) : Int) by omega, primeF_yes (by omega) (by omega) (by omega) h2]
    rfl
  · intro x x0 x1
    obtain ⟨y, rfl⟩ := Int.eq_ofNat_of_zero_le (show 0 ≤ x by omega)
    have e : ((2 : Int) ^ k) = ((M : Nat) : Int) := by rw [← hM]; simp
    rw [e] at x1
    have h4 := h3 (M - 1 - y) (List.mem_range.2 (by omega))
    rw [show M - 1 - (M - 1 - y) = y by omega] at h4
    unfold safeB
    rcases h4 with h4 | h4
    · rw [compF_no (by omega) h4]; simp
    · rw [show ((y : Nat) : Int) / 2 = ((y / 2 : Nat) : Int) by omega, compF_no (Nat.le_trans hE (Nat.div_le_div_right (by omega))) h4]; rfl
theorem gm_known {k p : Nat} (hk : 12 ≤ k ∧ k ≤ 31) (h4 : 0 ≤ p) (hp : p < 2 ^ k) (ht : safeB (p : Int) = true ∧ ∀ x : Int, (p : Int) < x → x < 2 ^ k → safeB x = false) {V : Value} (h : GmR (k : Int) V) : V = .tuple #[.agg (groupA (k : Int) p (p / 2) 4), .bool true] := by
  obtain ⟨r, b, hV, ⟨-, -, hH⟩ | ⟨hn, -⟩⟩ := h
  · rw [Int.toNat_natCast] at hH
    have e : ((2 : Int) ^ k) = ((2 ^ k : Nat) : Int) := by simp
    obtain ⟨t1, t2⟩ := ht
    rw [e] at hH t2
    generalize 2 ^ k = M at *
    rcases hH with ⟨rfl, i, i1, i2, i3, i4⟩ | ⟨rfl, -, hall⟩
    · have hr : r = (p : Int) := by
        rcases Int.lt_trichotomy r (p : Int) with hlt | heq | hgt
        · have := i4 (M - 1 - p) (by omega)
          rw [show (M : Int) - 1 - ((M - 1 - p : Nat) : Int) = (p : Int) by omega, t1] at this
          cases this
        · exact heq
        · have := t2 r hgt (by omega)
          rw [i3] at this; cases this
      rw [hV, hr]
      rw [if_pos rfl, Int.toNat_natCast, show ((p : Int) / 2).toNat = p / 2 by omega]
    · exfalso
      have := hall (M - 1 - p) (by omega)
      rw [show (M : Int) - 1 - ((M - 1 - p : Nat) : Int) = (p : Int) by omega, t1] at this
      cases this
  · omega
theorem gm_none {k : Int} (hk : ¬ (12 ≤ k ∧ k ≤ 31)) {V : Value} (h : GmR k V) : V = .tuple #[.agg (groupA 0 0 0 0), .bool false] := by
  obtain ⟨r, b, hV, ⟨h1, h2, -⟩ | ⟨-, rfl⟩⟩ := h
  · omega
  · rw [hV, if_neg (by decide)]
theorem tab12 : chkT 12 4079 63 45 = true := by decide +kernel
end Go.Proofs.Ytgccbfkofkohpaa
namespace Go.Proofs.Ytgccbfkofkohpaa
set_option linter.unusedVariables false
set_option maxRecDepth 20000
set_option linter.unusedSimpArgs false
open Go.ChangeShapes Go.WideShapes Go.ChangeAt Go.RowKit
set_option maxRecDepth 100000
theorem tab13 : chkT 13 8147 90 63 = true := by decide +kernel
theorem tab14 : chkT 14 16223 127 90 = true := by decide +kernel
theorem tab15 : chkT 15 32603 180 127 = true := by decide +kernel
theorem tab16 : chkT 16 65267 255 180 = true := by decide +kernel
theorem tab17 : chkT 17 130787 361 255 = true := by decide +kernel
theorem tab18 : chkT 18 262127 511 362 = true := by decide +kernel
theorem tab19 : chkT 19 524243 724 511 = true := by decide +kernel
theorem tab20 : chkT 20 1048343 1023 723 = true := by decide +kernel
theorem tab21 : chkT 21 2097143 1448 1023 = true := by decide +kernel
theorem tab22 : chkT 22 4194287 2047 1448 = true := by decide +kernel
theorem tab23 : chkT 23 8388287 2896 2047 = true := by decide +kernel
theorem tab24 : chkT 24 16776899 4095 2896 = true := by decide +kernel
theorem tab25 : chkT 25 33553799 5792 4095 = true := by decide +kernel
theorem tab26 : chkT 26 67108187 8191 5792 = true := by decide +kernel
theorem tab27 : chkT 27 134217323 11585 8191 = true := by decide +kernel
theorem tabs {k : Nat} (h0 : 12 ≤ k) (h1 : k ≤ 27) : ∃ p : Nat, 4 ≤ p ∧ p % 2 = 1 ∧ p < 2 ^ k ∧ safeB (p : Int) = true ∧ ∀ x : Int, (p : Int) < x → x < 2 ^ k → safeB x = false := by
  have : k = 12 ∨ k = 13 ∨ k = 14 ∨ k = 15 ∨ k = 16 ∨ k = 17 ∨ k = 18 ∨ k = 19 ∨ k = 20 ∨ k = 21 ∨ k = 22 ∨ k = 23 ∨ k = 24 ∨ k = 25 ∨ k = 26 ∨ k = 27 := by omega
  rcases this with rfl | rfl | rfl | rfl | rfl | rfl | rfl | rfl | rfl | rfl | rfl | rfl | rfl | rfl | rfl | rfl
  · exact ⟨4079, by decide, by decide, by decide, tab_of (D := 63) (E := 45) (by decide) (by decide) (by decide) (by decide) (by decide) tab12⟩
  · exact ⟨8147, by decide, by decide, by decide, tab_of (D := 90) (E := 63) (by decide) (by decide) (by decide) (by decide) (by decide) tab13⟩
  · exact ⟨16223, by decide, by decide, by decide, tab_of (D := 127) (E := 90) (by decide) (by decide) (by decide) (by decide) (by decide) tab14⟩
  · exact ⟨32603, by decide, by decide, by decide, tab_of (D := 180) (E := 127) (by decide) (by decide) (by decide) (by decide) (by decide) tab15⟩
  · exact ⟨65267, by decide, by decide, by decide, tab_of (D := 255) (E := 180) (by decide) (by decide) (by decide) (by decide) (by decide) tab16⟩
  · exact ⟨130787, by decide, by decide, by decide, tab_of (D := 361) (E := 255) (by decide) (by decide) (by decide) (by decide) (by decide) tab17⟩
  · exact ⟨262127, by decide, by decide, by decide, tab_of (D := 511) (E := 362) (by decide) (by decide) (by decide) (by decide) (by decide) tab18⟩
  · exact ⟨524243, by decide, by decide, by decide, tab_of (D := 724) (E := 511) (by decide) (by decide) (by decide) (by decide) (by decide) tab19⟩
  · exact ⟨1048343, by decide, by decide, by decide, tab_of (D := 1023) (E := 723) (by decide) (by decide) (by decide) (by decide) (by decide) tab20⟩
  · exact ⟨2097143, by decide, by decide, by decide, tab_of (D := 1448) (E := 1023) (by decide) (by decide) (by decide) (by decide) (by decide) tab21⟩
  · exact ⟨4194287, by decide, by decide, by decide, tab_of (D := 2047) (E := 1448) (by decide) (by decide) (by decide) (by decide) (by decide) tab22⟩
  · exact ⟨8388287, by decide, by decide, by decide, tab_of (D := 2896) (E := 2047) (by decide) (by decide) (by decide) (by decide) (by decide) tab23⟩
  · exact ⟨16776899, by decide, by decide, by decide, tab_of (D := 4095) (E := 2896) (by decide) (by decide) (by decide) (by decide) (by decide) tab24⟩
  · exact ⟨33553799, by decide, by decide, by decide, tab_of (D := 5792) (E := 4095) (by decide) (by decide) (by decide) (by decide) (by decide) tab25⟩
  · exact ⟨67108187, by decide, by decide, by decide, tab_of (D := 8191) (E := 5792) (by decide) (by decide) (by decide) (by decide) (by decide) tab26⟩
  · exact ⟨134217323, by decide, by decide, by decide, tab_of (D := 11585) (E := 8191) (by decide) (by decide) (by decide) (by decide) (by decide) tab27⟩
end Go.Proofs.Ytgccbfkofkohpaa
namespace Go.Proofs.Ytgccbfkofkohpaa
set_option linter.unusedVariables false
set_option maxRecDepth 20000
set_option linter.unusedSimpArgs false
open Go.ChangeShapes Go.WideShapes Go.ChangeAt Go.RowKit
def RmR (k p : Int) (V : Value) : Prop := ((12 ≤ k ∧ k ≤ 31) ∧ V = .tuple #[.agg (groupA k p.toNat (p / 2).toNat 4), .bool true]) ∨ (¬ (12 ≤ k ∧ k ≤ 31) ∧ V = .tuple #[.agg (groupA 0 0 0 0), .bool false])
theorem pow_even {k : Int} (h : 12 ≤ k ∧ k ≤ 31) : (2 : Int) ^ k.toNat % 2 = 0 := by
  obtain ⟨K, hK⟩ : ∃ K, k.toNat = K + 1 := ⟨k.toNat - 1, by omega⟩
  rw [hK, Int.pow_succ]
  omega
set_option maxRecDepth 100000 in
set_option maxHeartbeats 8000000 in
theorem rgmake_any (k p : Int) (h0 : -9223372036854775808 ≤ k) (h1 : k < 9223372036854775808) (hp : 12 ≤ k ∧ k ≤ 31 → p % 2 = 1 ∧ 3 ≤ p ∧ p < 2 ^ k.toNat ∧ safeB p = true ∧ ∀ x, p < x → x < 2 ^ k.toNat → safeB x = false) (w : World) :
    Calls Try.prog 16 #[.int .i64 k] w fun e w' => ∃ V, e = .returned V ∧ RmR k p V ∧ Below w.heap.size w w' := by
  skip
  go_enter Try.func16, Try.ntmps16
  go_upto_region 1 with fail
  obtain ⟨W, hW⟩ : ∃ W, W = w.alloc (.cells #[Value.int .i64 0, .int .u32 0, .int .u32 0, .int .u32 0, .int .u32 0, .int .u32 0, .int .u32 0, .int .u32 0, .int .u32 0, .int .u32 0, .int .u32 0, .int .u32 0, .int .u32 0, .int .u32 0, .int .u32 0, .int .u32 0, .int .u32 0, .int .u32 0, .int .u32 0, .int .u32 0, .int .u32 0, .int .u32 0, .int .u32 0, .int .u32 0, .int .u32 0] 28) := ⟨_, rfl⟩
  have q_g : Blk W (w.heap.size) 28 #[Value.int .i64 0, .int .u32 0, .int .u32 0, .int .u32 0, .int .u32 0, .int .u32 0, .int .u32 0, .int .u32 0, .int .u32 0, .int .u32 0, .int .u32 0, .int .u32 0, .int .u32 0, .int .u32 0, .int .u32 0, .int .u32 0, .int .u32 0, .int .u32 0, .int .u32 0, .int .u32 0, .int .u32 0, .int .u32 0, .int .u32 0, .int .u32 0, .int .u32 0] := by
    have := (Blk.new w 28 (groupA 0 0 0 0))
    rw [groupA_zero] at this
    rw [hW]; exact this
  have gb : Below w.heap.size w W := by rw [hW]; exact ((Below.refl _ _).alloc (by simp <;> omega) _)
  rw [← hW]
  clear hW
  have log := hid (show w.heap.size ≤ w.heap.size by omega)
  by_cases hr : 12 ≤ k ∧ k ≤ 31
  · have hr0 := hid hr
    obtain ⟨hpo, hp3, hpB, hps, hpn⟩ := hp hr
    obtain ⟨B, hB⟩ : ∃ B : Int, 2 ^ k.toNat = B := ⟨_, rfl⟩
    obtain ⟨b0, b1⟩ : 0 ≤ B ∧ B ≤ 2147483648 := by rw [← hB]; exact pow_k hr
    have hBe : B % 2 = 0 := by rw [← hB]; exact pow_even hr
    rw [hB] at hpB hpn
    have HN := hid hpn
    have HS := hid hps
    clear hps hpn hp
    obtain ⟨hk0, hk1⟩ := hr
    go_wp2_with fail
    go_loopw [4] (fun x wr => ∃ X : Int, p ≤ X ∧ X < B ∧ X % 2 = 1 ∧ x = .int .i64 X ∧ W = wr) (fun x _ => (intOf x).toNat)
    case atStart => exact ⟨B - 1, by omega, by omega, by omega, rfl, rfl⟩
    case round =>
      obtain ⟨X, x0, x1, x2, rfl, rfl⟩ := hrel
      clear hB
      obtain ⟨H, hH⟩ : ∃ H, X / 2 = H := ⟨_, rfl⟩
      have ht : (X - 1).tdiv 2 = H := by rw [Int.tdiv_eq_ediv_of_nonneg (by omega)]; omega
      obtain ⟨u0, u1⟩ : 0 ≤ H ∧ H < 2147483648 := by omega
      have k1 := fun w => rprime_any X (by omega) (by omega) w
      have k2 := fun w => rprime_any H (by omega) (by omega) w
      obtain ⟨c, hc⟩ : ∃ b, primeB X = b := ⟨_, rfl⟩
      obtain ⟨e, he⟩ : ∃ b, primeB H = b := ⟨_, rfl⟩
      have hse : safeB X = (e && c) := by unfold safeB; rw [hH, hc, he]
      rw [hc] at k1
      rw [he] at k2
      have HX := hid hH
      clear hc he hH
      by_cases hXp : X = p
      · subst hXp
        have hce : c = true ∧ e = true := by
          have := HS.out
          rw [hse] at this
          simpa [and_comm] using this
        obtain ⟨rfl, rfl⟩ := hce
        clear hse HN HS
        go_wp2_with fail
        refine (k1 _).mono ?_
        rintro e w1 ⟨rfl, rfl⟩
        go_wp2_with fail
        refine (k2 _).mono ?_
        rintro e w1 ⟨rfl, rfl⟩
        go_wp2_with fail
        refine (from_ref X (by omega) (by omega) _).mono ?_
        rintro e w4 ⟨rfl, bw4⟩
        have g4 := q_g.step bw4
        have c4 := step_trans gb bw4
        go_wp2_with fail
        refine (from_ref H (by omega) (by omega) _).mono ?_
        rintro e w5 ⟨rfl, bw5⟩
        have g5 := g4.step bw5
        have c5 := step_trans c4 bw5
        go_wp2_with fail
        refine (from_ref 4 (by omega) (by omega) _).mono ?_
        rintro e w6 ⟨rfl, bw6⟩
        have g6 := g5.step bw6
        have c6 := step_trans c5 bw6
        clear q_g gb bw4 g4 c4 bw5 g5 c5 bw6
        go_wp2_with (first | (refine wpList_op rfl _ (run_buildG (k := k) (p := X.toNat) (q := H.toNat) (g := 4) _ _ _ _ rfl rfl rfl rfl rfl) ?_) | (refine wpList_store_blk rfl _ (.tmp 2) _ rfl _ rfl (groupA k X.toNat H.toNat 4) rfl (groupA_cells _ _ _ _) _ g6 rfl size_group ?_; intro wz gz mz))
        exact bodyPost_ret (results_blk_tmp rfl rfl mz Try.underlying28 rfl size_group) rfl ⟨.tuple #[.agg (groupA k X.toNat H.toNat 4), .bool true], rfl, .inl ⟨hr0.out, by rw [HX.out]⟩, below_of_grown c6 gz c6.size (by omega)⟩
      · have hce : c = false ∨ (c = true ∧ e = false) := by
          have := HN.out X (by omega) x1
          rw [hse] at this
          cases c <;> cases e <;> simp_all
        clear hse
        rcases hce with rfl | ⟨rfl, rfl⟩
        · go_wp2_with fail
          refine (k1 _).mono ?_
          rintro e w1 ⟨rfl, rfl⟩
          go_wp2_with fail
          go_roundw
          case rel => exact ⟨X - 2, by omega, by omega, by omega, by go_num, (by first | rfl | trivial)⟩
          case measure => simp [intOf] <;> omega
        · go_wp2_with fail
          refine (k1 _).mono ?_
          rintro e w1 ⟨rfl, rfl⟩
          go_wp2_with fail
          refine (k2 _).mono ?_
          rintro e w1 ⟨rfl, rfl⟩
          go_wp2_with fail
          go_roundw
          case rel => exact ⟨X - 2, by omega, by omega, by omega, by go_num, (by first | rfl | trivial)⟩
          case measure => simp [intOf] <;> omega
  · have hr0 := hid hr
    have hway : k < 12 ∨ (¬ k < 12 ∧ 31 < k) := by omega
    rcases hway with hk | ⟨hk, hk2⟩
    · go_wp2_with (refine wpList_store_blk rfl _ (.tmp 2) _ rfl _ rfl (#[Value.int .i64 0, .int .u32 0, .int .u32 0, .int .u32 0, .int .u32 0, .int .u32 0, .int .u32 0, .int .u32 0, .int .u32 0, .int .u32 0, .int .u32 0, .int .u32 0, .int .u32 0, .int .u32 0, .int .u32 0, .int .u32 0, .int .u32 0, .int .u32 0, .int .u32 0, .int .u32 0, .int .u32 0, .int .u32 0, .int .u32 0, .int .u32 0, .int .u32 0]) rfl zG_cells _ q_g rfl size_group ?_; intro wz gz mz)
      rw [← groupA_zero] at mz
      exact bodyPost_ret (results_blk_tmp rfl rfl mz Try.underlying28 rfl size_group) rfl ⟨.tuple #[.agg (groupA 0 0 0 0), .bool false], rfl, .inr ⟨hr0.out, rfl⟩, below_of_grown gb gz gb.size (by omega)⟩
    · have hkd : decide (k < 12) = false := decide_eq_false hk
      go_wp2_with (refine wpList_store_blk rfl _ (.tmp 2) _ rfl _ rfl (#[Value.int .i64 0, .int .u32 0, .int .u32 0, .int .u32 0, .int .u32 0, .int .u32 0, .int .u32 0, .int .u32 0, .int .u32 0, .int .u32 0, .int .u32 0, .int .u32 0, .int .u32 0, .int .u32 0, .int .u32 0, .int .u32 0, .int .u32 0, .int .u32 0, .int .u32 0, .int .u32 0, .int .u32 0, .int .u32 0, .int .u32 0, .int .u32 0, .int .u32 0]) rfl zG_cells _ q_g rfl size_group ?_; intro wz gz mz)
      rw [← groupA_zero] at mz
      exact bodyPost_ret (results_blk_tmp rfl rfl mz Try.underlying28 rfl size_group) rfl ⟨.tuple #[.agg (groupA 0 0 0 0), .bool false], rfl, .inr ⟨hr0.out, rfl⟩, below_of_grown gb gz gb.size (by omega)⟩
end Go.Proofs.Ytgccbfkofkohpaa
namespace Go.Proofs.Ytgccbfkofkohpaa
set_option linter.unusedVariables false
set_option maxRecDepth 20000
set_option linter.unusedSimpArgs false
open Go.ChangeShapes Go.WideShapes Go.ChangeAt Go.RowKit
set_option maxHeartbeats 400000 in
theorem gwithin_any (a n : Int) (hn : 0 < n) (hn' : n < 9223372036854775808) (ha : -9223372036854775808 ≤ a) (ha' : a < 9223372036854775808) (w : World) :
    Calls Try.prog 14 #[.int .i64 a, .int .i64 n] w fun e w' => e = .returned (.int .i64 (a % n)) ∧ w = w' := by
  obtain ⟨h1, h2, h3, h4⟩ := tmod_case a n hn
  have hz : (n == 0) = false := by simp; omega
  by_cases h : a.tmod n < 0
  · have H := hid (h2 h)
    clear h1 h2
    go_enter Try.func14, Try.ntmps14
    go_wp2
    go_ret
    exact ⟨congrArg (fun x => Ending.returned (.int .i64 x)) H.out, rfl⟩
  · have H := hid (h1 (by omega))
    clear h1 h2
    go_enter Try.func14, Try.ntmps14
    go_wp2
    go_ret
    exact ⟨congrArg (fun x => Ending.returned (.int .i64 x)) H.out, rfl⟩
end Go.Proofs.Ytgccbfkofkohpaa
