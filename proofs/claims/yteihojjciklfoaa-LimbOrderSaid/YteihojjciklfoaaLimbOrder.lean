/- sentinellaw1.LimbOrder: the walk. -/
import Derived.Test.YteihojjciklfoaaKnown
import Derived.Test.YteihojjciklfoaaRead
import Derived.Test.YteihojjciklfoaaApp
import Derived.Test.YteihojjciklfoaaNews
import Derived.Test.YteihojjciklfoaaEqn
import Derived.Test.YteihojjciklfoaaRel
import Derived.Test.YteihojjciklfoaaRest
import Derived.Test.YteihojjciklfoaaRefB
namespace Go.Proofs.Yteihojjciklfoaa
set_option linter.unusedVariables false
set_option linter.unusedSimpArgs false
open Go.ChangeShapes Go.WideShapes Go.ChangeAt Go.RowKit
attribute [local go_sem] eqn_same
theorem top_at {a : Nat} (h0 : 0 < a) (ha : a < 4294967296 ^ 8) : ∃ k : Nat, topI a 8 = (k : Int) + 1 ∧ a / 2 ^ k = 1 := by
  obtain ⟨k, hk⟩ : ∃ k, a / 2 ^ k = 1 := by
    refine ⟨Nat.log2 a, ?_⟩
    have h1 := Nat.log2_self_le (n := a) (by omega)
    have h2 := Nat.lt_log2_self (n := a)
    have h3 : 1 ≤ a / 2 ^ Nat.log2 a := (Nat.le_div_iff_mul_le (Nat.pow_pos (by decide))).2 (by omega)
    have h4 : a / 2 ^ Nat.log2 a < 2 := (Nat.div_lt_iff_lt_mul (Nat.pow_pos (by decide))).2 (by rw [Nat.pow_succ] at h2; omega)
    omega
  exact ⟨k, top_one ha hk, hk⟩
theorem bytes_isB (a : Nat) (w : World) : Calls Try.prog 33 #[numV a] w fun e w' => ∃ v, e = .returned v ∧ Below w.heap.size w w' ∧ IsB w' (bytesN a) v :=
  (bytes_any a w).mono fun e w' ⟨g, he, hg, ht, hb⟩ => ⟨_, he, hb, some ⟨g, 0, none⟩, 32, by rw [bytesN_length], by rw [bytesN_length]; exact Nat.le_refl _, by unfold maxLen; omega, (fun h => by cases h), ht.rd⟩
theorem bytesLess_read : ∀ l r : List UInt8, l.length = r.length → Op.bytesLess l r = decide (readN l < readN r)
  | [], [], _ => by simp [Op.bytesLess]
  | b :: l, c :: r, h => by
    have hl : l.length = r.length := by simpa using h
    have ih := bytesLess_read l r hl
    have h1 := readN_lt l
    have h2 := readN_lt r
    rw [Op.bytesLess, ih, readN_cons, readN_cons, hl]
    rw [hl] at h1
    have hp : 0 < 256 ^ r.length := Nat.pow_pos (by decide)
    generalize 256 ^ r.length = M at *
    rw [Bool.eq_iff_iff]
    simp only [Bool.or_eq_true, Bool.and_eq_true, decide_eq_true_eq, beq_iff_eq, UInt8.lt_iff_toNat_lt, ← UInt8.toNat_inj]
    rcases Nat.lt_trichotomy b.toNat c.toNat with hlt | heq | hgt
    · have : (b.toNat + 1) * M ≤ c.toNat * M := Nat.mul_le_mul_right _ hlt
      rw [Nat.add_mul] at this
      omega
    · rw [heq]; omega
    · have : (c.toNat + 1) * M ≤ b.toNat * M := Nat.mul_le_mul_right _ hgt
      rw [Nat.add_mul] at this
      omega
theorem toList_bytes (l : List UInt8) : (ByteArray.mk l.toArray).toList = l := by
  rw [ByteArray.toList_eq]
theorem ord_pack {x y : Nat} (hx : x < 4294967296 ^ 8) (hy : y < 4294967296 ^ 8) : ∃ (sx sy : ByteArray) (C : Int), sx = ⟨(bytesN x).toArray⟩ ∧ sy = ⟨(bytesN y).toArray⟩ ∧ RunsTo 25 #[numV x, numV y] (.int .i64 C) ∧ RunsTo 25 #[numV y, numV x] (.int .i64 (-C)) ∧
    ((C = -1 ∧ Op.bytesLess sx.toList sy.toList = true ∧ (sx.toList == sy.toList) = false) ∨ (C = 0 ∧ Op.bytesLess sx.toList sy.toList = false ∧ (sx.toList == sy.toList) = true) ∨ (C = 1 ∧ Op.bytesLess sx.toList sy.toList = false ∧ (sx.toList == sy.toList) = false)) := by
  refine ⟨_, _, cmpI x y, rfl, rfl, cmp_any x y hx hy, fun w => ?_, ?_⟩
  · have h := cmp_any y x hy hx w
    rw [show cmpI y x = -cmpI x y by unfold cmpI; split <;> split <;> first | rfl | (split <;> first | rfl | omega) | omega] at h
    exact h
  · rw [toList_bytes, toList_bytes, bytesLess_read _ _ (by rw [bytesN_length, bytesN_length]), read_bytes x hx, read_bytes y hy]
    unfold cmpI
    rcases Nat.lt_trichotomy x y with h | h | h
    · refine .inl ⟨by rw [if_pos h], by simpa using h, beq_eq_false_iff_ne.2 fun e => ?_⟩
      have := congrArg readN e
      rw [read_bytes x hx, read_bytes y hy] at this; omega
    · subst h
      exact .inr (.inl ⟨by simp, by simp, by simp⟩)
    · refine .inr (.inr ⟨by rw [if_neg (by omega), if_pos h], by simp; omega, beq_eq_false_iff_ne.2 fun e => ?_⟩)
      have := congrArg readN e
      rw [read_bytes x hx, read_bytes y hy] at this; omega
theorem top_dig {x : Nat} (hx : x < 4294967296 ^ 8) : (x = 0 ∧ RunsTo 27 #[numV x] (.int .i64 0)) ∨
    (0 < x ∧ ∃ q r : Nat, q < 8 ∧ r < 32 ∧ (∃ K : Int, RunsTo 27 #[numV x] (.int .i64 K) ∧ 1 ≤ K ∧ K ≤ 256 ∧ (K - 1) / 32 = (q : Int) ∧ (K - 1) % 32 = (r : Int)) ∧ digI x q / (2 : Int) ^ r = 1) := by
  rcases Nat.eq_zero_or_pos x with rfl | h0
  · exact .inl ⟨rfl, fun w => by have := bits_any 0 w; rwa [topI_none 8] at this⟩
  · obtain ⟨k, h1, h2⟩ := top_at h0 hx
    have hk : k < 256 := by
      refine Nat.lt_of_not_le fun hge => ?_
      have e : (2 : Nat) ^ 256 = 4294967296 ^ 8 := by decide +kernel
      have : 2 ^ 256 ≤ 2 ^ k := Nat.pow_le_pow_right (by decide) hge
      rw [Nat.div_eq_of_lt (by omega)] at h2
      cases h2
    refine .inr ⟨h0, k / 32, k % 32, by omega, by omega, ⟨(k : Int) + 1, fun w => ?_, by omega, by omega, by omega, by omega⟩, ?_⟩
    · have := bits_any x w
      rw [h1] at this
      exact this
    · have e1 : 2 ^ k = 2 ^ (32 * (k / 32)) * 2 ^ (k % 32) := by rw [← Nat.pow_add]; congr 1; omega
      have e2 : (4294967296 : Nat) ^ (k / 32) = 2 ^ (32 * (k / 32)) := by rw [Nat.pow_mul]
      rw [e1, ← Nat.div_div_eq_div_mul] at h2
      have hz : x / 2 ^ (32 * (k / 32)) < 4294967296 := by
        generalize x / 2 ^ (32 * (k / 32)) = z at *
        have h3 : z < 2 ^ (k % 32) * 2 := by
          have := Nat.div_add_mod z (2 ^ (k % 32))
          have h4 := Nat.mod_lt z (Nat.pow_pos (n := k % 32) (show 0 < 2 by decide))
          rw [h2] at this; omega
        have h5 : 2 ^ (k % 32) ≤ 2 ^ 31 := Nat.pow_le_pow_right (by decide) (by omega)
        omega
      unfold digI dig
      rw [e2, Nat.mod_eq_of_lt hz]
      have : (((x / 2 ^ (32 * (k / 32)) / 2 ^ (k % 32) : Nat)) : Int) = 1 := by rw [h2]; rfl
      rw [← this]; simp
set_option maxRecDepth 100000 in
set_option maxHeartbeats 20000000 in
theorem LimbOrder_walk (a0 : Int) (hk0 : -9223372036854775808 ≤ a0) (hl0 : a0 < 9223372036854775808)
    (A1 : Option Addr) (n1 cap1 : Nat) (x1 : Nat → Int)
    (a2 : Int) (hk2 : -9223372036854775808 ≤ a2) (hl2 : a2 < 9223372036854775808)
    (A3 : Option Addr) (n3 cap3 : Nat) (x3 : Nat → Int) (w : World) (hr1 : RdI w A1 n1 x1) (hr3 : RdI w A3 n3 x3) :
    Calls Try.prog 8 #[.int .i64 a0, .slice A1 n1 cap1, .int .i64 a2, .slice A3 n3 cap3] w fun e w' => e = .returned (.bool true) ∧ Below w.heap.size w w' := by
  have ng := noGuard
  go_enter Try.func8, Try.ntmps8
  go_wp2_with (fail)
  refine (known_any _).mono ?_
  rintro e w1 ⟨rfl, bw1⟩
  have r1_1 := hr1.step bw1
  have r3_1 := hr3.step bw1
  have c_1 := bw1
  clear hr1 hr3 bw1
  go_wp2_with (fail)
  refine (make_any _ (by omega) (by omega) _ _ _ _ _ r1_1).mono ?_
  rintro e w2 ⟨x, rfl, hx, bw2⟩
  have r1_2 := r1_1.step bw2
  have r3_2 := r3_1.step bw2
  have c_2 := step_trans c_1 bw2
  clear r1_1 r3_1 c_1 bw2
  go_wp2_with (fail)
  refine (make_any _ (by omega) (by omega) _ _ _ _ _ r3_2).mono ?_
  rintro e w3 ⟨y, rfl, hy, bw3⟩
  have r3_3 := r3_2.step bw3
  have c_3 := step_trans c_2 bw3
  clear r3_2 c_2 bw3
  go_wp2_with (first | (refine wpList_store_num rfl _ (.tmp 9) _ rfl _ rfl _ rfl _ rfl (news2 w3 _).1 size26 ?_; intro w4 gw4 mw4) | (refine wpList_store_num rfl _ (.tmp 10) _ rfl _ rfl _ rfl _ rfl ((gw4.block _ (by simp) (by simp)).trans (news2 w3 _).2) size26 ?_; intro w5 gw5 mw5; have b_1 := step_new2 gw4 gw5; have qw4 := (mw4.grown gw5 (by simp <;> omega)); have c_4 := step_trans c_3 b_1; clear c_3 b_1 gw4 gw5 mw4) | (refine wpList_load_num rfl _ (.tmp 9) rfl _ rfl _ _ _ qw4 Try.underlying26 rfl size26 ?_))
  obtain ⟨sx, sy, C, hsx, hsy, kc, kc2, kw⟩ := ord_pack hx hy
  have KW := hid kw
  have TD := hid (top_dig hx)
  clear kw
  refine wp_region_st [St.eq (numV x), St.bytes (bytesN x), St.eq (.string sx), St.eq (numV y), St.bytes (bytesN y), St.eq (.string sy), St.eq (.string sx), St.eq (.string sy)] 85 rfl (by kernel_rfl) (by kernel_rfl) ⟨?_, ?_, ?_, ?_, ?_, ?_, ?_, ?_, trivial⟩ ?_
  · intro a w hb hd
    have e9 : a.eval (.tmp 9) = _ := hd 9 (by decide)
    exact hop_run (F := (St.eq (numV x)).F) (wanted_none rfl) _ (run_ldN _ rfl e9 (qw4.step hb)) rfl
  · intro a w hb hd
    have e23 : a.eval (.tmp 23) = numV x := hd 23 (by decide)
    exact hop_call (F := (St.bytes (bytesN x)).F) (wanted_none rfl) rfl #[numV x] (by simp [e23]) (enters_of Try.func33 (by kernel_rfl) rfl) (bytes_isB x w)
  · intro a w hb hd
    have e24 : IsB w (bytesN x) (a.eval (.tmp 24)) := hd 24 (by decide)
    exact hop_run (F := (St.eq _).F) (wanted_none rfl) _ (run_str _ rfl e24) (by rw [hsx]; rfl)
  · intro a w hb hd
    have e10 : a.eval (.tmp 10) = _ := hd 10 (by decide)
    exact hop_run (F := (St.eq (numV y)).F) (wanted_none rfl) _ (run_ldN _ rfl e10 (mw5.step hb)) rfl
  · intro a w hb hd
    have e26 : a.eval (.tmp 26) = numV y := hd 26 (by decide)
    exact hop_call (F := (St.bytes (bytesN y)).F) (wanted_none rfl) rfl #[numV y] (by simp [e26]) (enters_of Try.func33 (by kernel_rfl) rfl) (bytes_isB y w)
  · intro a w hb hd
    have e27 : IsB w (bytesN y) (a.eval (.tmp 27)) := hd 27 (by decide)
    exact hop_run (F := (St.eq _).F) (wanted_none rfl) _ (run_str _ rfl e27) (by rw [hsy]; rfl)
  · intro a w hb hd
    have e25 : a.eval (.tmp 25) = _ := hd 25 (by decide)
    exact hop_run (F := (St.eq _).F) (wanted_none rfl) _ (run_mv _ (.inr rfl) e25) rfl
  · intro a w hb hd
    have e28 : a.eval (.tmp 28) = _ := hd 28 (by decide)
    exact hop_run (F := (St.eq _).F) (wanted_none rfl) _ (run_mv _ (.inr rfl) e28) rfl
  intro p wz bz hp
  obtain ⟨-, -, -, -, -, -, q6, q7, -⟩ := hp
  have e6 : p 6 = .string sx := q6 (by decide)
  have e7 : p 7 = .string sy := q7 (by decide)
  simp only [layAll, Act.put, List.setIfInBounds_toArray, List.set_cons_zero, List.set_cons_succ, Nat.zero_add, Nat.reduceAdd, e6, e7]
  clear q6 q7 e6 e7 hsx hsy
  generalize p 0 = p0
  generalize p 1 = p1
  generalize p 2 = p2
  generalize p 3 = p3
  generalize p 4 = p4
  generalize p 5 = p5
  have x_1 := qw4.step bz
  have y_1 := mw5.step bz
  have c_5 := step_trans c_4 bz
  clear qw4 mw5 c_4 bz
  go_wp2_with (first | (refine wpList_load_num rfl _ (.tmp 9) rfl _ rfl _ _ _ x_1 Try.underlying26 rfl size26 ?_) | (refine wpList_load_num rfl _ (.tmp 10) rfl _ rfl _ _ _ y_1 Try.underlying26 rfl size26 ?_))
  refine (kc _).mono ?_
  rintro e w6 ⟨rfl, bw6⟩
  have x_2 := x_1.step bw6
  have y_2 := y_1.step bw6
  have c_6 := step_trans c_5 bw6
  clear x_1 y_1 c_5 bw6
  clear kc
  have e0 := fun w => eqn_zero w
  rcases TD.out with ⟨rfl, kb⟩ | ⟨hx0, q, r, hq, hr, ⟨K, kb, hK0, hK1, hK2, hK3⟩, hdr⟩
  · clear TD hx
    go_wp2_with (first | (refine wpList_load_num rfl _ (.tmp 9) rfl _ rfl _ _ _ x_2 Try.underlying26 rfl size26 ?_))
    refine (kb _).mono ?_
    rintro e w7 ⟨rfl, bw7⟩
    have x_3 := x_2.step bw7
    have y_3 := y_2.step bw7
    have c_7 := step_trans c_6 bw7
    clear x_2 y_2 c_6 bw7
    clear kb
    rcases KW.out with ⟨rfl, k1, k2⟩ | ⟨rfl, k1, k2⟩ | ⟨rfl, k1, k2⟩
    · clear KW
      go_wp2_with (first | (refine wpList_load_num rfl _ (.tmp 9) rfl _ rfl _ _ _ x_3 Try.underlying26 rfl size26 ?_) | (refine wpList_load_num rfl _ (.tmp 10) rfl _ rfl _ _ _ y_3 Try.underlying26 rfl size26 ?_))
      refine (kc2 _).mono ?_
      rintro e w8 ⟨rfl, bw8⟩
      have x_4 := x_3.step bw8
      have y_4 := y_3.step bw8
      have c_8 := step_trans c_7 bw8
      clear x_3 y_3 c_7 bw8
      clear kc2
      go_wp2
      go_ret
      exact ⟨rfl, c_8⟩
    · clear KW
      go_wp2_with (first | (refine wpList_load_num rfl _ (.tmp 9) rfl _ rfl _ _ _ x_3 Try.underlying26 rfl size26 ?_) | (refine wpList_load_num rfl _ (.tmp 10) rfl _ rfl _ _ _ y_3 Try.underlying26 rfl size26 ?_))
      refine (kc2 _).mono ?_
      rintro e w8 ⟨rfl, bw8⟩
      have x_4 := x_3.step bw8
      have y_4 := y_3.step bw8
      have c_8 := step_trans c_7 bw8
      clear x_3 y_3 c_7 bw8
      clear kc2
      go_wp2
      go_ret
      exact ⟨rfl, c_8⟩
    · clear KW
      go_wp2_with (first | (refine wpList_load_num rfl _ (.tmp 9) rfl _ rfl _ _ _ x_3 Try.underlying26 rfl size26 ?_) | (refine wpList_load_num rfl _ (.tmp 10) rfl _ rfl _ _ _ y_3 Try.underlying26 rfl size26 ?_))
      refine (kc2 _).mono ?_
      rintro e w8 ⟨rfl, bw8⟩
      have x_4 := x_3.step bw8
      have y_4 := y_3.step bw8
      have c_8 := step_trans c_7 bw8
      clear x_3 y_3 c_7 bw8
      clear kc2
      go_wp2
      go_ret
      exact ⟨rfl, c_8⟩
  · clear TD
    have e1 := eqn_not0 hx hx0
    clear hx hx0 e0
    go_wp2_with (first | (refine wpList_load_num rfl _ (.tmp 9) rfl _ rfl _ _ _ x_2 Try.underlying26 rfl size26 ?_))
    refine (kb _).mono ?_
    rintro e w7 ⟨rfl, bw7⟩
    have x_3 := x_2.step bw7
    have y_3 := y_2.step bw7
    have c_7 := step_trans c_6 bw7
    clear x_2 y_2 c_6 bw7
    clear kb
    have hcq := x_3.cell hq
    have hd0 := digI_ge x q
    have hd1 := digI_lt x q
    have hq8 : (q : Int) < 8 := by omega
    have hz : (K == 0) = false := by rw [beq_eq_false_iff_ne]; omega
    have d1 : decide (K < 0) = false := by rw [decide_eq_false_iff_not]; omega
    have d2 : decide (256 < K) = false := by rw [decide_eq_false_iff_not]; omega
    have d3 : decide (0 < K) = true := by rw [decide_eq_true_iff]; omega
    rcases KW.out with ⟨rfl, k1, k2⟩ | ⟨rfl, k1, k2⟩ | ⟨rfl, k1, k2⟩
    · clear KW
      go_wp2_with (first | (refine wpList_load_num rfl _ (.tmp 9) rfl _ rfl _ _ _ x_3 Try.underlying26 rfl size26 ?_) | (refine wpList_load_num rfl _ (.tmp 10) rfl _ rfl _ _ _ y_3 Try.underlying26 rfl size26 ?_))
      refine (kc2 _).mono ?_
      rintro e w8 ⟨rfl, bw8⟩
      have x_4 := x_3.step bw8
      have y_4 := y_3.step bw8
      have c_8 := step_trans c_7 bw8
      clear x_3 y_3 c_7 bw8
      clear kc2
      go_wp2
      go_ret
      exact ⟨rfl, c_8⟩
    · clear KW
      go_wp2_with (first | (refine wpList_load_num rfl _ (.tmp 9) rfl _ rfl _ _ _ x_3 Try.underlying26 rfl size26 ?_) | (refine wpList_load_num rfl _ (.tmp 10) rfl _ rfl _ _ _ y_3 Try.underlying26 rfl size26 ?_))
      refine (kc2 _).mono ?_
      rintro e w8 ⟨rfl, bw8⟩
      have x_4 := x_3.step bw8
      have y_4 := y_3.step bw8
      have c_8 := step_trans c_7 bw8
      clear x_3 y_3 c_7 bw8
      clear kc2
      go_wp2
      go_ret
      exact ⟨rfl, c_8⟩
    · clear KW
      go_wp2_with (first | (refine wpList_load_num rfl _ (.tmp 9) rfl _ rfl _ _ _ x_3 Try.underlying26 rfl size26 ?_) | (refine wpList_load_num rfl _ (.tmp 10) rfl _ rfl _ _ _ y_3 Try.underlying26 rfl size26 ?_))
      refine (kc2 _).mono ?_
      rintro e w8 ⟨rfl, bw8⟩
      have x_4 := x_3.step bw8
      have y_4 := y_3.step bw8
      have c_8 := step_trans c_7 bw8
      clear x_3 y_3 c_7 bw8
      clear kc2
      go_wp2
      go_ret
      exact ⟨rfl, c_8⟩
end Go.Proofs.Yteihojjciklfoaa
