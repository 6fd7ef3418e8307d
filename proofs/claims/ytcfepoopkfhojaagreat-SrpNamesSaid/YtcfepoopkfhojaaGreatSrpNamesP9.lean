/- What SrpNames stands on, part 9. -/
import Derived.OrdersIn
import Derived.Lib.Strings
import Derived.Deep.AppendSrc
import Derived.Test.YtcfepoopkfhojaaGreatSrpNamesP1
import Derived.Test.YtcfepoopkfhojaaGreatSrpNamesP2
import Derived.Test.YtcfepoopkfhojaaGreatSrpNamesP3
import Derived.Test.YtcfepoopkfhojaaGreatSrpNamesP4
import Derived.Test.YtcfepoopkfhojaaGreatSrpNamesP5
import Derived.Test.YtcfepoopkfhojaaGreatSrpNamesP6
import Derived.Test.YtcfepoopkfhojaaGreatSrpNamesP7
import Derived.Test.YtcfepoopkfhojaaGreatSrpNamesP8
set_option maxRecDepth 100000
set_option maxHeartbeats 8000000
set_option linter.unusedVariables false
set_option linter.unusedSimpArgs false
namespace Go.Proofs.YtcfepoopkfhojaaGreat
open Go.ChangeShapes Go.WideShapes Go.ChangeAt Go.RowKit
theorem groupA_p {k : Int} {p q g : Nat} (j : Nat) (v : Value) (h : (numA p)[j]? = some v) : (zg k p q g)[1 + j]? = some v := by
 have hj := (Array.getElem?_eq_some_iff.1 h).1
 rw [zic] at hj
 rw [← h]
 have : j = 0 ∨ j = 1 ∨ j = 2 ∨ j = 3 ∨ j = 4 ∨ j = 5 ∨ j = 6 ∨ j = 7 := by omega
 rcases this with rfl | rfl | rfl | rfl | rfl | rfl | rfl | rfl <;> rfl
theorem groupA_q {k : Int} {p q g : Nat} (j : Nat) (v : Value) (h : (numA q)[j]? = some v) : (zg k p q g)[9 + j]? = some v := by
 have hj := (Array.getElem?_eq_some_iff.1 h).1
 rw [zic] at hj
 rw [← h]
 have : j = 0 ∨ j = 1 ∨ j = 2 ∨ j = 3 ∨ j = 4 ∨ j = 5 ∨ j = 6 ∨ j = 7 := by omega
 rcases this with rfl | rfl | rfl | rfl | rfl | rfl | rfl | rfl <;> rfl
theorem groupA_g {k : Int} {p q g : Nat} (j : Nat) (v : Value) (h : (numA g)[j]? = some v) : (zg k p q g)[17 + j]? = some v := by
 have hj := (Array.getElem?_eq_some_iff.1 h).1
 rw [zic] at hj
 rw [← h]
 have : j = 0 ∨ j = 1 ∨ j = 2 ∨ j = 3 ∨ j = 4 ∨ j = 5 ∨ j = 6 ∨ j = 7 := by omega
 rcases this with rfl | rfl | rfl | rfl | rfl | rfl | rfl | rfl <;> rfl
theorem zkc (k : Int) (P Q g : Nat) (ho : P % 2 = 1) (h1 : 1 < P) (hP : P < 4294967296 ^ 8) (a e : Nat) (ha : a < 4294967296 ^ 8) (he : e < 4294967296 ^ 8) (w : World) :
  Calls Tryz.prog 33 #[.agg (zg k P Q g), numV a, numV e] w fun e_ w' => e_ = .returned (numV (a ^ e % P)) ∧ Below w.heap.size w w' := by
 obtain ⟨C, hC, kM⟩ := mr_make ho h1 hP
 have kP := fun w => hC.pow ha he w
 obtain ⟨V, hV⟩ : ∃ V, a ^ e % P = V := ⟨_, rfl⟩
 rw [hV] at kP ⊢
 clear hV ho h1 hP ha he
 go_enter Tryz.func33, Tryz.ntmps33
 go_upto_region 1 with fail
 obtain ⟨W, hW⟩ : ∃ W, W = ((((((w.alloc (.cells (zg k P Q g) 29))).alloc (.cells (numA a) 27))).alloc (.cells (numA e) 27))).alloc (.cells #[Value.int .u32 0, .int .u32 0, .int .u32 0, .int .u32 0, .int .u32 0, .int .u32 0, .int .u32 0, .int .u32 0] 27) := ⟨_, rfl⟩
 have q_gr : Blk W (w.heap.size) 29 (zg k P Q g) := by
  have := ((((Blk.new w 29 (zg k P Q g)).alloc (.cells (numA a) 27)).alloc (.cells (numA e) 27)).alloc (.cells #[Value.int .u32 0, .int .u32 0, .int .u32 0, .int .u32 0, .int .u32 0, .int .u32 0, .int .u32 0, .int .u32 0] 27))
  rw [hW]; exact this
 have q_a : Num W (w.heap.size + 1) 27 (a) := by
  have := (((Num.new (w.alloc (.cells (zg k P Q g) 29)) 27 (a)).alloc (.cells (numA e) 27)).alloc (.cells #[Value.int .u32 0, .int .u32 0, .int .u32 0, .int .u32 0, .int .u32 0, .int .u32 0, .int .u32 0, .int .u32 0] 27))
  rw [World.size_alloc] at this
  rw [hW]; exact this
 have q_e : Num W (w.heap.size + 1 + 1) 27 (e) := by
  have := ((Num.new (((w.alloc (.cells (zg k P Q g) 29))).alloc (.cells (numA a) 27)) 27 (e)).alloc (.cells #[Value.int .u32 0, .int .u32 0, .int .u32 0, .int .u32 0, .int .u32 0, .int .u32 0, .int .u32 0, .int .u32 0] 27))
  rw [World.size_alloc, World.size_alloc] at this
  rw [hW]; exact this
 have q_r : Num W (w.heap.size + 1 + 1 + 1) 27 0 := by
  have := (Num.new (((((w.alloc (.cells (zg k P Q g) 29))).alloc (.cells (numA a) 27))).alloc (.cells (numA e) 27)) 27 0)
  rw [World.size_alloc, World.size_alloc, World.size_alloc, ← zeroA] at this
  rw [hW]; exact this
 have gb : Below w.heap.size w W := by rw [hW]; exact (((((Below.refl _ _).alloc (by simp <;> omega) _).alloc (by simp <;> omega) _).alloc (by simp <;> omega) _).alloc (by simp <;> omega) _)
 rw [← hW]
 clear hW
 have lor := hid (show w.heap.size ≤ w.heap.size + 1 + 1 + 1 by omega)
 have ngr_r := hid (show w.heap.size ≠ w.heap.size + 1 + 1 + 1 by omega)
 have na_r := hid (show w.heap.size + 1 ≠ w.heap.size + 1 + 1 + 1 by omega)
 have ne_r := hid (show w.heap.size + 1 + 1 ≠ w.heap.size + 1 + 1 + 1 by omega)
 go_wp2_with (first | (refine z3a rfl _ (.tmp 10) rfl _ _ rfl _ _ (numA P) _ q_gr groupA_p Tryz.underlying27 rfl ze ?_))
 refine (kM _).mono ?_
 rintro e w1 ⟨rfl, bw1⟩
 have gr_1 := q_gr.step bw1
 have a_1 := q_a.step bw1
 have e_1 := q_e.step bw1
 have r_1 := q_r.step bw1
 have c_1 := zr gb bw1
 clear q_gr q_a q_e q_r gb bw1
 go_upto_region 2 with (first | (refine zd rfl _ (.tmp 4) rfl _ rfl _ _ _ a_1 Tryz.underlying27 rfl ze ?_) | (refine zd rfl _ (.tmp 5) rfl _ rfl _ _ _ e_1 Tryz.underlying27 rfl ze ?_) | (refine zq rfl _ (.tmp 7) _ rfl _ rfl (C) rfl hC.cells _ (heap_alloc_new _ _) (by rw [hC.size]; rfl) hC.info ?_; intro w2 gw2 mw2))
 try simp only [Act.put, List.setIfInBounds_toArray, List.set_cons_zero, List.set_cons_succ]
 have ngr_c := hid (show _ ≠ w1.heap.size from Nat.ne_of_lt gr_1.lt)
 have na_c := hid (show _ ≠ w1.heap.size from Nat.ne_of_lt a_1.lt)
 have ne_c := hid (show _ ≠ w1.heap.size from Nat.ne_of_lt e_1.lt)
 have nr_c := hid (show _ ≠ w1.heap.size from Nat.ne_of_lt r_1.lt)
 have loc := hid (show _ ≤ w1.heap.size from c_1.size)
 have b_1 := zmb gw2
 have gr_2 := gr_1.step b_1
 have a_2 := a_1.step b_1
 have e_2 := e_1.step b_1
 have r_2 := r_1.step b_1
 have c_2 := zr c_1 b_1
 clear gr_1 a_1 e_1 r_1 c_1 b_1
 clear gw2
 go_wp2_with (first | (refine zd rfl _ (.tmp 4) rfl _ rfl _ _ _ a_2 Tryz.underlying27 rfl ze ?_) | (refine zd rfl _ (.tmp 5) rfl _ rfl _ _ _ e_2 Tryz.underlying27 rfl ze ?_) | (refine zy rfl _ (.tmp 7) rfl _ rfl _ _ _ mw2 Tryz.underlying99 rfl hC.info ?_))
 refine (kP _).mono ?_
 rintro e w3 ⟨rfl, bw3⟩
 have gr_3 := gr_2.step bw3
 have a_3 := a_2.step bw3
 have e_3 := e_2.step bw3
 have r_3 := r_2.step bw3
 have c_3 := mw2.step bw3
 have c_4 := zr c_2 bw3
 clear gr_2 a_2 e_2 r_2 mw2 c_2 bw3
 have bef := c_4
 go_wp2_with (first | (refine zd rfl _ (.tmp 6) rfl _ rfl _ _ _ r_3 Tryz.underlying27 rfl ze ?_) | (refine zj rfl _ (.tmp 6) _ rfl _ rfl _ rfl _ rfl r_3 ze ?_; intro wz gz mz))
 exact bodyPost_ret (z0a rfl rfl mz Tryz.underlying27 rfl ze) rfl ⟨rfl, zf bef gz bef.size (by omega)⟩
theorem gtimes_any (k : Int) (P Q g : Nat) (ho : P % 2 = 1) (h1 : 1 < P) (hP : P < 4294967296 ^ 8) (a b : Nat) (ha : a < 4294967296 ^ 8) (hb : b < 4294967296 ^ 8) (w : World) :
  Calls Tryz.prog 40 #[.agg (zg k P Q g), numV a, numV b] w fun e w' => e = .returned (numV (a * b % P)) ∧ Below w.heap.size w w' := by
 have kM := fun w => mul_any a b ha hb w
 have hq : a * b % 4294967296 ^ 8 + a * b / 4294967296 ^ 8 * 4294967296 ^ 8 = a * b := by rw [Nat.mul_comm (a * b / _)]; exact Nat.mod_add_div _ _
 have kR := fun w => rest_pos (a * b % 4294967296 ^ 8) (a * b / 4294967296 ^ 8) P (Nat.mod_lt _ (by decide)) (Nat.div_lt_of_lt_mul (Nat.mul_lt_mul'' ha hb)) hP (by omega) w
 rw [hq] at kR
 generalize a * b % 4294967296 ^ 8 = L at *
 generalize a * b / 4294967296 ^ 8 = H at *
 obtain ⟨V, hV⟩ : ∃ V, a * b % P = V := ⟨_, rfl⟩
 rw [hV] at kR ⊢
 clear hV hq ho h1 hP ha hb
 go_enter Tryz.func40, Tryz.ntmps40
 go_upto_region 1 with fail
 obtain ⟨W, hW⟩ : ∃ W, W = ((((((w.alloc (.cells (zg k P Q g) 29))).alloc (.cells (numA a) 27))).alloc (.cells (numA b) 27))).alloc (.cells #[Value.int .u32 0, .int .u32 0, .int .u32 0, .int .u32 0, .int .u32 0, .int .u32 0, .int .u32 0, .int .u32 0] 27) := ⟨_, rfl⟩
 have q_gr : Blk W (w.heap.size) 29 (zg k P Q g) := by
  have := ((((Blk.new w 29 (zg k P Q g)).alloc (.cells (numA a) 27)).alloc (.cells (numA b) 27)).alloc (.cells #[Value.int .u32 0, .int .u32 0, .int .u32 0, .int .u32 0, .int .u32 0, .int .u32 0, .int .u32 0, .int .u32 0] 27))
  rw [hW]; exact this
 have q_a : Num W (w.heap.size + 1) 27 (a) := by
  have := (((Num.new (w.alloc (.cells (zg k P Q g) 29)) 27 (a)).alloc (.cells (numA b) 27)).alloc (.cells #[Value.int .u32 0, .int .u32 0, .int .u32 0, .int .u32 0, .int .u32 0, .int .u32 0, .int .u32 0, .int .u32 0] 27))
  rw [World.size_alloc] at this
  rw [hW]; exact this
 have q_b : Num W (w.heap.size + 1 + 1) 27 (b) := by
  have := ((Num.new (((w.alloc (.cells (zg k P Q g) 29))).alloc (.cells (numA a) 27)) 27 (b)).alloc (.cells #[Value.int .u32 0, .int .u32 0, .int .u32 0, .int .u32 0, .int .u32 0, .int .u32 0, .int .u32 0, .int .u32 0] 27))
  rw [World.size_alloc, World.size_alloc] at this
  rw [hW]; exact this
 have q_r : Num W (w.heap.size + 1 + 1 + 1) 27 0 := by
  have := (Num.new (((((w.alloc (.cells (zg k P Q g) 29))).alloc (.cells (numA a) 27))).alloc (.cells (numA b) 27)) 27 0)
  rw [World.size_alloc, World.size_alloc, World.size_alloc, ← zeroA] at this
  rw [hW]; exact this
 have gb : Below w.heap.size w W := by rw [hW]; exact (((((Below.refl _ _).alloc (by simp <;> omega) _).alloc (by simp <;> omega) _).alloc (by simp <;> omega) _).alloc (by simp <;> omega) _)
 rw [← hW]
 clear hW
 have lor := hid (show w.heap.size ≤ w.heap.size + 1 + 1 + 1 by omega)
 have ngr_r := hid (show w.heap.size ≠ w.heap.size + 1 + 1 + 1 by omega)
 have na_r := hid (show w.heap.size + 1 ≠ w.heap.size + 1 + 1 + 1 by omega)
 have nb_r := hid (show w.heap.size + 1 + 1 ≠ w.heap.size + 1 + 1 + 1 by omega)
 go_wp2_with (first | (refine zd rfl _ (.tmp 4) rfl _ rfl _ _ _ q_a Tryz.underlying27 rfl ze ?_) | (refine zd rfl _ (.tmp 5) rfl _ rfl _ _ _ q_b Tryz.underlying27 rfl ze ?_))
 refine (kM _).mono ?_
 rintro e w1 ⟨rfl, bw1⟩
 have gr_1 := q_gr.step bw1
 have a_1 := q_a.step bw1
 have b_1 := q_b.step bw1
 have r_1 := q_r.step bw1
 have c_1 := zr gb bw1
 clear q_gr q_a q_b q_r gb bw1
 go_wp2_with (first | (refine zj rfl _ (.tmp 7) _ rfl _ rfl _ rfl _ rfl (news2 w1 _).1 ze ?_; intro w2 gw2 mw2) | (refine zj rfl _ (.tmp 8) _ rfl _ rfl _ rfl _ rfl ((gw2.block _ (by simp) (by simp)).trans (news2 w1 _).2) ze ?_; intro w3 gw3 mw3; have b_2 := step_new2 gw2 gw3; have qw2 := (mw2.grown gw3 (by simp <;> omega)); have nr_lo := hid (show _ ≠ w1.heap.size from Nat.ne_of_lt (Nat.lt_of_lt_of_le r_1.lt (by omega))); have nr_hi := hid (show _ ≠ w1.heap.size + 1 from Nat.ne_of_lt (Nat.lt_of_lt_of_le r_1.lt (by omega))); have gr_2 := gr_1.step b_2; have a_2 := a_1.step b_2; have b_3 := b_1.step b_2; have r_2 := r_1.step b_2; have c_2 := zr c_1 b_2; clear gr_1 a_1 b_1 r_1 c_1 b_2 gw2 gw3 mw2) | (refine zd rfl _ (.tmp 7) rfl _ rfl _ _ _ qw2 Tryz.underlying27 rfl ze ?_) | (refine zd rfl _ (.tmp 8) rfl _ rfl _ _ _ mw3 Tryz.underlying27 rfl ze ?_) | (refine z3a rfl _ (.tmp 20) rfl _ _ rfl _ _ (numA P) _ gr_2 groupA_p Tryz.underlying27 rfl ze ?_))
 refine (kR _).mono ?_
 rintro e w4 ⟨rfl, bw4⟩
 have gr_3 := gr_2.step bw4
 have a_3 := a_2.step bw4
 have b_4 := b_3.step bw4
 have r_3 := r_2.step bw4
 have lo_1 := qw2.step bw4
 have hi_1 := mw3.step bw4
 have c_3 := zr c_2 bw4
 clear gr_2 a_2 b_3 r_2 qw2 mw3 c_2 bw4
 go_upto_region 3 with (first | (refine zj rfl _ (.tmp 9) _ rfl _ rfl _ rfl _ rfl (heap_alloc_new _ _) ze ?_; intro w5 gw5 mw5; have b_5 := zmb gw5; have nr_x := hid (show _ ≠ w4.heap.size from Nat.ne_of_lt (Nat.lt_of_lt_of_le r_3.lt (by omega))); have gr_4 := gr_3.step b_5; have a_4 := a_3.step b_5; have b_6 := b_4.step b_5; have r_4 := r_3.step b_5; have lo_2 := lo_1.step b_5; have hi_2 := hi_1.step b_5; have c_4 := zr c_3 b_5; clear gr_3 a_3 b_4 r_3 lo_1 hi_1 c_3 b_5 gw5) | (refine zd rfl _ (.tmp 9) rfl _ rfl _ _ _ mw5 Tryz.underlying27 rfl ze ?_))
 try simp only [Act.put, List.setIfInBounds_toArray, List.set_cons_zero, List.set_cons_succ]
 have bef := c_4
 go_wp2_with (first | (refine zd rfl _ (.tmp 6) rfl _ rfl _ _ _ r_4 Tryz.underlying27 rfl ze ?_) | (refine zd rfl _ (.tmp 9) rfl _ rfl _ _ _ mw5 Tryz.underlying27 rfl ze ?_) | (refine zj rfl _ (.tmp 6) _ rfl _ rfl _ rfl _ rfl r_4 ze ?_; intro wz gz mz))
 exact bodyPost_ret (z0a rfl rfl mz Tryz.underlying27 rfl ze) rfl ⟨rfl, zf bef gz bef.size (by omega)⟩
end Go.Proofs.YtcfepoopkfhojaaGreat
namespace Go.Proofs.YtcfepoopkfhojaaGreat
open Go.ChangeShapes Go.WideShapes Go.ChangeAt Go.RowKit
def hasB (a P Q : Nat) : Bool := decide (1 < a ∧ a < P ∧ a ^ Q % P = 1)
theorem has_pack {k : Int} {a P Q g : Nat} (ho : P % 2 = 1) (h1 : 1 < P) (hP : P < 4294967296 ^ 8) (ha : a < 4294967296 ^ 8) (hQ : Q < 4294967296 ^ 8) : ∃ (V : Nat) (d e : Int), RunsTo 47 #[numV a, numV 1] (.int .i64 d) ∧ RunsTo 47 #[numV a, numV P] (.int .i64 e) ∧ RunsTo 33 #[.agg (zg k P Q g), numV a, numV Q] (numV V) ∧
  ((¬ 0 < d ∧ hasB a P Q = false) ∨ (0 < d ∧ ¬ e < 0 ∧ hasB a P Q = false) ∨ (0 < d ∧ e < 0 ∧ V = 1 ∧ hasB a P Q = true) ∨ (0 < d ∧ e < 0 ∧ (∀ w, (Op.equalIn 10000 27 (.agg (numA V)) (.agg (numA 1))).run Tryz.prog w = .ok false w) ∧ hasB a P Q = false)) := by
 refine ⟨a ^ Q % P, cmpI a 1, cmpI a P, cmp_any a 1 ha (by decide), cmp_any a P ha hP, zkc k P Q g ho h1 hP a Q ha hQ, ?_⟩
 unfold hasB cmpI
 by_cases c1 : 1 < a
 ·by_cases c2 : a < P
  ·by_cases c3 : a ^ Q % P = 1
   ·exact .inr (.inr (.inl ⟨by rw [if_neg (by omega), if_pos c1]; decide, by rw [if_pos c2]; decide, c3, decide_eq_true ⟨c1, c2, c3⟩⟩))
   ·exact .inr (.inr (.inr ⟨by rw [if_neg (by omega), if_pos c1]; decide, by rw [if_pos c2]; decide, eqn_diff (Nat.lt_trans (Nat.mod_lt _ (by omega)) hP) (by decide) c3, decide_eq_false (fun h => c3 h.2.2)⟩))
  ·exact .inr (.inl ⟨by rw [if_neg (by omega), if_pos c1]; decide, by rw [if_neg c2]; split <;> decide, decide_eq_false (fun h => c2 h.2.1)⟩)
 ·exact .inl ⟨by (rw [if_neg c1]; split <;> decide), decide_eq_false (fun h => c1 h.1)⟩
theorem ghas_any (k : Int) (P Q g : Nat) (ho : P % 2 = 1) (h1 : 1 < P) (hP : P < 4294967296 ^ 8) (a : Nat) (ha : a < 4294967296 ^ 8) (hQ : Q < 4294967296 ^ 8) (w : World) :
  Calls Tryz.prog 37 #[.agg (zg k P Q g), numV a] w fun e w' => e = .returned (.bool (hasB a P Q)) ∧ Below w.heap.size w w' := by
 obtain ⟨V, dd, ee, k1, k2, k3, hw⟩ := has_pack (k := k) (g := g) ho h1 hP ha hQ
 have HW := hid hw
 obtain ⟨RB, HB⟩ : ∃ b, Hid (hasB a P Q = b) := ⟨_, hid rfl⟩
 rw [HB.out]
 clear hw ho h1 hP ha hQ
 have ng := noGuard
 go_enter Tryz.func37, Tryz.ntmps37
 go_upto_region 1 with fail
 obtain ⟨W, hW⟩ : ∃ W, W = ((w.alloc (.cells (zg k P Q g) 29))).alloc (.cells (numA a) 27) := ⟨_, rfl⟩
 have q_gr : Blk W (w.heap.size) 29 (zg k P Q g) := by
  have := ((Blk.new w 29 (zg k P Q g)).alloc (.cells (numA a) 27))
  rw [hW]; exact this
 have q_a : Num W (w.heap.size + 1) 27 (a) := by
  have := (Num.new (w.alloc (.cells (zg k P Q g) 29)) 27 (a))
  rw [World.size_alloc] at this
  rw [hW]; exact this
 have gb : Below w.heap.size w W := by rw [hW]; exact (((Below.refl _ _).alloc (by simp <;> omega) _).alloc (by simp <;> omega) _)
 rw [← hW]
 clear hW
 go_wp2_with (fail)
 refine (from_any 1 (by omega) (by omega) _).mono ?_
 rintro e w1 ⟨rfl, bw1⟩
 have gr_1 := q_gr.step bw1
 have a_1 := q_a.step bw1
 have c_1 := zr gb bw1
 clear q_gr q_a gb bw1
 go_upto_region 2 with (first | (refine zj rfl _ (.tmp 5) _ rfl _ rfl _ rfl _ rfl (heap_alloc_new _ _) ze ?_; intro w2 gw2 mw2; have b_1 := zmb gw2; have gr_2 := gr_1.step b_1; have a_2 := a_1.step b_1; have c_2 := zr c_1 b_1; clear gr_1 a_1 c_1 b_1 gw2) | (refine zd rfl _ (.tmp 3) rfl _ rfl _ _ _ a_2 Tryz.underlying27 rfl ze ?_) | (refine zd rfl _ (.tmp 5) rfl _ rfl _ _ _ mw2 Tryz.underlying27 rfl ze ?_))
 try simp only [Act.put, List.setIfInBounds_toArray, List.set_cons_zero, List.set_cons_succ]
 rcases HW.out with ⟨c1, c4⟩ | ⟨c1, c2, c4⟩ | ⟨c1, c2, rfl, c4⟩ | ⟨c1, c2, c3, c4⟩
 ·obtain rfl : RB = false := by rw [← HB.out]; exact c4
  have f1 : decide (0 < dd) = false := decide_eq_false (by omega)
  refine zoc (by kernel_rfl) (by kernel_rfl) ?_
  (refine zt rfl _ (.tmp 3) rfl _ rfl _ _ _ a_2 Tryz.underlying27 rfl ze ?_; simp only [Act.put, List.setIfInBounds_toArray, List.set_cons_zero, List.set_cons_succ])
  (refine zt rfl _ (.tmp 5) rfl _ rfl _ _ _ mw2 Tryz.underlying27 rfl ze ?_; simp only [Act.put, List.setIfInBounds_toArray, List.set_cons_zero, List.set_cons_succ])
  go_big_quiet_step (exact zzb (k1 _))
  go_big_quiet_step (fail)
  go_big_quiet_step (fail)
  first | (refine zt rfl _ (.tmp 3) rfl _ rfl _ _ _ a_2 Tryz.underlying27 rfl ze ?_; simp only [Act.put, List.setIfInBounds_toArray, List.set_cons_zero, List.set_cons_succ]) | go_big_quiet_step (fail)
  go_big_quiet_step (fail)
  first | (refine zab rfl _ (.tmp 13) rfl _ _ rfl _ _ (numA P) _ gr_2 groupA_p Tryz.underlying27 rfl ze ?_; simp only [Act.put, List.setIfInBounds_toArray, List.set_cons_zero, List.set_cons_succ]) | go_big_quiet_step (fail)
  go_big_quiet_step (fail)
  go_big_quiet_step (fail)
  go_big_quiet_step (fail)
  go_big_quiet_step (fail)
  first | (refine zjb rfl _ (.tmp 2) rfl _ rfl _ _ _ gr_2 Tryz.underlying29 rfl zcc ?_; simp only [Act.put, List.setIfInBounds_toArray, List.set_cons_zero, List.set_cons_succ]) | go_big_quiet_step (fail)
  first | (refine zt rfl _ (.tmp 3) rfl _ rfl _ _ _ a_2 Tryz.underlying27 rfl ze ?_; simp only [Act.put, List.setIfInBounds_toArray, List.set_cons_zero, List.set_cons_succ]) | go_big_quiet_step (fail)
  go_big_quiet_step (fail)
  first | (refine zab rfl _ (.tmp 21) rfl _ _ rfl _ _ (numA Q) _ gr_2 groupA_q Tryz.underlying27 rfl ze ?_; simp only [Act.put, List.setIfInBounds_toArray, List.set_cons_zero, List.set_cons_succ]) | go_big_quiet_step (fail)
  go_big_quiet_step (fail)
  first | (refine zt rfl _ (.tmp 5) rfl _ rfl _ _ _ mw2 Tryz.underlying27 rfl ze ?_; simp only [Act.put, List.setIfInBounds_toArray, List.set_cons_zero, List.set_cons_succ]) | go_big_quiet_step (fail)
  go_big_quiet_step (fail)
  go_big_quiet_step (fail)
  go_big_quiet_step (fail)
  refine wpQuiet_nil ?_
  intro X_1
  have gr_3 := gr_2.step X_1.h
  have a_3 := a_2.step X_1.h
  have o_1 := mw2.step X_1.h
  have c_3 := zr c_2 X_1.h
  clear gr_2 a_2 mw2 c_2
  go_wp2
  go_ret
  exact ⟨rfl, c_3⟩
 ·obtain rfl : RB = false := by rw [← HB.out]; exact c4
  have f2 : decide (ee < 0) = false := decide_eq_false (by omega)
  refine zoc (by kernel_rfl) (by kernel_rfl) ?_
  (refine zt rfl _ (.tmp 3) rfl _ rfl _ _ _ a_2 Tryz.underlying27 rfl ze ?_; simp only [Act.put, List.setIfInBounds_toArray, List.set_cons_zero, List.set_cons_succ])
  (refine zt rfl _ (.tmp 5) rfl _ rfl _ _ _ mw2 Tryz.underlying27 rfl ze ?_; simp only [Act.put, List.setIfInBounds_toArray, List.set_cons_zero, List.set_cons_succ])
  go_big_quiet_step (exact zzb (k1 _))
  go_big_quiet_step (fail)
  go_big_quiet_step (fail)
  first | (refine zt rfl _ (.tmp 3) rfl _ rfl _ _ _ a_2 Tryz.underlying27 rfl ze ?_; simp only [Act.put, List.setIfInBounds_toArray, List.set_cons_zero, List.set_cons_succ]) | go_big_quiet_step (fail)
  go_big_quiet_step (fail)
  first | (refine zab rfl _ (.tmp 13) rfl _ _ rfl _ _ (numA P) _ gr_2 groupA_p Tryz.underlying27 rfl ze ?_; simp only [Act.put, List.setIfInBounds_toArray, List.set_cons_zero, List.set_cons_succ]) | go_big_quiet_step (fail)
  go_big_quiet_step (exact zzb (k2 _))
  go_big_quiet_step (fail)
  go_big_quiet_step (fail)
  go_big_quiet_step (fail)
  first | (refine zjb rfl _ (.tmp 2) rfl _ rfl _ _ _ gr_2 Tryz.underlying29 rfl zcc ?_; simp only [Act.put, List.setIfInBounds_toArray, List.set_cons_zero, List.set_cons_succ]) | go_big_quiet_step (fail)
  first | (refine zt rfl _ (.tmp 3) rfl _ rfl _ _ _ a_2 Tryz.underlying27 rfl ze ?_; simp only [Act.put, List.setIfInBounds_toArray, List.set_cons_zero, List.set_cons_succ]) | go_big_quiet_step (fail)
  go_big_quiet_step (fail)
  first | (refine zab rfl _ (.tmp 21) rfl _ _ rfl _ _ (numA Q) _ gr_2 groupA_q Tryz.underlying27 rfl ze ?_; simp only [Act.put, List.setIfInBounds_toArray, List.set_cons_zero, List.set_cons_succ]) | go_big_quiet_step (fail)
  go_big_quiet_step (fail)
  first | (refine zt rfl _ (.tmp 5) rfl _ rfl _ _ _ mw2 Tryz.underlying27 rfl ze ?_; simp only [Act.put, List.setIfInBounds_toArray, List.set_cons_zero, List.set_cons_succ]) | go_big_quiet_step (fail)
  go_big_quiet_step (fail)
  go_big_quiet_step (fail)
  go_big_quiet_step (fail)
  refine wpQuiet_nil ?_
  intro X_1
  have gr_3 := gr_2.step X_1.h
  have a_3 := a_2.step X_1.h
  have o_1 := mw2.step X_1.h
  have c_3 := zr c_2 X_1.h
  clear gr_2 a_2 mw2 c_2
  go_wp2
  go_ret
  exact ⟨rfl, c_3⟩
 ·obtain rfl : RB = true := by rw [← HB.out]; exact c4
  have f3 := fun w => eqn_same 1 w
  refine zoc (by kernel_rfl) (by kernel_rfl) ?_
  (refine zt rfl _ (.tmp 3) rfl _ rfl _ _ _ a_2 Tryz.underlying27 rfl ze ?_; simp only [Act.put, List.setIfInBounds_toArray, List.set_cons_zero, List.set_cons_succ])
  (refine zt rfl _ (.tmp 5) rfl _ rfl _ _ _ mw2 Tryz.underlying27 rfl ze ?_; simp only [Act.put, List.setIfInBounds_toArray, List.set_cons_zero, List.set_cons_succ])
  go_big_quiet_step (exact zzb (k1 _))
  go_big_quiet_step (fail)
  go_big_quiet_step (fail)
  first | (refine zt rfl _ (.tmp 3) rfl _ rfl _ _ _ a_2 Tryz.underlying27 rfl ze ?_; simp only [Act.put, List.setIfInBounds_toArray, List.set_cons_zero, List.set_cons_succ]) | go_big_quiet_step (fail)
  go_big_quiet_step (fail)
  first | (refine zab rfl _ (.tmp 13) rfl _ _ rfl _ _ (numA P) _ gr_2 groupA_p Tryz.underlying27 rfl ze ?_; simp only [Act.put, List.setIfInBounds_toArray, List.set_cons_zero, List.set_cons_succ]) | go_big_quiet_step (fail)
  go_big_quiet_step (exact zzb (k2 _))
  go_big_quiet_step (fail)
  go_big_quiet_step (fail)
  go_big_quiet_step (fail)
  first | (refine zjb rfl _ (.tmp 2) rfl _ rfl _ _ _ gr_2 Tryz.underlying29 rfl zcc ?_; simp only [Act.put, List.setIfInBounds_toArray, List.set_cons_zero, List.set_cons_succ]) | go_big_quiet_step (fail)
  first | (refine zt rfl _ (.tmp 3) rfl _ rfl _ _ _ a_2 Tryz.underlying27 rfl ze ?_; simp only [Act.put, List.setIfInBounds_toArray, List.set_cons_zero, List.set_cons_succ]) | go_big_quiet_step (fail)
  go_big_quiet_step (fail)
  first | (refine zab rfl _ (.tmp 21) rfl _ _ rfl _ _ (numA Q) _ gr_2 groupA_q Tryz.underlying27 rfl ze ?_; simp only [Act.put, List.setIfInBounds_toArray, List.set_cons_zero, List.set_cons_succ]) | go_big_quiet_step (fail)
  go_big_quiet_step (exact zzb (k3 _))
  first | (refine zt rfl _ (.tmp 5) rfl _ rfl _ _ _ mw2 Tryz.underlying27 rfl ze ?_; simp only [Act.put, List.setIfInBounds_toArray, List.set_cons_zero, List.set_cons_succ]) | go_big_quiet_step (fail)
  go_big_quiet_step (fail)
  go_big_quiet_step (fail)
  go_big_quiet_step (fail)
  refine wpQuiet_nil ?_
  intro X_1
  have gr_3 := gr_2.step X_1.h
  have a_3 := a_2.step X_1.h
  have o_1 := mw2.step X_1.h
  have c_3 := zr c_2 X_1.h
  clear gr_2 a_2 mw2 c_2
  go_wp2
  go_ret
  exact ⟨rfl, c_3⟩
 ·obtain rfl : RB = false := by rw [← HB.out]; exact c4
  refine zoc (by kernel_rfl) (by kernel_rfl) ?_
  (refine zt rfl _ (.tmp 3) rfl _ rfl _ _ _ a_2 Tryz.underlying27 rfl ze ?_; simp only [Act.put, List.setIfInBounds_toArray, List.set_cons_zero, List.set_cons_succ])
  (refine zt rfl _ (.tmp 5) rfl _ rfl _ _ _ mw2 Tryz.underlying27 rfl ze ?_; simp only [Act.put, List.setIfInBounds_toArray, List.set_cons_zero, List.set_cons_succ])
  go_big_quiet_step (exact zzb (k1 _))
  go_big_quiet_step (fail)
  go_big_quiet_step (fail)
  first | (refine zt rfl _ (.tmp 3) rfl _ rfl _ _ _ a_2 Tryz.underlying27 rfl ze ?_; simp only [Act.put, List.setIfInBounds_toArray, List.set_cons_zero, List.set_cons_succ]) | go_big_quiet_step (fail)
  go_big_quiet_step (fail)
  first | (refine zab rfl _ (.tmp 13) rfl _ _ rfl _ _ (numA P) _ gr_2 groupA_p Tryz.underlying27 rfl ze ?_; simp only [Act.put, List.setIfInBounds_toArray, List.set_cons_zero, List.set_cons_succ]) | go_big_quiet_step (fail)
  go_big_quiet_step (exact zzb (k2 _))
  go_big_quiet_step (fail)
  go_big_quiet_step (fail)
  go_big_quiet_step (fail)
  first | (refine zjb rfl _ (.tmp 2) rfl _ rfl _ _ _ gr_2 Tryz.underlying29 rfl zcc ?_; simp only [Act.put, List.setIfInBounds_toArray, List.set_cons_zero, List.set_cons_succ]) | go_big_quiet_step (fail)
  first | (refine zt rfl _ (.tmp 3) rfl _ rfl _ _ _ a_2 Tryz.underlying27 rfl ze ?_; simp only [Act.put, List.setIfInBounds_toArray, List.set_cons_zero, List.set_cons_succ]) | go_big_quiet_step (fail)
  go_big_quiet_step (fail)
  first | (refine zab rfl _ (.tmp 21) rfl _ _ rfl _ _ (numA Q) _ gr_2 groupA_q Tryz.underlying27 rfl ze ?_; simp only [Act.put, List.setIfInBounds_toArray, List.set_cons_zero, List.set_cons_succ]) | go_big_quiet_step (fail)
  go_big_quiet_step (exact zzb (k3 _))
  first | (refine zt rfl _ (.tmp 5) rfl _ rfl _ _ _ mw2 Tryz.underlying27 rfl ze ?_; simp only [Act.put, List.setIfInBounds_toArray, List.set_cons_zero, List.set_cons_succ]) | go_big_quiet_step (fail)
  go_big_quiet_step (fail)
  go_big_quiet_step (fail)
  go_big_quiet_step (fail)
  refine wpQuiet_nil ?_
  intro X_1
  have gr_3 := gr_2.step X_1.h
  have a_3 := a_2.step X_1.h
  have o_1 := mw2.step X_1.h
  have c_3 := zr c_2 X_1.h
  clear gr_2 a_2 mw2 c_2
  go_wp2
  go_ret
  exact ⟨rfl, c_3⟩
end Go.Proofs.YtcfepoopkfhojaaGreat
namespace Go.Proofs.YtcfepoopkfhojaaGreat
open Go.ChangeShapes Go.WideShapes Go.ChangeAt Go.RowKit
theorem zmc {a : Act} {w : World} {o : Oper} (x : Operand) (ho : o.op = .slice 35 x none none none) {g : Nat} (hx : a.eval x = .pointer (some ⟨g, 0, none⟩)) : (execOp a.eval o).run Tryz.prog w = .ok (.value (.slice (some ⟨g, 0, none⟩) 16 16)) w := by
 have h := slice_sum w g
 unfold execOp
 simp only [ho, hx]
 simp only [Option.map_none, Sem.run_bind]
 rw [h]; rfl
theorem arr16_get (y : Nat → Int) {j : Nat} (h : j < 16) : (zk y)[j]? = some (.int .u8 (y j)) := by
 have : j = 0 ∨ j = 1 ∨ j = 2 ∨ j = 3 ∨ j = 4 ∨ j = 5 ∨ j = 6 ∨ j = 7 ∨ j = 8 ∨ j = 9 ∨ j = 10 ∨ j = 11 ∨ j = 12 ∨ j = 13 ∨ j = 14 ∨ j = 15 := by omega
 rcases this with rfl | rfl | rfl | rfl | rfl | rfl | rfl | rfl | rfl | rfl | rfl | rfl | rfl | rfl | rfl | rfl <;> rfl
theorem arr16_rd {w : World} {g : Nat} {y : Nat → Int} {t : TypeId} (h : w.heap[g]? = some (.cells (zk y) t (0, 0))) (hy : ∀ k, 0 ≤ y k ∧ y k < 256) : Rd w (some ⟨g, 0, none⟩) (sumY y) := fun _ => by
 refine ⟨_, rfl, z9b h, fun j b hj => ?_⟩
 have hj16 : j < 16 := by have := (List.getElem?_eq_some_iff.1 hj).1; rwa [zyb] at this
 rw [zua, Nat.zero_add]
 unfold sumY at hj
 rw [List.getElem?_map, List.getElem?_range hj16] at hj
 obtain rfl := Option.some.inj hj
 have hc : w.cell? ⟨g, j, none⟩ = some (.int .u8 (y j)) := by simp [World.cell?, h, arr16_get y hj16]
 rw [hc]
 unfold bv
 rw [sumY_val (hy j)]
theorem gnumber_any (y : Nat → Int) (hy : ∀ k, 0 ≤ y k ∧ y k < 256) (w : World) :
  Calls Tryz.prog 105 #[.agg (zk y)] w fun e w' => e = .returned (numV (zwa (sumY y))) ∧ Below w.heap.size w w' := by
 have hlen := zyb y
 have kR := fun (w : World) (g : Nat) (h : w.heap[g]? = some (.cells (zk y) 35 (0, 0))) => read_any (some ⟨g, 0, none⟩) (sumY y) 16 16 hlen (by decide) (by decide) (by unfold maxLen; decide) w (arr16_rd h hy)
 refine zra (args := [.agg (zk y)]) 11 Tryz.func105 rfl rfl rfl ?_
 intro fa F
 have M := Mx.start w
 refine zSk fun _ hK1 => ?_
 refine zR ?_
 refine zo (zc rfl) rfl F rfl M 0 (t := 35) (c := zk y) (by unfold execOp; simp only [(F.get (t := 0) rfl)]; kernel_rfl) ?_
 intro g2 a2 w2 F2 M2
 clear F M
 refine zo (zc rfl) rfl F2 rfl M2 1 (t := 27) (c := numA 0) (zba rfl) ?_
 intro g3 a3 w3 F3 M3
 clear F2 M2
 refine hK1 _ _ ?_
 refine zSk fun _ hK4 => ?_
 refine zR ?_
 refine zh (w' := w3) (zc rfl) rfl F3 rfl (.slice (some ⟨g2, 0, none⟩) 16 16) (zmc _ rfl (F3.get (t := 1) rfl)) fun _ F5 => ?_
 clear F3
 refine zea (zc rfl) rfl F5 rfl rfl (zE Tryz.func123 rfl) #[.slice (some ⟨g2, 0, none⟩) 16 16] (z2a (F5.get (t := 6) rfl)) (zha (kR w3 _ (M3.blk (k := 0) rfl))) ?_
 rintro _ w6 a6 ⟨rfl, b6⟩ F6
 have M6 := M3.step b6
 refine zh (w' := w6) (zc rfl) rfl F6 rfl (.tuple #[numV (zwa (sumY y)), .bool true]) (zia _ (.inl rfl) (F6.get (t := 7) rfl)) fun _ F7 => ?_
 clear F6
 refine zh (w' := w6) (zc rfl) rfl F7 rfl (numV (zwa (sumY y))) (y_ext _ _ rfl (F7.get (t := 5) rfl) rfl) fun _ F8 => ?_
 clear F7
 refine zh (w' := w6) (zc rfl) rfl F8 rfl (.bool true) (y_ext _ _ rfl (F8.get (t := 5) rfl) rfl) fun _ F9 => ?_
 clear F8
 refine zo (zc rfl) rfl F9 rfl M6 2 (t := 27) (c := numA 0) (zba rfl) ?_
 intro g10 a10 w10 F10 M10
 clear F9 M6
 refine zka (zc rfl) rfl F10 M10 (k := 2) rfl _ _ _ rfl (F10.get (t := 3) rfl) (F10.get (t := 8) rfl) (numA (zwa (sumY y))) _ rfl (zL rfl) (zfc _) (zx rfl) ze ?_
 intro w11 M11
 clear M10
 refine zh (w' := w11) (zc rfl) rfl F10 rfl (.bool true) (zia _ (.inr rfl) (F10.get (t := 9) rfl)) fun _ F12 => ?_
 clear F10
 refine hK4 _ _ ?_
 refine zSk fun _ hK13 => ?_
 refine zR ?_
 refine zh (w' := w11) (zc rfl) rfl F12 rfl (numV (zwa (sumY y))) (zga _ _ rfl (F12.get (t := 3) rfl) (M11.blk (k := 2) rfl) (numA (zwa (sumY y))) (zta rfl) Tryz.underlying27 rfl ze) fun _ F14 => ?_
 clear F12
 refine zka (zc rfl) rfl F14 M11 (k := 1) rfl _ _ _ rfl (F14.get (t := 2) rfl) (F14.get (t := 10) rfl) (numA (zwa (sumY y))) _ rfl (zL rfl) (zfc _) (zx rfl) ze ?_
 intro w15 M15
 clear M11
 refine hK13 _ _ ?_
 refine wp_ret ?_
 try simp only [Exit.then, Exit.inBlock, Exit.jump]
 exact bodyPost_ret (results_cell_row rfl _ _ _ _ _ (0, 0) _ (F14.get rfl) (M15.blk (k := 1) rfl) Tryz.underlying27 rfl ze) F14.defers ⟨rfl, M15.below⟩
def expN (Q : Nat) (l : List UInt8) : Nat := zwa (sumY (outF (macW [] [[101, 120, 112, 111, 110, 101, 110, 116], l]))) % (Q - 1) + 1
theorem gexp_any (k : Int) (P Q g : Nat) (h2 : 2 < Q) (hQ : Q < 4294967296 ^ 8) (l : List UInt8) (v : Value) (w : World) (hB : IsB w l v) :
  Calls Tryz.prog 71 #[.agg (zg k P Q g), v] w fun e w' => e = .returned (numV (expN Q l)) ∧ Below w.heap.size w w' := by
 obtain ⟨N, hN⟩ : ∃ N, zwa (sumY (outF (macW [] [[101, 120, 112, 111, 110, 101, 110, 116], l]))) = N := ⟨_, rfl⟩
 have hNl : N < 4294967296 ^ 8 := by
  rw [← hN]
  exact readN_lt_num (by rw [zyb]; decide)
 obtain ⟨S, hS⟩ : ∃ S, macW [] [[101, 120, 112, 111, 110, 101, 110, 116], l] = S := ⟨_, rfl⟩
 have kO := fun w => from_any 1 (by decide) (by decide) w
 have kS := fun w => sub_any Q 1 hQ (by decide) w
 rw [show subN Q 1 = Q - 1 by unfold subN; rw [if_pos (by omega)]] at kS
 obtain ⟨u, hu⟩ : ∃ u, lentI Q 1 = u := ⟨_, rfl⟩
 rw [hu] at kS
 have kN := fun w => gnumber_any (outF S) (zdc S) w
 rw [hS] at hN
 rw [hN] at kN
 have kR := fun w => rest_pos N 0 (Q - 1) hNl (by decide) (Nat.lt_of_le_of_lt (Nat.sub_le _ _) hQ) (by omega) w
 rw [Nat.zero_mul, Nat.add_zero] at kR
 obtain ⟨r, hr⟩ : ∃ r, N % (Q - 1) = r := ⟨_, rfl⟩
 have hrl : r < 4294967296 ^ 8 := by rw [← hr]; exact Nat.lt_of_le_of_lt (Nat.mod_le _ _) hNl
 rw [hr] at kR
 have kA := fun w => add_any r 1 hrl (by decide) w
 obtain ⟨cc, hcc⟩ : ∃ c, carryI r 1 = c := ⟨_, rfl⟩
 rw [hcc] at kA
 have kM := fun (w : World) (u : Value) (h : IsP w [[101, 120, 112, 111, 110, 101, 110, 116], l] u) => of_b h
 rw [hS] at kM
 rw [show expN Q l = r + 1 by unfold expN; rw [hS, hN, hr]]
 clear hS hN hr
 refine zra (args := [.agg (zg k P Q g), v]) 39 Tryz.func71 rfl rfl rfl ?_
 intro fa F
 have M := Mx.start w
 replace M := M.argB 0 hB (fun g e => by cases e)
 refine zSk fun _ hK1 => ?_
 refine zR ?_
 refine zo (zc rfl) rfl F rfl M 1 (t := 29) (c := zg k P Q g) (by unfold execOp; simp only [(F.get (t := 0) rfl)]; kernel_rfl) ?_
 intro g2 a2 w2 F2 M2
 clear F M
 refine zo (zc rfl) rfl F2 rfl M2 2 (t := 27) (c := numA 0) (zba rfl) ?_
 intro g3 a3 w3 F3 M3
 clear F2 M2
 refine hK1 _ _ ?_
 refine zSk fun _ hK4 => ?_
 refine zR ?_
 refine zea (zc rfl) rfl F3 rfl rfl (zE Tryz.func72 rfl) #[.int .i64 1] (z2a rfl) (zha (kO w3)) ?_
 rintro _ w5 a5 ⟨rfl, b5⟩ F5
 have M5 := M3.step b5
 refine zo (zc rfl) rfl F5 rfl M5 3 (t := 27) (c := numA 0) (zba rfl) ?_
 intro g6 a6 w6 F6 M6
 clear F5 M5
 refine zka (zc rfl) rfl F6 M6 (k := 3) rfl _ _ _ rfl (F6.get (t := 5) rfl) (F6.get (t := 12) rfl) (numA 1) _ rfl (zL rfl) (zfc _) (zx rfl) ze ?_
 intro w7 M7
 clear M6
 refine hK4 _ _ ?_
 refine zSk fun _ hK8 => ?_
 refine zR ?_
 refine zh (w' := w7) (zc rfl) rfl F6 rfl (.pointer (some ⟨g2, 9, none⟩)) (by unfold execOp; simp only [(F6.get (t := 2) rfl)]; kernel_rfl) fun _ F9 => ?_
 clear F6
 refine zh (w' := w7) (zc rfl) rfl F9 rfl (numV Q) (zga _ _ rfl (F9.get (t := 14) rfl) (M7.blk (k := 1) rfl) (numA Q) groupA_q Tryz.underlying27 rfl ze) fun _ F10 => ?_
 clear F9
 refine zh (w' := w7) (zc rfl) rfl F10 rfl (numV 1) (zga _ _ rfl (F10.get (t := 5) rfl) (M7.blk (k := 3) rfl) (numA 1) (zta rfl) Tryz.underlying27 rfl ze) fun _ F11 => ?_
 clear F10
 refine zea (zc rfl) rfl F11 rfl rfl (zE Tryz.func48 rfl) #[numV Q, numV 1] (z7b (F11.get (t := 15) rfl) (F11.get (t := 16) rfl)) (zha (kS w7)) ?_
 rintro _ w12 a12 ⟨rfl, b12⟩ F12
 have M12 := M7.step b12
 refine zh (w' := w12) (zc rfl) rfl F12 rfl (.tuple #[numV (Q - 1), .int .u32 u]) (zia _ (.inl rfl) (F12.get (t := 17) rfl)) fun _ F13 => ?_
 clear F12
 refine zh (w' := w12) (zc rfl) rfl F13 rfl (numV (Q - 1)) (y_ext _ _ rfl (F13.get (t := 13) rfl) rfl) fun _ F14 => ?_
 clear F13
 refine zh (w' := w12) (zc rfl) rfl F14 rfl (.int .u32 u) (y_ext _ _ rfl (F14.get (t := 13) rfl) rfl) fun _ F15 => ?_
 clear F14
 refine zo (zc rfl) rfl F15 rfl M12 4 (t := 27) (c := numA 0) (zba rfl) ?_
 intro g16 a16 w16 F16 M16
 clear F15 M12
 refine zka (zc rfl) rfl F16 M16 (k := 4) rfl _ _ _ rfl (F16.get (t := 6) rfl) (F16.get (t := 18) rfl) (numA (Q - 1)) _ rfl (zL rfl) (zfc _) (zx rfl) ze ?_
 intro w17 M17
 clear M16
 refine zh (w' := w17) (zc rfl) rfl F16 rfl (.int .u32 u) (zia _ (.inr rfl) (F16.get (t := 19) rfl)) fun _ F18 => ?_
 clear F16
 refine hK8 _ _ ?_
 refine zSk fun _ hK19 => ?_
 refine region_fxL F18 [StK.lit w17.heap.size [101, 120, 112, 111, 110, 101, 110, 116], StK.lit w17.heap.size [101, 120, 112, 111, 110, 101, 110, 116], StK.eq (v), StK.parts [[101, 120, 112, 111, 110, 101, 110, 116], l], StK.eq (.agg (zk (outF S))), StK.eq (numV N), StK.eq (numV 0), StK.eq (numV (Q - 1)), StK.eq (.tuple #[numV r, .bool true]), StK.eq (.tuple #[numV r, .bool true]), StK.eq (numV r), StK.eq (.bool true), StK.new w17.heap.size (numA 0) 27 (by decide)] 13 11 20 1 9 #[numV r, .bool true] (.bool true) rfl (by kernel_rfl) rfl (by kernel_rfl) (fun _ _ h => h) rfl (fun _ _ => Iff.rfl) rfl ⟨?_, ?_, ?_, ?_, ?_, ?_, ?_, ?_, ?_, ?_, ?_, ?_, ?_, trivial⟩ ?_
 ·intro ua uw hb hd
  exact hop_lit (zc rfl) hb.size [101, 120, 112, 111, 110, 101, 110, 116] (by decide) (by decide) _ rfl (by simp only [List.map_toArray, List.map_cons, List.map_nil]; kernel_rfl)
 ·intro ua uw hb hd
  have l21 : LitB w17.heap.size uw [101, 120, 112, 111, 110, 101, 110, 116] (ua.eval (.tmp 21)) := hd 21 (by decide)
  have e21 := l21.isB
  exact hop_convK (zc rfl) _ rfl l21
 ·intro ua uw hb hd
  have e1 : ua.eval (.tmp 1) = v := (show ua.eval (.tmp 1) = _ from hd 1 (by decide)).trans (F18.get (t := 1) rfl)
  exact zaa (F := (StK.eq (v)).F) (zc rfl) (v) (zia _ (.inl rfl) e1) rfl
 ·intro ua uw hb hd
  have l22 : LitB w17.heap.size uw [101, 120, 112, 111, 110, 101, 110, 116] (ua.eval (.tmp 22)) := hd 22 (by decide)
  have e22 := l22.isB
  have e23 : ua.eval (.tmp 23) = v := hd 23 (by decide)
  exact hop_parts2 (zc rfl) hb.size (.tmp 22) (.tmp 23) rfl e22 (by rw [e23]; exact ((M17.step hb).isb (k := 0) rfl))
 ·intro ua uw hb hd
  have e24 : IsP uw [[101, 120, 112, 111, 110, 101, 110, 116], l] (ua.eval (.tmp 24)) := hd 24 (by decide)
  exact zda (F := (StK.eq (.agg (zk (outF S)))).F) (zc rfl) hb.size rfl #[(ua.eval (.tmp 24))] (z2a rfl) (zE Tryz.func69 rfl) (zsa (kM _ _ e24))
 ·intro ua uw hb hd
  have e25 : ua.eval (.tmp 25) = .agg (zk (outF S)) := hd 25 (by decide)
  exact zda (F := (StK.eq (numV N)).F) (zc rfl) hb.size rfl #[.agg (zk (outF S))] (z2a e25) (zE Tryz.func105 rfl) (zsa (kN uw))
 ·intro ua uw hb hd
  exact zaa (F := (StK.eq (numV 0)).F) (zc rfl) (numV 0) (y_zbuild rfl) rfl
 ·intro ua uw hb hd
  have e6 : ua.eval (.tmp 6) = .pointer (some ⟨g16, 0, none⟩) := (show ua.eval (.tmp 6) = _ from hd 6 (by decide)).trans (F18.get (t := 6) rfl)
  exact zaa (F := (StK.eq (numV (Q - 1))).F) (zc rfl) (numV (Q - 1)) (zga _ _ rfl e6 ((M17.step hb).blk (k := 4) rfl) (numA (Q - 1)) (zta rfl) Tryz.underlying27 rfl ze) rfl
 ·intro ua uw hb hd
  have e26 : ua.eval (.tmp 26) = numV N := hd 26 (by decide)
  have e27 : ua.eval (.tmp 27) = numV 0 := hd 27 (by decide)
  have e28 : ua.eval (.tmp 28) = numV (Q - 1) := hd 28 (by decide)
  exact zda (F := (StK.eq (.tuple #[numV r, .bool true])).F) (zc rfl) hb.size rfl #[numV N, numV 0, numV (Q - 1)] (args3 e26 e27 e28) (zE Tryz.func50 rfl) (zsa (kR uw))
 ·intro ua uw hb hd
  have e29 : ua.eval (.tmp 29) = .tuple #[numV r, .bool true] := hd 29 (by decide)
  exact zaa (F := (StK.eq (.tuple #[numV r, .bool true])).F) (zc rfl) (.tuple #[numV r, .bool true]) (zia _ (.inl rfl) e29) rfl
 ·intro ua uw hb hd
  have e20 : ua.eval (.tmp 20) = .tuple #[numV r, .bool true] := hd 20 (by decide)
  exact zaa (F := (StK.eq (numV r)).F) (zc rfl) (numV r) (y_ext _ _ rfl e20 rfl) rfl
 ·intro ua uw hb hd
  have e20 : ua.eval (.tmp 20) = .tuple #[numV r, .bool true] := hd 20 (by decide)
  exact zaa (F := (StK.eq (.bool true)).F) (zc rfl) (.bool true) (y_ext _ _ rfl e20 rfl) rfl
 ·intro ua uw hb hd
  exact hop_new (zc rfl) hb.size hb.size (by decide) (zba rfl)
 intro p20 a20 w20 b20 G20 y20
 obtain ⟨-, -, -, -, -, -, -, -, -, -, q10, q11, q12, -⟩ := y20
 obtain ⟨gn12x19, r12, hg12, hc12⟩ := q12 (by decide)
 replace r12 : p20 12 = .pointer (some ⟨gn12x19, 0, none⟩) := r12
 have r10 : p20 10 = numV r := q10 (by decide)
 have r11 : p20 11 = .bool true := q11 (by decide)
 simp only [List.take, layV, Nat.zero_add, Nat.reduceAdd, r10, r11, r12] at G20
 have M20 := M17.newb b20.below 5 hg12 hc12
 clear hg12 hc12 r12
 clear F18 M17 r10 q10 r11 q11
 refine st_ex M20 (k := 5) rfl _ _ _ rfl (G20.get (t := 8) rfl) (G20.get (t := 30) rfl) (numA r) _ rfl (zL rfl) (zfc _) (zx rfl) ze ?_
 intro w21 M21
 clear M20
 refine zh (w' := w21) (zc rfl) rfl G20 rfl (.bool true) (zia _ (.inr rfl) (G20.get (t := 31) rfl)) fun _ F22 => ?_
 clear G20
 refine hK19 _ _ ?_
 refine zSk fun _ hK23 => ?_
 refine zR ?_
 refine zh (w' := w21) (zc rfl) rfl F22 rfl (numV r) (zga _ _ rfl (F22.get (t := 8) rfl) (M21.blk (k := 5) rfl) (numA r) (zta rfl) Tryz.underlying27 rfl ze) fun _ F24 => ?_
 clear F22
 refine zh (w' := w21) (zc rfl) rfl F24 rfl (numV 1) (zga _ _ rfl (F24.get (t := 5) rfl) (M21.blk (k := 3) rfl) (numA 1) (zta rfl) Tryz.underlying27 rfl ze) fun _ F25 => ?_
 clear F24
 refine zea (zc rfl) rfl F25 rfl rfl (zE Tryz.func73 rfl) #[numV r, numV 1] (z7b (F25.get (t := 33) rfl) (F25.get (t := 34) rfl)) (zha (kA w21)) ?_
 rintro _ w26 a26 ⟨rfl, b26⟩ F26
 have M26 := M21.step b26
 refine zh (w' := w26) (zc rfl) rfl F26 rfl (.tuple #[numV (r + 1), .int .u32 cc]) (zia _ (.inl rfl) (F26.get (t := 35) rfl)) fun _ F27 => ?_
 clear F26
 refine zh (w' := w26) (zc rfl) rfl F27 rfl (numV (r + 1)) (y_ext _ _ rfl (F27.get (t := 32) rfl) rfl) fun _ F28 => ?_
 clear F27
 refine zh (w' := w26) (zc rfl) rfl F28 rfl (.int .u32 cc) (y_ext _ _ rfl (F28.get (t := 32) rfl) rfl) fun _ F29 => ?_
 clear F28
 refine zo (zc rfl) rfl F29 rfl M26 6 (t := 27) (c := numA 0) (zba rfl) ?_
 intro g30 a30 w30 F30 M30
 clear F29 M26
 refine zka (zc rfl) rfl F30 M30 (k := 6) rfl _ _ _ rfl (F30.get (t := 10) rfl) (F30.get (t := 36) rfl) (numA (r + 1)) _ rfl (zL rfl) (zfc _) (zx rfl) ze ?_
 intro w31 M31
 clear M30
 refine zh (w' := w31) (zc rfl) rfl F30 rfl (.int .u32 cc) (zia _ (.inr rfl) (F30.get (t := 37) rfl)) fun _ F32 => ?_
 clear F30
 refine hK23 _ _ ?_
 refine zSk fun _ hK33 => ?_
 refine zR ?_
 refine zh (w' := w31) (zc rfl) rfl F32 rfl (numV (r + 1)) (zga _ _ rfl (F32.get (t := 10) rfl) (M31.blk (k := 6) rfl) (numA (r + 1)) (zta rfl) Tryz.underlying27 rfl ze) fun _ F34 => ?_
 clear F32
 refine zka (zc rfl) rfl F34 M31 (k := 2) rfl _ _ _ rfl (F34.get (t := 4) rfl) (F34.get (t := 38) rfl) (numA (r + 1)) _ rfl (zL rfl) (zfc _) (zx rfl) ze ?_
 intro w35 M35
 clear M31
 refine hK33 _ _ ?_
 refine wp_ret ?_
 try simp only [Exit.then, Exit.inBlock, Exit.jump]
 exact bodyPost_ret (results_cell_row rfl _ _ _ _ _ (0, 0) _ (F34.get rfl) (M35.blk (k := 2) rfl) Tryz.underlying27 rfl ze) F34.defers ⟨rfl, M35.below⟩
end Go.Proofs.YtcfepoopkfhojaaGreat
/- sentinelref3: Bytes, Stretch, Stream; sponge.Stretch. -/
namespace Go.Proofs.YtcfepoopkfhojaaGreat
open Go.ChangeShapes Go.WideShapes Go.ChangeAt Go.RowKit Go.Shelf
theorem stretch_any (A : Option Addr) (pass : List UInt8) (n0 c0 : Nat) (hn0 : pass.length = n0) (hc0 : n0 ≤ c0) (hm0 : c0 ≤ maxLen) (hz0 : A = none → c0 = 0) (B : Option Addr) (salt : List UInt8) (n1 c1 : Nat) (hn1 : salt.length = n1) (hc1 : n1 ≤ c1) (hm1 : c1 ≤ maxLen) (hz1 : B = none → c1 = 0) (t : Int) (ht0 : -9223372036854775808 ≤ t) (ht1 : t < 9223372036854775808) (T : Nat) (hT : (T : Int) = max 1 (min t 1000) - 1) (w : World) (hR0 : Rd w A pass) (hR1 : Rd w B salt) :
  Calls Tryz.prog 70 #[.slice A n0 c0, .slice B n1 c1, .int .i64 t] w fun e w' => e = .returned (.agg (zk (strA pass salt T))) ∧ Below w.heap.size w w' := by
 have b0 := zca w (.cells #[Value.int .u8 0, .int .u8 0, .int .u8 0, .int .u8 0, .int .u8 0, .int .u8 0, .int .u8 0, .int .u8 0, .int .u8 0, .int .u8 0, .int .u8 0, .int .u8 0, .int .u8 0, .int .u8 0, .int .u8 0, .int .u8 0] 35)
 have y0 := Blk.new w 35 #[Value.int .u8 0, .int .u8 0, .int .u8 0, .int .u8 0, .int .u8 0, .int .u8 0, .int .u8 0, .int .u8 0, .int .u8 0, .int .u8 0, .int .u8 0, .int .u8 0, .int .u8 0, .int .u8 0, .int .u8 0, .int .u8 0]
 have R0 := hR0.step b0
 have R1 := hR1.step b0
 have s0 : (w.alloc (.cells #[Value.int .u8 0, .int .u8 0, .int .u8 0, .int .u8 0, .int .u8 0, .int .u8 0, .int .u8 0, .int .u8 0, .int .u8 0, .int .u8 0, .int .u8 0, .int .u8 0, .int .u8 0, .int .u8 0, .int .u8 0, .int .u8 0] 35)).heap.size = w.heap.size + 1 := by simp
 have hT9 : T ≤ 999 := by omega
 go_enter Tryz.func70, Tryz.ntmps70
 go_wp2_with fail
 generalize World.alloc _ _ = W at *
 have P1 := prd_one hn1 hc1 hm1 hz1 R1
 rw [s0] at P1
 have a1 := zca W (.cells #[.slice B n1 c1] 22)
 have R0a := R0.step a1
 have B1 := zr b0 a1
 have y1 := y0.step a1
 refine ((mac_any A pass n0 c0 hn0 hc0 hm0 hz0 _ [salt] 1 1 rfl (Nat.le_refl _) (by unfold maxLen; omega) _ R0a P1)).mono ?_
 rintro e w1 ⟨rfl, b1⟩
 have y2 := y1.step b1
 have R02 := R0a.step b1
 have B2 := zr B1 b1
 obtain ⟨F, hF⟩ : ∃ F, F = strU pass salt 0 := ⟨_, rfl⟩
 rw [show macW pass [salt] = F from hF.symm]
 have z1 := Blk.new w1 35 #[Value.int .u8 0, .int .u8 0, .int .u8 0, .int .u8 0, .int .u8 0, .int .u8 0, .int .u8 0, .int .u8 0, .int .u8 0, .int .u8 0, .int .u8 0, .int .u8 0, .int .u8 0, .int .u8 0, .int .u8 0, .int .u8 0]
 have a2 := zca w1 (.cells #[Value.int .u8 0, .int .u8 0, .int .u8 0, .int .u8 0, .int .u8 0, .int .u8 0, .int .u8 0, .int .u8 0, .int .u8 0, .int .u8 0, .int .u8 0, .int .u8 0, .int .u8 0, .int .u8 0, .int .u8 0, .int .u8 0] 35)
 clear R1 R0 P1 a1 y0 y1 b1 b0 B1 R0a hR1
 have HF := hid hF
 clear hF
 go_wp2_with (first | (refine zq rfl _ (.tmp 7) _ rfl _ rfl _ rfl (zla _) _ z1 rfl zlb ?_; intro w2 g2 c2; have b2 := zmb g2; have y3 := y2.step b2; have R03 := R02.step b2; have B3 := zr B2 b2; have z2 := Blk.new w2 35 #[Value.int .u8 0, .int .u8 0, .int .u8 0, .int .u8 0, .int .u8 0, .int .u8 0, .int .u8 0, .int .u8 0, .int .u8 0, .int .u8 0, .int .u8 0, .int .u8 0, .int .u8 0, .int .u8 0, .int .u8 0, .int .u8 0]; have hu : w1.heap.size < w2.heap.size := c2.lt) | (refine zy rfl _ (.tmp 7) rfl _ rfl _ _ _ c2 Tryz.underlying35 rfl zlb ?_) | (refine zq rfl _ (.tmp 8) _ rfl _ rfl _ rfl (zla _) _ z2 rfl zlb ?_; intro w3 g3 c3; have b3 := zmb g3; have y4 := y3.step b3; have R04 := R03.step b3; have B4 := zr B3 b3; have c24 := c2.step b3))
 have hu3 : w1.heap.size < w3.heap.size := c24.lt
 have hv3 : w2.heap.size < w3.heap.size := c3.lt
 have hy4 := y4.lt
 obtain ⟨U, hU⟩ : ∃ U, U = w1.heap.size := ⟨_, rfl⟩
 obtain ⟨V, hV⟩ : ∃ V, V = w2.heap.size := ⟨_, rfl⟩
 rw [← hU] at c24 ⊢
 rw [← hV] at c3 ⊢
 rw [HF.out] at c24 c3
 have hUw : w.heap.size < U := by have := y2.lt; omega
 have hUV : U ≠ V := by omega
 have hwV : w.heap.size < V := by omega
 have hU3 : U < w3.heap.size := by omega
 have hV3 : V < w3.heap.size := by omega
 clear HF y2 R02 B2 z1 a2 g2 c2 b2 y3 R03 B3 z2 g3 b3 hu hu3 hv3 hU hV
 go_loopw [9] (fun i wr => ∃ k : Nat, k ≤ T ∧ i = .int .i64 ((k : Int) + 1) ∧ Blk wr U 35 (zk (outF (strU pass salt k))) ∧ Blk wr V 35 (zk (strA pass salt k)) ∧ Below (w.heap.size + 1) w3 wr) (fun i _ => 1001 - (intOf i).toNat)
 case atStart => exact ⟨0, by omega, rfl, c24, c3, Below.refl _ _⟩
 case round =>
  obtain ⟨k, hk, rfl, hu, hv, hB⟩ := hrel
  have hz := hB.size
  have hul := hu.lt
  have hvl := hv.lt
  have HU := hid (show strU pass salt (k + 1) = macW pass [sumL (strU pass salt k)] from rfl)
  have HA := hid (show zk (strA pass salt (k + 1)) = zk (fun j => xorB (strA pass salt k j) (outF (strU pass salt (k + 1)) j)) from rfl)
  have hab := hid (strA_bd pass salt k)
  have hob := hid (zdc (strU pass salt k))
  obtain ⟨a, ha⟩ : ∃ a, a = strA pass salt k := ⟨_, rfl⟩
  obtain ⟨u, hu'⟩ : ∃ u, u = strU pass salt k := ⟨_, rfl⟩
  obtain ⟨u2, hu2⟩ : ∃ u2, u2 = strU pass salt (k + 1) := ⟨_, rfl⟩
  rw [← ha, ← hu2] at HA
  rw [← ha] at hab hv
  rw [← hu'] at hob hu
  rw [← hu2, ← hu'] at HU
  have Ha := hid ha
  have Hu2 := hid hu2
  clear ha hu2 hu'
  by_cases hlt : k < T
  ·have Rr : Rd wr A pass := hR0.below (B4.trans (hB.mono (by omega))) (Nat.le_refl _)
   have hd : (t ≤ 1000 ∧ (k : Int) + 1 < t) ∨ (1000 < t ∧ (k : Int) + 1 < 1000) := by omega
   rcases hd with ⟨d1, d2⟩ | ⟨d1, d2⟩
   all_goals
    have Ru := sum_rd hu
    have hsl := fun w' => slice_sum w' U
    have P1 := prd_one (sumL_len u) (Nat.le_refl 16) (by unfold maxLen; omega) (fun h => by cases h) Ru
    have a1 := zca wr (.cells #[.slice (some ⟨U, 0, none⟩) 16 16] 22)
    have Ra := Rr.step a1
    go_wp2_with fail
    refine ((mac_any A pass n0 c0 hn0 hc0 hm0 hz0 _ [sumL u] 1 1 rfl (Nat.le_refl _) (by unfold maxLen; omega) _ Ra P1)).mono ?_
    rintro e w4 ⟨rfl, b4⟩
    rw [← HU.out]
    have B4 := zr a1 b4
    have hu4 := hu.step B4
    have hv4 := hv.step B4
    have hz4 := B4.size
    clear a1 P1 Ru hsl Ra b4
    go_wp2_with (refine zq rfl _ (.tmp 7) _ rfl _ rfl _ rfl (zla _) _ hu4 rfl zlb ?_; intro w5 g5 c5)
    have v5 := hv4.grown g5 (fun e => by cases e; omega)
    have B5 : Below (w.heap.size + 1) w3 w5 := zf (hB.trans (B4.mono (by omega))) g5 (by omega) (by omega)
    rw [midA_zero a (outF u2)] at v5
    have hz5 := B5.size
    clear hu4 hv4 B4 g5 hu hv hB
    go_loopw [26] (fun i wr => ∃ j : Nat, j ≤ 16 ∧ i = .int .i64 (j : Int) ∧ Blk wr U 35 (zk (outF u2)) ∧ Blk wr V 35 (zk (midA a (outF u2) j)) ∧ Below (w.heap.size + 1) w3 wr) (fun i _ => 16 - (intOf i).toNat)
    case atStart => exact ⟨0, by omega, rfl, c5, v5, B5⟩
    case round =>
     rename_i wr2 _ _
     obtain ⟨j, hj, rfl, cu, cv, hB2⟩ := hrel
     have hzz := hB2.size
     by_cases hj6 : j < 16
     ·have h1 := cu.cell (arr16_at' (outF u2) hj6)
      have h2 := cv.cell (arr16_at' (midA a (outF u2) j) hj6)
      rw [show midA a (outF u2) j j = a j by unfold midA; rw [if_neg (by omega)]] at h2
      have h3 := Blk.frozen cv j
      have hset := hid (midA_set a (outF u2) hj6)
      have hxb := xorB_bd (a j) (outF u2 j)
      unfold xorB at hset hxb
      generalize a j = X at *
      generalize outF u2 j = Y at *
      go_wp2
      go_still_tail 8, (by kernel_rfl)
      change wpList _ _ _ _ _ (World.drew _)
      go_wp2
      go_roundw
      case rel => exact ⟨j + 1, by omega, by go_num, (cu.drew.far (a := ⟨V, j, none⟩) _ (by simpa using hUV)), cv.drew.set j _ hset.out, hB2.drew.setCell (p := ⟨V, j, none⟩) (by simp; omega) _⟩
      case measure => simp [intOf]; omega
     ·obtain rfl : j = 16 := by omega
      rw [midA_full, ← HA.out] at cv
      rw [Hu2.out] at cu
      clear HA HU
      go_wp2
      go_roundw
      case rel => exact ⟨k + 1, by omega, by go_num, cu, cv, hB2⟩
      case measure => simp [intOf]; omega
  ·obtain rfl : k = T := by omega
   rw [Ha.out] at hv
   clear HU HA hab hob Ha Hu2
   have y5 := Blk.below y4 hB (by omega)
   have hd : (t ≤ 1000 ∧ ¬ (k : Int) + 1 < t) ∨ (1000 < t ∧ ¬ (k : Int) + 1 < 1000) := by omega
   rcases hd with ⟨d1, d2⟩ | ⟨d1, d2⟩
   all_goals
    go_wp2_with (first | (refine zy rfl _ (.tmp 8) rfl _ rfl _ _ _ hv Tryz.underlying35 rfl zlb ?_) | (refine zq rfl _ (.tmp 6) _ rfl _ rfl _ rfl (zla _) _ y5 rfl zlb ?_; intro w6 g6 c6))
    exact bodyPost_ret (zdb rfl rfl c6 Tryz.underlying35 rfl zlb) rfl ⟨rfl, zf (B4.trans (hB.mono (by omega))) g6 (by have := B4.size; omega) (Nat.le_refl _)⟩
end Go.Proofs.YtcfepoopkfhojaaGreat
namespace Go.Proofs.YtcfepoopkfhojaaGreat
open Go.ChangeShapes Go.WideShapes Go.ChangeAt Go.RowKit Go.Shelf
theorem IsP.vals {w : World} {L : List (List UInt8)} {u : Value} (h : IsP w L u) : ∃ (A : Option Addr) (c : Nat) (vs : List Value), u = .slice A L.length c ∧ vs.length = L.length ∧ (∀ (j : Nat) (l : List UInt8), L[j]? = some l → ∃ v, vs[j]? = some v ∧ IsB w l v) ∧ (L.length = 0 ∨ ∃ b o, A = some ⟨b, o, none⟩ ∧ ∀ j v, vs[j]? = some v → w.cell? ⟨b, o + j, none⟩ = some v) := by
 obtain ⟨A, c, rfl, hc, hm, hP⟩ := h
 by_cases h0 : L.length = 0
 ·refine ⟨A, c, [], rfl, h0.symm, fun j l hj => ?_, .inl h0⟩
  have := (List.getElem?_eq_some_iff.1 hj).1
  omega
 ·obtain ⟨b, o, rfl, hb, hcell⟩ := hP (by omega)
  have hex : ∀ n, n ≤ L.length → ∃ vs : List Value, vs.length = n ∧ (∀ j l, j < n → L[j]? = some l → ∃ v, vs[j]? = some v ∧ IsB w l v) ∧ ∀ j v, vs[j]? = some v → w.cell? ⟨b, o + j, none⟩ = some v := fun n => by
   induction n with
   | zero => intro _; exact ⟨[], rfl, fun j l hj => absurd hj (Nat.not_lt_zero j), fun j v hv => by cases hv⟩
   | succ n ih =>
    intro hn
    obtain ⟨vs, h1, h2, h3⟩ := ih (by omega)
    obtain ⟨l, hl⟩ : ∃ l, L[n]? = some l := ⟨_, List.getElem?_eq_getElem (by omega)⟩
    obtain ⟨A', c', q1, q2, q3, q4, q5⟩ := hcell n l hl
    refine ⟨vs ++ [.slice A' l.length c'], by simp [h1], fun j l2 hj hl2 => ?_, fun j v hv => ?_⟩
    ·by_cases e : j = n
     ·subst e
      obtain rfl : l = l2 := by rw [hl] at hl2; exact Option.some.inj hl2
      exact ⟨_, by rw [List.getElem?_append_right (by omega), h1, Nat.sub_self]; rfl, A', c', rfl, q2, q3, q4, q5⟩
     ·obtain ⟨v, p1, p2⟩ := h2 j l2 (by omega) hl2
      exact ⟨v, by rw [List.getElem?_append_left (by omega)]; exact p1, p2⟩
    ·by_cases e : j < vs.length
     ·rw [List.getElem?_append_left e] at hv; exact h3 j v hv
     ·rw [List.getElem?_append_right (by omega)] at hv
      have h4 : j - vs.length = 0 := by
       have := (List.getElem?_eq_some_iff.1 hv).1
       simp at this; omega
      rw [h4] at hv
      obtain rfl : _ = v := Option.some.inj hv
      rw [show j = n by omega]; exact q1
  obtain ⟨vs, h1, h2, h3⟩ := hex L.length (Nat.le_refl _)
  exact ⟨_, c, vs, rfl, h1, fun j l hj => h2 j l (List.getElem?_eq_some_iff.1 hj).1 hj, .inr ⟨b, o, rfl, h3⟩⟩
theorem isP_row {w : World} {L : List (List UInt8)} {v : Value} {vs : List Value} {T : TypeId} {n : Nat} (h : w.ownsRow 0 T 1 v n vs) (hn : n = L.length) (hv : ∀ (j : Nat) (l : List UInt8), L[j]? = some l → ∃ u, vs[j]? = some u ∧ IsB w l u) : IsP w L v := by
 subst hn
 obtain ⟨A, c, rfl, h1, h2, h3⟩ := row_slice h
 refine ⟨A, c, rfl, h1, h2, fun h0 => ?_⟩
 obtain ⟨g, cur, rfl, hg, ht⟩ := h3 h0
 refine ⟨g, 0, rfl, z9b hg, fun j l hj => ?_⟩
 obtain ⟨u, q1, B, d, rfl, q2, q3, q4, q5⟩ := hv j l hj
 refine ⟨B, d, ?_, q2, q3, q4, q5⟩
 rw [← ht, Nat.mul_one, List.getElem?_take] at q1
 split at q1
 ·rw [Nat.zero_add]
  simp only [World.cell?, hg]
  rw [← Array.getElem?_toList]; exact q1
 ·cases q1
section
variable {G : Option Nat} {w0 w : World} {R : List (Nat × Res)} {a : Act} {o : Oper}
theorem run_appQ (M : Mx G w0 w R) {kb g : Nat} {v0 : Value} (hb : look R kb = some (blkR g 22 #[v0])) (h0 : v0.oneCell' = true) {Au : Option Addr} {n cu : Nat} {vs : List Value} (hvl : vs.length = n) (h1 : ∀ u, u ∈ vs → u.oneCell' = true) (hvc : (Au = none ∧ n = 0) ∨ ∃ ad, Au = some ad ∧ ∀ (j : Nat) (v : Value), vs[j]? = some v → w.cell? (ad.add j) = some v) (hn : n ≤ 100) (s x : Operand)
  (ho : o.op = .call { callee := .builtin .append, args := #[s, x], argTypes := #[54, 54] }) (hs : a.eval s = .slice (some ⟨g, 0, none⟩) 1 1) (hx : a.eval x = .slice Au n cu) :
  ∃ v w', (execOp a.eval o).run Tryz.prog w = .ok (.value v) w' ∧ Mx G w0 w' ((kb, rowR 22 1 (1 + n) (v0 :: vs) v) :: R) := by
 have hT : Tryz.prog.underlying 54 = some (.slice 22) := Tryz.underlying54
 have hinf : (Tryz.prog.info? 22).map (fun i => (i.size, i.bytes, i.zero.map (·.cells.size))) = some (1, 24, some 1) := by kernel_rfl
 obtain ⟨i, hi, hii⟩ := Option.map_eq_some_iff.1 hinf
 simp only [Prod.mk.injEq] at hii
 obtain ⟨hsize, hbytes, hzz⟩ := hii
 obtain ⟨z, hz, hzs⟩ := Option.map_eq_some_iff.1 hzz
 have hblk := M.blk hb
 have hown : w.ownsRow 0 22 1 (.slice (some ⟨g, 0, none⟩) 1 1) 1 [v0] := ⟨rfl, .inr ⟨g, 1, #[v0], rfl, Nat.zero_le _, hblk, Nat.le_refl _, by unfold maxLen; decide, rfl, rfl⟩⟩
 have fin : ∀ (v : Value) (w' : World), w'.ownsRow 0 22 1 v (1 + n) (v0 :: vs) → w.grownBy w' (some g) → (v.ownBlock = some g ∨ v.ownBlock = some w.heap.size) → Mx G w0 w' ((kb, rowR 22 1 (1 + n) (v0 :: vs) v) :: R) := fun v w' h2 h3 h4 => M.write hb rfl h3 (fun _ e => by cases e; rfl) _ h2 row_dep fun b hb2 => by
  have hb3 : v.ownBlock = some b := hb2
  have hlt : b < w'.heap.size := by
   obtain ⟨A, c, rfl, -, -, hA⟩ := row_slice h2
   obtain ⟨g2, cur, rfl, hg2, -⟩ := hA (by omega)
   obtain rfl : g2 = b := Option.some.inj hb3
   exact z9b hg2
  refine ⟨hlt, ?_⟩
  rcases h4 with h4 | h4
  ·rw [hb3] at h4; cases h4; exact .inl rfl
  ·rw [hb3] at h4; cases h4; exact .inr (Nat.le_refl _)
 rcases hvc with ⟨rfl, rfl⟩ | ⟨ad, rfl, hvc⟩
 ·have hr := run_append_room_src (P := Tryz.prog) w 54 54 o.type 22 i hT hi g 0 1 1 (.slice none 0 cu) 0 [] (Src.ofNil w hT cu) (Nat.le_refl _) (fun j hj => absurd hj (Nat.not_lt_zero j)) (fun j hj => absurd hj (Nat.not_lt_zero j))
  obtain rfl : vs = [] := List.eq_nil_of_length_eq_zero hvl
  refine ⟨.slice (some ⟨g, 0, none⟩) 1 1, w, ?_, fin _ _ hown (World.grownBy.refl w (some g)) (.inl rfl)⟩
  unfold execOp
  simp only [ho, resolve, invoke, builtin, Sem.run_bind, Sem.run_pure, Result.andThen_ok, List.map_toArray, List.map_cons, List.map_nil, hs, hx]
  rw [hr]
  rfl
 ·obtain ⟨v', w', hrun, q1, q2, -, q3⟩ := run_append_own_at (P := Tryz.prog) w 0 54 o.type 22 i z 1 24 hT hi hz hsize hbytes hzs (by decide) (.slice (some ⟨g, 0, none⟩) 1 1) 1 [v0] hown ad n cu vs (by rw [hvl, Nat.mul_one]) hvc h1 (by unfold maxLen; omega) (by omega) (Nat.zero_le _)
  refine ⟨v', w', ?_, fin v' w' q1 q2 q3⟩
  unfold execOp
  simp only [ho, resolve, invoke, builtin, Sem.run_bind, Sem.run_pure, Result.andThen_ok, List.map_toArray, List.map_cons, List.map_nil, hs, hx, hrun]
end
theorem cell_below {w w' : World} (hb : Below w.heap.size w w') {b k : Nat} {v : Value} (h : w.cell? ⟨b, k, none⟩ = some v) : w'.cell? ⟨b, k, none⟩ = some v := by
 have hlt : b < w.heap.size := by
  by_cases e : b < w.heap.size
  ·exact e
  ·have : w.heap[b]? = none := Array.getElem?_eq_none (by omega)
   simp [World.cell?, this] at h
 simpa [World.cell?, hb.block b hlt] using h
theorem vals_at {w w' : World} {n : Nat} {Au : Option Addr} {vs : List Value} (h : n = 0 ∨ ∃ b o, Au = some ⟨b, o, none⟩ ∧ ∀ (j : Nat) (v : Value), vs[j]? = some v → w.cell? ⟨b, o + j, none⟩ = some v) (hn : vs.length = n) (ha : n = 0 → Au = none ∨ ∃ ad, Au = some ad) (hb : Below w.heap.size w w') : (Au = none ∧ n = 0) ∨ ∃ ad, Au = some ad ∧ ∀ (j : Nat) (v : Value), vs[j]? = some v → w'.cell? (ad.add j) = some v := by
 rcases h with h | ⟨b, o, e, hc⟩
 ·rcases ha h with h2 | ⟨ad, h2⟩
  ·exact .inl ⟨h2, h⟩
  ·refine .inr ⟨ad, h2, fun j v hj => ?_⟩
   have := (List.getElem?_eq_some_iff.1 hj).1
   omega
 ·exact .inr ⟨_, e, fun j v hj => by rw [zua]; exact cell_below hb (hc j v hj)⟩
theorem vals_one {w : World} {L : List (List UInt8)} {vs : List Value} (hl : vs.length = L.length) (h : ∀ (j : Nat) (l : List UInt8), L[j]? = some l → ∃ v, vs[j]? = some v ∧ IsB w l v) : ∀ u, u ∈ vs → u.oneCell' = true := fun u hu => by
 obtain ⟨j, hj, e⟩ := List.getElem_of_mem hu
 obtain ⟨l, hl2⟩ : ∃ l, L[j]? = some l := ⟨_, List.getElem?_eq_getElem (by omega)⟩
 obtain ⟨v, q1, A, c, rfl, -⟩ := h j l hl2
 rw [List.getElem?_eq_getElem hj, e] at q1
 obtain rfl := Option.some.inj q1
 rfl
theorem isb_sum {w : World} {g : Nat} {y : Nat → Int} {t : TypeId} (hy : ∀ k, 0 ≤ y k ∧ y k < 256) (h : w.heap[g]? = some (.cells (zk y) t (0, 0))) : IsB w (sumY y) (.slice (some ⟨g, 0, none⟩) 16 16) :=
 ⟨some ⟨g, 0, none⟩, 16, (by rw [zyb]), (by rw [zyb]; exact Nat.le_refl _), (by unfold maxLen; decide), (fun e => by cases e), arr16_rd h hy⟩
def texN (Q : Nat) (t : List UInt8) (L : List (List UInt8)) : Nat := expN Q (sumY (outF (macW [] (t :: L))))
def secN (Q : Nat) (s pass salt : List UInt8) : Nat := expN Q (sumY (strA (sumY (outF (macW [] [[120], s, pass]))) salt 2))
theorem isP_nil (w : World) : IsP w [] (zN) := ⟨none, 0, rfl, Nat.le_refl _, Nat.zero_le _, fun h => absurd h (Nat.lt_irrefl 0)⟩
theorem isP_blk {w : World} {L : List (List UInt8)} {g : Nat} {c : Array Value} {T : TypeId} (hg : w.heap[g]? = some (.cells c T (0, 0))) {n : Nat} (hn : n = L.length) (hc : c.size = n) (hm : n ≤ 1000) (hv : ∀ (j : Nat) (l : List UInt8), L[j]? = some l → ∃ u, c.toList[j]? = some u ∧ IsB w l u) : IsP w L (.slice (some ⟨g, 0, none⟩) n n) := by
 by_cases h0 : n = 0
 ·subst h0
  obtain rfl : L = [] := List.eq_nil_of_length_eq_zero hn.symm
  exact ⟨_, 0, rfl, Nat.le_refl _, Nat.zero_le _, fun h => absurd h (Nat.lt_irrefl 0)⟩
 ·exact isP_row (T := T) (vs := c.toList) ⟨by rw [Array.length_toList, hc, Nat.mul_one], .inr ⟨g, n, c, rfl, Nat.zero_le _, hg, Nat.le_refl _, by unfold maxLen; omega, by rw [hc, Nat.mul_one], by rw [Nat.mul_one, ← hc, ← Array.length_toList, List.take_length]⟩⟩ hn hv
theorem stretch_b {w : World} {v u : Value} {pass salt : List UInt8} (hv : IsB w pass v) (hu : IsB w salt u) :
  Calls Tryz.prog 70 #[v, u, .int .i64 3] w fun e w' => e = .returned (.agg (zk (strA pass salt 2))) ∧ Below w.heap.size w w' := by
 obtain ⟨A, c, rfl, h1, h2, h3, h4⟩ := hv
 obtain ⟨B, d, rfl, k1, k2, k3, k4⟩ := hu
 exact stretch_any A pass _ c rfl h1 h2 h3 B salt _ d rfl k1 k2 k3 3 (by decide) (by decide) 2 (by decide) w h4 k4
theorem expN_bd {Q : Nat} (h2 : 2 < Q) (l : List UInt8) : 1 ≤ expN Q l ∧ expN Q l < Q := by
 have := Nat.mod_lt (zwa (sumY (outF (macW [] [[101, 120, 112, 111, 110, 101, 110, 116], l])))) (show 0 < Q - 1 by omega)
 unfold expN
 omega
def kN (Q : Nat) : Nat := texN Q [107] []
def uN (Q a b : Nat) : Nat := texN Q [117] [zz a, zz b]
theorem run_cvL {G : Option Nat} {w0 w : World} {R : List (Nat × Res)} {a : Act} {o : Oper} (M : Mx G w0 w R) {k : Nat} {l : List UInt8} {v : Value} (hk : look R k = some (ownR l v)) (hl : 0 < l.length) (x : Operand) (ho : o.op = .convert 22 22 x) (hx : a.eval x = v) : ∃ v' w', (execOp a.eval o).run Tryz.prog w = .ok (.value v') w' ∧ Mx G w0 w' ((k, bytR l v') :: R) := by
 have hI := M.isO hk
 obtain ⟨hlen, hr⟩ := M.at_ k _ hk
 rcases hr with ⟨e, h0⟩ | ⟨g, c', cur, e, hb, hg, hn, hc, hs, ht⟩
 ·rw [h0] at hl; exact absurd hl (Nat.lt_irrefl 0)
 ·have hsh : w.shape? g = some (5, cur.size) := by unfold World.shape?; rw [hg]
  have hgr : w.grownBy (w.freeze ⟨g, cur.size, none⟩ 1) (some g) := by
   refine ⟨rfl, rfl, rfl, by simp [World.freeze], fun k hk hne => ?_⟩
   simp only [World.freeze, if_neg (by decide : ¬ (1 = 0)), Array.getElem?_modify]
   rw [if_neg (fun e => hne (by rw [e]))]
  have hIs : IsB (w.freeze ⟨g, cur.size, none⟩ 1) l v := by
   obtain ⟨A, d, e1, q1, q2, q3, q4⟩ := hI
   refine ⟨A, d, e1, q1, q2, q3, fun hp => ?_⟩
   obtain ⟨ad, e2, p1, p2⟩ := q4 hp
   have hA : ad = ⟨g, 0, none⟩ := by
    rw [e1, e2] at e
    injection e with e3
    exact Option.some.inj e3
   refine ⟨ad, e2, by simpa [World.freeze] using p1, fun j b hj => ?_⟩
   have := p2 j b hj
   rw [hA, zua] at this ⊢
   simp only [World.cell?, World.freeze, if_neg (by decide : ¬ (1 = 0)), Array.getElem?_modify, hg, if_true, Option.map_some] at this ⊢
   exact this
  refine ⟨v, _, ?_, M.write hk rfl hgr (fun g2 e2 => by cases e2; show v.ownBlock = some g; rw [e]; rfl) (bytR l v) hIs bytR_dep fun b hb2 => ⟨hIs.lt hb2, .inl (bfp_ofp hb2)⟩⟩
  rw [← hx] at e ⊢
  refine run_cv' _ _ x ho e ?_
  simp [convert, run_underlying Tryz.underlying22, run_underlying Tryz.underlying5, markStringish, hsh]
  exact e.symm
variable {ds : List Deferred}
def evO (V : Nat → Option Value) : Operand → Option Value
 | .tmp t => V t
 | .const v => some v
 | _ => none
theorem zub {a : Act} {V : Nat → Option Value} (F : ∀ t v, V t = some v → a.eval (.tmp t) = v) : ∀ {x : Operand} {v : Value}, evO V x = some v → a.eval x = v
 | .tmp t, v, h => F t v h
 | .const c, v, h => by cases h; rfl
 | .global _, _, h => by cases h
 | .func _, _, h => by cases h
def offF (P : Program) (s : TypeId) (f : Nat) : Option Nat := match P.underlying s with
 | some (.struct fs) => match fs[f]? with
  | some fd => match P.info? fd.type with
   | some inf => match Nat.beq inf.size 0 with
    | true => none
    | false => some fd.offset
   | none => none
  | none => none
 | _ => none
def plV (P : Program) (V : Nat → Option Value) (D : List (Nat × Array Value)) (o : Oper) (i : Nat) : Option (Value × Option (Nat × Nat)) := match o.op with
 | .move x => (evO V x).map fun v => (v, none)
 | .assign x => (evO V x).map fun v => (v, none)
 | .pick c x y => match evO V c with
  | some (.bool true) => (evO V x).map fun v => (v, none)
  | some (.bool false) => (evO V y).map fun v => (v, none)
  | _ => none
 | .extract x k => match evO V x with
  | some (.tuple vs) => (vs[k]?).map fun v => (v, none)
  | _ => none
 | .unOp .not _ x => match evO V x with
  | some (.bool b) => some (.bool (!b), none)
  | _ => none
 | .binOp b ty x y _ => match evO V x, evO V y with
  | some (.int k p), some (.int k' q) => match decEq k k' with
   | .isTrue _ => match b with
    | .lss => some (.bool (decide (p < q)), none)
    | .leq => some (.bool (decide (p ≤ q)), none)
    | .gtr => some (.bool (decide (q < p)), none)
    | .geq => some (.bool (decide (q ≤ p)), none)
    | .eql => match P.underlying ty with
     | some (.int k2) => match decEq k2 k with
      | .isTrue _ => some (.bool (p == q), none)
      | .isFalse _ => none
     | _ => none
    | .neq => match P.underlying ty with
     | some (.int k2) => match decEq k2 k with
      | .isTrue _ => some (.bool (p != q), none)
      | .isFalse _ => none
     | _ => none
    | _ => none
   | .isFalse _ => none
  | _, _ => none
 | .nilCheck x => match evO V x with
  | some (.pointer (some p)) => some (.pointer (some p), none)
  | _ => none
 | .fieldAddr s x f => match evO V x, offF P s f with
  | some (.pointer (some ⟨g, k, none⟩)), some off => some (.pointer (some ⟨g, k + off, none⟩), none)
  | _, _ => none
 | .load ty x => match evO V x, D[i]?, P.underlying ty with
  | some (.pointer (some ⟨g, k, none⟩)), some (g', c), some d => match yPlain d with
   | true => (c[k]?).map fun v => (v, some (g, g'))
   | false => match P.info? ty with
    | some inf => match Nat.ble (k + inf.size) c.size with
     | true => some (.agg (((c.toList.drop k).take inf.size).toArray), some (g, g'))
     | false => none
    | none => none
  | _, _, _ => none
 | _ => none
def wnV (ops : Array Oper) (V : Nat → Option Value) (o : Oper) : Option Bool := match o.guard with
 | none => some true
 | some (g, b) => match (ops[g]?).bind (·.dst) with
  | none => none
  | some d => match V d with
   | some (.bool c) => some (c == b)
   | some (.tuple vs) => match Nat.beq vs.size 0 with
    | true => some false
    | false => none
   | _ => none
theorem off_ok {P : Program} {s : TypeId} {f off : Nat} (h : offF P s f = some off) (w : World) (g k : Nat) : (Instr.fieldAt s (.pointer (some ⟨g, k, none⟩)) f).run P w = .ok (.pointer (some ⟨g, k + off, none⟩)) w := by
 unfold offF at h
 split at h
 ·rename_i fs hu
  split at h
  ·rename_i fd hf
   split at h
   ·rename_i inf hi
    split at h
    ·cases h
    ·rename_i hz
     cases h
     have hz' : ¬ inf.size = 0 := fun e => by rw [e] at hz; cases hz
     have hadd : (⟨g, k, none⟩ : Addr).add fd.offset = ⟨g, k + fd.offset, none⟩ := zua g k fd.offset
     simp [Instr.fieldAt, run_underlying hu, hf, Instr.sureAddr, fieldPlace, sizeOf, typeInfo, hi, hz', hadd, Result.andThen]
   ·cases h
  ·cases h
 ·cases h
theorem y_fa {P : Program} {a : Act} {w : World} {o : Oper} {s : TypeId} {x : Operand} {f : Nat} (ho : o.op = .fieldAddr s x f) {g k off k' : Nat} (hx : a.eval x = .pointer (some ⟨g, k, none⟩)) (hoff : offF P s f = some off) (hk : k + off = k') : (execOp a.eval o).run P w = .ok (.value (.pointer (some ⟨g, k', none⟩))) w := by
 subst hk
 unfold execOp
 simp only [ho, hx, Sem.run_bind, off_ok hoff, Result.andThen_ok, Sem.run_pure]
def mvV (V : Nat → Option Value) (n : Nat) (ops : Array Oper) (o : Oper) : Option (Nat × Value) := match o.dst with
 | some d => match Nat.blt d n with
  | true => match wnV ops V o with
   | some true => match o.op with
    | .move x => match evO V x with
     | some v => some (d, v)
     | none => none
    | .assign x => match evO V x with
     | some v => some (d, v)
     | none => none
    | _ => none
   | some false => some (d, undef)
   | none => none
  | false => none
 | none => none
def DAll (w : World) : List (Nat × Array Value) → Prop
 | [] => True
 | p :: L => (∃ t, w.heap[p.1]? = some (.cells p.2 t (0, 0))) ∧ DAll w L
theorem dnil {w : World} : DAll w [] := trivial
theorem z7a {w : World} {g : Nat} {c : Array Value} {t : TypeId} {L : List (Nat × Array Value)} (h : w.heap[g]? = some (.cells c t (0, 0))) (hL : DAll w L) : DAll w ((g, c) :: L) := ⟨⟨t, h⟩, hL⟩
theorem DAll.below {w w' : World} (h : Below w.heap.size w w') : ∀ {D : List (Nat × Array Value)}, DAll w D → DAll w' D
 | [], _ => trivial
 | p :: L, hD => ⟨hD.1.elim fun t ht => ⟨t, (h.block _ (Array.getElem?_eq_some_iff.1 ht).1).trans ht⟩, DAll.below h hD.2⟩
theorem DAll.at {w : World} : ∀ {D : List (Nat × Array Value)}, DAll w D → ∀ {i g : Nat} {c : Array Value}, D[i]? = some (g, c) → ∃ t, w.heap[g]? = some (.cells c t (0, 0))
 | [], _, i, g, c, h => by cases h
 | p :: L, hD, 0, g, c, h => by cases h; exact hD.1
 | p :: L, hD, i + 1, g, c, h => hD.2.at (i := i) (by simpa using h)
section
variable {n : Nat} {a : Act} {w : World} {V : Nat → Option Value} {D : List (Nat × Array Value)} {o : Oper}
theorem plV_ok (F : ∀ t v, V t = some v → a.eval (.tmp t) = v) (hD : DAll w D) {i : Nat} {v : Value} {e : Option (Nat × Nat)} (h : plV Tryz.prog V D o i = some (v, e)) (he : ∀ g g', e = some (g, g') → g = g') : (execOp a.eval o).run Tryz.prog w = .ok (.value v) w := by
 unfold plV at h
 split at h
 ·rename_i x ho
  cases hx : evO V x with
  | none => rw [hx] at h; cases h
  | some u => rw [hx] at h; cases h; exact zia x (.inl ho) (zub F hx)
 ·rename_i x ho
  cases hx : evO V x with
  | none => rw [hx] at h; cases h
  | some u => rw [hx] at h; cases h; exact zia x (.inr ho) (zub F hx)
 ·rename_i c x y ho
  split at h
  ·rename_i hc
   cases hx : evO V x with
   | none => rw [hx] at h; cases h
   | some u => rw [hx] at h; cases h; exact run_pick_t ho (zub F hc) (zub F hx)
  ·rename_i hc
   cases hx : evO V y with
   | none => rw [hx] at h; cases h
   | some u => rw [hx] at h; cases h; exact run_pick_f ho (zub F hc) (zub F hx)
  ·cases h
 ·rename_i x k ho
  split at h
  ·rename_i vs hx
   cases hv : vs[k]? with
   | none => rw [hv] at h; cases h
   | some u => rw [hv] at h; cases h; exact y_ext x k ho (zub F hx) hv
  ·cases h
 ·rename_i t x ho
  split at h
  ·rename_i b hx
   cases h; exact run_not t x ho (zub F hx)
  ·cases h
 ·rename_i b ty x y tz ho
  split at h
  ·rename_i k p k' q hx hy
   split at h
   ·rename_i ek hek
    subst ek
    split at h
    ·cases h; exact y_lss _ _ _ _ ho (zub F hx) (zub F hy) rfl
    ·cases h; exact y_leq _ _ _ _ ho (zub F hx) (zub F hy) rfl
    ·cases h; exact y_gtr _ _ _ _ ho (zub F hx) (zub F hy) rfl
    ·cases h; exact y_geq _ _ _ _ ho (zub F hx) (zub F hy) rfl
    ·split at h
     ·rename_i k2 hu
      split at h
      ·rename_i e2 _
       subst e2
       cases h; exact y_eqI _ _ _ _ ho (zub F hx) (zub F hy) hu rfl
      ·cases h
     ·cases h
    ·split at h
     ·rename_i k2 hu
      split at h
      ·rename_i e2 _
       subst e2
       cases h; exact y_neI _ _ _ _ ho (zub F hx) (zub F hy) hu rfl
      ·cases h
     ·cases h
    ·cases h
   ·cases h
  ·cases h
 ·rename_i x ho
  split at h
  ·rename_i p hx
   cases h
   unfold execOp
   simp only [ho, zub F hx]
   rfl
  ·cases h
 ·rename_i s x f ho
  split at h
  ·rename_i g k off hx hoff
   cases h
   unfold execOp
   simp only [ho, zub F hx, Sem.run_bind, off_ok hoff, Result.andThen_ok, Sem.run_pure]
  ·cases h
 ·rename_i ty x ho
  split at h
  ·rename_i g k g' c d hx hd hu
   split at h
   ·rename_i hp
    cases hv : c[k]? with
    | none => rw [hv] at h; cases h
    | some u =>
     rw [hv] at h
     cases h
     have eg := he _ _ rfl
     subst eg
     obtain ⟨t, hg⟩ := hD.at hd
     exact y_ld1 ty x ho (zub F hx) hg hv hu hp
   ·rename_i hp
    split at h
    ·rename_i inf hi
     split at h
     ·rename_i hle
      cases h
      have eg := he _ _ rfl
      subst eg
      obtain ⟨t, hg⟩ := hD.at hd
      have hle' : k + inf.size ≤ c.size := Nat.le_of_ble_eq_true hle
      refine zga ty x ho (zub F hx) hg _ (fun j u hj => ?_) hu hp (by rw [hi]; simp; omega)
      simp only [List.getElem?_toArray, List.getElem?_take, List.getElem?_drop, Array.getElem?_toList] at hj
      split at hj
      ·exact hj
      ·cases hj
     ·cases h
    ·cases h
  ·cases h
 ·cases h
variable {ops : Array Oper}
theorem wnV_ok (F : ∀ t v, V t = some v → a.eval (.tmp t) = v) {b : Bool} (h : wnV ops V o = some b) : Region.wanted o (yielded ops a.tmps) = b := by
 unfold wnV at h
 split at h
 ·rename_i hg
  cases h
  exact zc hg
 ·rename_i g c hg
  split at h
  ·cases h
  ·rename_i d hd
   cases ho : ops[g]? with
   | none => rw [ho] at hd; cases hd
   | some og =>
    rw [ho] at hd
    have hd : og.dst = some d := hd
    split at h
    ·rename_i x hx
     cases h
     exact wanted_by hg ho hd (F d _ hx)
    ·rename_i vs hx
     split at h
     ·rename_i hz
      cases h
      have e : vs = #[] := Array.eq_empty_of_size_eq_zero (Nat.eq_of_beq_eq_true hz)
      subst e
      exact wanted_un hg ho hd (F d _ hx)
     ·cases h
    ·cases h
theorem rm {Q : Exit → Act → World → Prop} {V : List (Nat × Value)} {rest : List Oper} {d : Nat} {v : Value} (h : mvV (look V) n ops o = some (d, v)) (F : Fx n a V ds) (hc : ∀ a', Fx n a' ((d, v) :: V) ds → wpList Tryz.prog ops Q rest a' w) : wpList Tryz.prog ops Q (o :: rest) a w := by
 unfold mvV at h
 split at h
 ·rename_i e hd
  split at h
  ·rename_i hn
   split at h
   ·rename_i hw
    split at h
    ·rename_i x ho
     split at h
     ·rename_i u hx
      cases h
      exact zh (wnV_ok F.at_ hw) hd F hn v (zia x (.inl ho) (zub F.at_ hx)) hc
     ·cases h
    ·rename_i x ho
     split at h
     ·rename_i u hx
      cases h
      exact zh (wnV_ok F.at_ hw) hd F hn v (zia x (.inr ho) (zub F.at_ hx)) hc
     ·cases h
    ·cases h
   ·rename_i hw
    cases h
    exact wl_skip (wnV_ok F.at_ hw) hd F hn hc
   ·cases h
  ·cases h
 ·cases h
end
def exV (P : Program) (n : Nat) (ops : Array Oper) (D : List (Nat × Array Value)) : List Oper → List Nat → List (Nat × Value) → Option (List (Nat × Value) × List (Nat × Nat))
 | [], _, V => some (V, [])
 | o :: r, Ls, V => match o.dst with
  | none => none
  | some d => match Nat.blt d n with
   | false => none
   | true => match wnV ops (look V) o with
    | some true => match plV P (look V) D o (Ls.headD 0) with
     | some (v, none) => exV P n ops D r Ls ((d, v) :: V)
     | some (v, some e) => match exV P n ops D r Ls.tail ((d, v) :: V) with
      | some (V2, E) => some (V2, e :: E)
      | none => none
     | none => none
    | some false => exV P n ops D r Ls ((d, undef) :: V)
    | none => none
section
variable {n : Nat} {w : World} {D : List (Nat × Array Value)} {ops : Array Oper} {Q : Exit → Act → World → Prop}
theorem exV_ok (hD : DAll w D) : ∀ (l : List Oper) (Ls : List Nat) (V V2 : List (Nat × Value)) (E : List (Nat × Nat)) (rest : List Oper) (a : Act), exV Tryz.prog n ops D l Ls V = some (V2, E) → (∀ p ∈ E, p.1 = p.2) → Fx n a V ds →
  (∀ a', Fx n a' V2 ds → wpList Tryz.prog ops Q rest a' w) → wpList Tryz.prog ops Q (l ++ rest) a w
 | [], _, V, V2, E, rest, a, h, _, F, hc => by cases h; exact hc a F
 | o :: r, Ls, V, V2, E, rest, a, h, he, F, hc => by
  unfold exV at h
  split at h
  ·cases h
  ·rename_i d hd
   split at h
   ·cases h
   ·rename_i hn
    split at h
    ·rename_i hw
     split at h
     ·rename_i v hv
      exact zh (wnV_ok F.at_ hw) hd F hn v (plV_ok F.at_ hD hv (fun _ _ e => by cases e)) fun a' F' => exV_ok hD r Ls _ V2 E rest a' h he F' hc
     ·rename_i v e hv
      split at h
      ·rename_i V3 E3 h3
       cases h
       refine zh (wnV_ok F.at_ hw) hd F hn v (plV_ok F.at_ hD hv (fun g g' eq => ?_)) fun a' F' => exV_ok hD r Ls.tail _ _ E3 rest a' h3 (fun p hp => he p (List.mem_cons_of_mem _ hp)) F' hc
       cases eq
       exact he _ List.mem_cons_self
      ·cases h
     ·cases h
    ·rename_i hw
     exact wl_skip (wnV_ok F.at_ hw) hd F hn fun a' F' => exV_ok hD r Ls _ V2 E rest a' h he F' hc
    ·cases h
theorem exS {V : List (Nat × Value)} {rest : List Oper} {a : Act} (k : Nat) (V' : List (Nat × Value)) (Ls : List Nat) (hD : DAll w D) (gs : List Nat) (F : Fx n a V ds)
  (h : (exV Tryz.prog n ops D (rest.take k) Ls V).map (fun r => (r.2.map (·.1), r.2.map (·.2), V'.map fun p => look r.1 p.1)) = some (gs, gs, V'.map fun p => some p.2)) (hc : ∀ a', Fx n a' V' ds → wpList Tryz.prog ops Q (rest.drop k) a' w) : wpList Tryz.prog ops Q rest a w := by
 cases he : exV Tryz.prog n ops D (rest.take k) Ls V with
 | none => rw [he] at h; cases h
 | some r =>
  obtain ⟨V2, E⟩ := r
  rw [he] at h
  simp only [Option.map_some, Option.some.injEq, Prod.mk.injEq] at h
  obtain ⟨h1, h2, h3⟩ := h
  rw [← List.take_append_drop k rest]
  refine exV_ok hD _ Ls V V2 E _ a he ?_ F fun a' F' => hc a' ⟨F'.size, F'.defers, fun t v hv => ?_⟩
  ·intro p hp
   obtain ⟨i, hi⟩ := List.getElem?_of_mem hp
   have e1 : (E.map (·.1))[i]? = (E.map (·.2))[i]? := by rw [h1, h2]
   simpa [hi] using e1
  ·have key : ∀ L : List (Nat × Value), (L.map fun p => look V2 p.1) = (L.map fun p => some p.2) → ∀ t v, look L t = some v → look V2 t = some v := by
    intro L
    induction L with
    | nil => intro _ t v h; cases h
    | cons p L ih =>
     intro hL t v h
     simp only [List.map_cons, List.cons.injEq] at hL
     obtain ⟨p1, p2⟩ := p
     rw [zza] at h
     split at h
     ·rename_i e
      cases h; subst e; exact hL.1
     ·exact ih hL.2 t v h
   exact F'.at_ t v (key V' h3 t v hv)
theorem exA {V : List (Nat × Value)} {rest : List Oper} {a : Act} (k : Nat) (N : List (Nat × Value)) (Ls : List Nat) (hD : DAll w D) (gs : List Nat) (F : Fx n a V ds)
  (h : (exV Tryz.prog n ops D (rest.take k) Ls V).map (fun r => (r.2.map (·.1), r.2.map (·.2), N.map fun p => look r.1 p.1)) = some (gs, gs, N.map fun p => some p.2))
  (hw : ((rest.take k).all fun o => match o.dst with
   | some d => (look N d).isSome || (look V d).isNone
   | none => false) = true) (hc : ∀ a', Fx n a' (N ++ V) ds → wpList Tryz.prog ops Q (rest.drop k) a' w) : wpList Tryz.prog ops Q rest a w := by
 cases he : exV Tryz.prog n ops D (rest.take k) Ls V with
 | none => rw [he] at h; cases h
 | some r =>
  obtain ⟨V2, E⟩ := r
  rw [he] at h
  simp only [Option.map_some, Option.some.injEq, Prod.mk.injEq] at h
  obtain ⟨h1, h2, h3⟩ := h
  rw [← List.take_append_drop k rest]
  have hold : ∀ (l : List Oper) (Ls : List Nat) (V V2 : List (Nat × Value)) (E : List (Nat × Nat)), exV Tryz.prog n ops D l Ls V = some (V2, E) → ∀ t, (∀ o ∈ l, o.dst ≠ some t) → look V2 t = look V t := by
   intro l
   induction l with
   | nil => intro Ls V V2 E h t _; cases h; rfl
   | cons o r ih =>
    intro Ls V V2 E h t ht
    have hr := fun o' ho' => ht o' (List.mem_cons_of_mem _ ho')
    have ho := ht o List.mem_cons_self
    unfold exV at h
    split at h
    ·cases h
    ·rename_i d hd
     have hdt : ¬ d = t := fun e => ho (by rw [hd, e])
     have step : ∀ v, look ((d, v) :: V) t = look V t := fun v => by rw [zza, if_neg hdt]
     split at h
     ·cases h
     ·split at h
      ·split at h
       ·exact (ih _ _ _ _ h t hr).trans (step _)
       ·split at h
        ·rename_i V3 E3 h3
         cases h
         exact (ih _ _ _ _ h3 t hr).trans (step _)
        ·cases h
       ·cases h
      ·exact (ih _ _ _ _ h t hr).trans (step _)
      ·cases h
  refine exV_ok hD _ Ls V V2 E _ a he ?_ F fun a' F' => hc a' ⟨F'.size, F'.defers, fun t v hv => ?_⟩
  ·intro p hp
   obtain ⟨i, hi⟩ := List.getElem?_of_mem hp
   have e1 : (E.map (·.1))[i]? = (E.map (·.2))[i]? := by rw [h1, h2]
   simpa [hi] using e1
  ·have key : ∀ L : List (Nat × Value), (L.map fun p => look V2 p.1) = (L.map fun p => some p.2) → ∀ t v, look (L ++ V) t = some v → look V2 t = some v ∨ (look L t = none ∧ look V t = some v) := by
    intro L
    induction L with
    | nil => intro _ t v h; exact .inr ⟨rfl, h⟩
    | cons p L ih =>
     intro hL t v h
     simp only [List.map_cons, List.cons.injEq] at hL
     obtain ⟨p1, p2⟩ := p
     rw [List.cons_append, zza] at h
     rw [zza]
     split at h
     ·rename_i e
      cases h; subst e; exact .inl hL.1
     ·rename_i e
      rcases ih hL.2 t v h with h | h
      ·exact .inl h
      ·exact .inr ⟨by rw [if_neg e]; exact h.1, h.2⟩
   refine F'.at_ t v ?_
   rcases key N h3 t v hv with h | ⟨hn, hV⟩
   ·exact h
   ·rw [hold _ Ls V V2 E he t fun o ho e => ?_]
    ·exact hV
    ·have := List.all_eq_true.1 hw o ho
     rw [e] at this
     simp only [hn, hV] at this
     cases this
theorem zB {V : List (Nat × Value)} {rest : List Oper} {a : Act} (k : Nat) (V' : List (Nat × Value)) (Ls : List Nat) (hD : DAll w D) (gs : List Nat) (F : Fx n a V ds) (hc : ∀ a', Fx n a' V' ds → wpList Tryz.prog ops Q (rest.drop k) a' w)
    (h : (exV Tryz.prog n ops D (rest.take k) Ls V).map (fun r => (r.2.map (·.1), r.2.map (·.2), V'.map fun p => look r.1 p.1)) = some (gs, gs, V'.map fun p => some p.2) := by kernel_rfl) : wpList Tryz.prog ops Q rest a w := exS k V' Ls hD gs F h hc
theorem zAx {V : List (Nat × Value)} {rest : List Oper} {a : Act} (k : Nat) (N : List (Nat × Value)) (Ls : List Nat) (hD : DAll w D) (gs : List Nat) (F : Fx n a V ds) (hc : ∀ a', Fx n a' (N ++ V) ds → wpList Tryz.prog ops Q (rest.drop k) a' w)
    (h : (exV Tryz.prog n ops D (rest.take k) Ls V).map (fun r => (r.2.map (·.1), r.2.map (·.2), N.map fun p => look r.1 p.1)) = some (gs, gs, N.map fun p => some p.2) := by kernel_rfl)
    (hw : ((rest.take k).all fun o => match o.dst with
      | some d => (look N d).isSome || (look V d).isNone
      | none => false) = true := by kernel_rfl) : wpList Tryz.prog ops Q rest a w := exA k N Ls hD gs F h hw hc
end
def toK : Value ⊕ StK → StK
 | .inl v => StK.eq v
 | .inr s => s
def SK (l : List (Value ⊕ StK)) : List StK := l.map toK
def lkE (Vs : List (Value ⊕ StK)) (j : Nat) : Option Value := match Vs[j]? with
 | some (.inl v) => some v
 | _ => none
theorem lkE_ok {Vs : List (Value ⊕ StK)} {j : Nat} {v : Value} (h : lkE Vs j = some v) (w : World) (x : Value) : stYK (SK Vs) j w x ↔ x = v := by
 unfold lkE at h
 split at h
 ·rename_i u hu
  cases h
  unfold stYK SK
  rw [List.getElem?_map, hu]
  exact Iff.rfl
 ·cases h
def lkT (L : List Oper) (m : Nat) (Vs : List (Value ⊕ StK)) (V : List (Nat × Value)) (o : Oper) (t : Nat) : Option Value := match (o.looksAt L.toArray).contains t with
 | true => match zob (L.take m) t with
  | some j => lkE Vs j
  | none => look V t
 | false => none
def stV (P : Program) (ops : Array Oper) (lk : Nat → Option Value) (D : List (Nat × Array Value)) (o : Oper) (i : Nat) : Option (Value × Option (Nat × Nat)) := match wnV ops lk o with
 | some true => plV P lk D o i
 | some false => some (undef, none)
 | none => none
theorem hopP {L : List Oper} {m : Nat} {Q : Exit → Act → World → Prop} {Vs : List (Value ⊕ StK)} {V : List (Nat × Value)} {n : Nat} {a0 : Act} {W : World} {k : Nat} {o : Oper} {D : List (Nat × Array Value)} (F : Fx n a0 V ds) (hD : DAll W D) (i : Nat) (gs : Option Nat)
  (h : (stV Tryz.prog L.toArray (lkT L m Vs V o) D o i).map (fun r => (some r.1, r.2.map (·.1), r.2.map (·.2))) = some (lkE Vs k, gs, gs)) : HopT Tryz.prog L m Q (stYK (SK Vs)) a0 W k o := by
 intro a w hb hd
 have hlk : ∀ t v, lkT L m Vs V o t = some v → a.eval (.tmp t) = v := by
  intro t v ht
  unfold lkT at ht
  split at ht
  ·rename_i hc
   have hs := hd t (by simpa using hc)
   unfold SlotOk at hs
   split at ht
   ·rename_i j hj
    rw [hj] at hs
    exact (lkE_ok ht w _).1 hs
   ·rename_i hj
    rw [hj] at hs
    exact (show a.eval (.tmp t) = a0.eval (.tmp t) from hs).trans (F.at_ t v ht)
  ·cases ht
 cases hst : stV Tryz.prog L.toArray (lkT L m Vs V o) D o i with
 | none => rw [hst] at h; cases h
 | some r =>
  obtain ⟨v, e⟩ := r
  rw [hst] at h
  simp only [Option.map_some, Option.some.injEq, Prod.mk.injEq] at h
  obtain ⟨hv, h1, h2⟩ := h
  have hF : ∀ w', stYK (SK Vs) k w' v := fun w' => (lkE_ok hv.symm w' v).2 rfl
  unfold stV at hst
  split at hst
  ·rename_i hw
   have hw' := wnV_ok hlk hw
   refine zaa (F := stYK (SK Vs) k) hw' v (plV_ok hlk (hD.below hb) hst fun g g' eq => ?_) (hF w)
   subst eq
   rw [← h2] at h1
   exact Option.some.inj h1
  ·rename_i hw
   cases hst
   rw [wnV_ok hlk hw]
   exact hF w
  ·cases hst
theorem hop0 {L : List Oper} {m : Nat} {Q : Exit → Act → World → Prop} {Vs : List (Value ⊕ StK)} {V : List (Nat × Value)} {n : Nat} {a0 : Act} {W : World} {k : Nat} {o : Oper} (F : Fx n a0 V ds)
  (h : (stV Tryz.prog L.toArray (lkT L m Vs V o) [] o 0).map (fun r => (some r.1, r.2.map (·.1), r.2.map (·.2))) = some (lkE Vs k, none, none)) : HopT Tryz.prog L m Q (stYK (SK Vs)) a0 W k o := hopP F (D := []) dnil 0 none h
end Go.Proofs.YtcfepoopkfhojaaGreat
namespace Go.Proofs.YtcfepoopkfhojaaGreat
open Go.ChangeShapes Go.WideShapes Go.ChangeAt Go.RowKit Go.Shelf
variable {ds : List Deferred}
def noDefer (L : List Oper) : Bool := L.all fun o => match o.op with
 | .defer _ => false
 | _ => true
theorem noDefer_at {L : List Oper} (h : noDefer L = true) : ∀ o ∈ L, ∀ c, o.op ≠ .defer c := fun o ho c e => by
 have := List.all_eq_true.1 h o ho
 simp [e] at this
abbrev wideR (r : Option Nat) : Fence := { Fence.wide with round := r }
section
variable {P : Program} {r : Option Nat} {n : Nat} {ops : Array Oper} {Q : Exit → Act → World → Prop} {a : Act} {w : World} {o : Oper} {K : Act → World → Prop}
theorem rows_wide {row : String} {args : Array Value} {R : Value → World → Prop} (h : Rows P row args w R) : RowsIn (wideR r) n P row args w R :=
 fun c cs _ => let ⟨v, w', q, s⟩ := h c cs; ⟨v, w', q, stepsIn_wide.2 s⟩
theorem upon_in : ∀ x : Result Next, o.upon P a K Q x → o.uponIn (wideR r) n P a K Q x := by
 intro x h
 cases x with
 | ok x w' =>
  cases x with
  | value v => exact h
  | skip => exact h
  | defer d => exact h
  | enter f args => exact ⟨fun e => Bool.noConfusion e, (show CallsIn Fence.wide (n - 1) P _ _ _ _ from callsIn_wide.2 h).mono fun e w2 q => by cases e <;> exact q⟩
  | row row args => exact ⟨fun e => Bool.noConfusion e, rows_wide h⟩
  | _ => exact False.elim h
 | halt x w' =>
  cases x with
  | panic v => exact h
  | _ => exact False.elim h
theorem op_in (hd : ∀ c, o.op ≠ .defer c) (h : o.wp P a w K Q) : o.wpIn (wideR r) n P a w K Q := by
 refine ⟨fun _ _ => trivial, ?_⟩
 rw [Oper.semAt_eq _ _ _ hd]
 exact upon_in _ h
theorem list_in (hQ : ¬ LetsOut Q) : ∀ (l : List Oper), (∀ o ∈ l, ∀ c, o.op ≠ .defer c) → ∀ (a : Act) (w : World), wpList P ops Q l a w → wpListIn (wideR r) n P ops Q l a w
 | [], _, _, _, h => h
 | o :: l, hl, a, w, h => by
  unfold wpList at h
  unfold wpListIn
  by_cases hw : Region.wanted o (yielded ops a.tmps) = true
  ·rw [if_pos hw] at h ⊢
   rcases h with h | h
   ·exact Oper.wpIn_mono (fun a w h => list_in hQ l (fun o ho => hl o (List.mem_cons_of_mem _ ho)) a w h) (op_in (hl o List.mem_cons_self) h)
   ·exact absurd h.2 hQ
  ·rw [if_neg hw] at h ⊢
   exact ⟨fun _ _ => trivial, list_in hQ l (fun o ho => hl o (List.mem_cons_of_mem _ ho)) _ w h⟩
end
section
variable {P : Program} {l n' : Nat} {Q : Exit → Act → World → Prop} {a : Act} {w : World} {L : List Oper} {id : Nat}
theorem wpIn_lit' (hQ : ¬ LetsOut Q) (hnd : noDefer L = true) (h : wpList P L.toArray Q L a w) : (Code.region id L.toArray false).wpIn (Fence.wide.inRound l) n' P Q a w :=
 wpIn_region_lit (list_in (r := some l) hQ L (noDefer_at hnd) a w h)
end
/-! What is no cells. -/
def othR (W0 : World) : Res := ⟨false, fun g => ∃ o, W0.heap[g]? = some o ∧ o.isCells = false, fun w => KeepsOthers W0 w⟩
theorem othR_dep {W0 : World} : ∀ u u', Same (othR W0).fp u u' → (othR W0).F u → (othR W0).F u' := fun u u' hs h =>
 ⟨Nat.le_trans h.size hs.size, fun k o hk ho => hs k o ⟨o, hk, ho⟩ (h.same k o hk ho)⟩
def CellsF (w : World) (r : Res) : Prop := ∀ g, r.fp g → ∃ o, w.heap[g]? = some o ∧ o.isCells = true
def CellsA (w : World) : List (Nat × Res) → Prop
 | [] => True
 | p :: L => CellsF w p.2 ∧ CellsA w L
theorem CellsA.at {w : World} : ∀ {R : List (Nat × Res)} {i : Nat} {r : Res}, CellsA w R → look R i = some r → CellsF w r
 | [], _, _, _, h => by cases h
 | p :: L, i, r, h, e => by
  obtain ⟨k, x⟩ := p
  rw [zza] at e
  split at e
  ·cases e; exact h.1
  ·exact h.2.at e
section
variable {G : Option Nat} {w0 w : World} {R : List (Nat × Res)}
theorem Mx.oth (M : Mx G w0 w R) (h : CellsA w R) (i : Nat) : Mx G w0 w ((i, othR w) :: R) :=
 M.cons i _ (KeepsOthers.refl w) othR_dep (fun g ⟨o, hg, _⟩ => (Array.getElem?_eq_some_iff.1 hg).1) (fun e => by cases e) fun k s e _ _ g ⟨o, hg, ho⟩ hs => by
  obtain ⟨o', h1, h2⟩ := h.at e g hs
  rw [hg] at h1; cases h1; rw [ho] at h2; cases h2
theorem Mx.keeps (M : Mx G w0 w R) {i : Nat} {W : World} (h : look R i = some (othR W)) : KeepsOthers W w := M.at_ i _ h
theorem Mx.putObj (M : Mx G w0 w R) (h : CellsA w R) {l : Nat} (hl : w0.heap.size ≤ l) (hnc : NotCells w l) (o : Obj) : Mx G w0 (w.putObj l o) R := by
 have hg := grownBy_putObj' w l o
 have hr : ∀ g, (∃ o', w.heap[g]? = some o' ∧ o'.isCells = true) → g ≠ l := fun g ⟨o', h1, h2⟩ e => by
  subst e
  rw [hnc o' h1] at h2; cases h2
 refine ⟨⟨hg.os.trans M.grown.os, hg.tape.trans M.grown.tape, hg.output.trans M.grown.output, Nat.le_trans M.grown.size hg.size, fun k hk hn => ?_⟩, fun i r e => ?_, M.dep, fun i r e g hgp => Nat.lt_of_lt_of_le (M.lt i r e g hgp) hg.size, M.own, M.dis⟩
 ·exact (World.putObj_heap_other (by omega)).trans (M.grown.block k hk hn)
 ·exact M.dep i r e w _ (Same.of_grown hg fun g hgp e2 => hr g (h.at e g hgp) (Option.some.inj e2).symm) (M.at_ i r e)
end
theorem cell_cells {w : World} {g k : Nat} {v : Value} (h : w.cell? ⟨g, k, none⟩ = some v) : ∃ o, w.heap[g]? = some o ∧ o.isCells = true := by
 unfold World.cell? at h
 cases ho : w.heap[g]? with
 | none => rw [ho] at h; cases h
 | some o => cases o <;> first | exact ⟨_, rfl, rfl⟩ | (rw [ho] at h; cases h)
theorem zna {w : World} {g : Nat} {t : TypeId} {c : Array Value} (h : w.heap[g]? = some (.cells c t (0, 0))) : CellsF w (blkR g t c) := fun b hb => by cases hb; exact ⟨_, h, rfl⟩
theorem z9a {w : World} {l : List UInt8} {v : Value} (h : IsB w l v) : CellsF w (bytR l v) := fun g hg => by
 obtain ⟨A, c, rfl, h1, h2, h3, h4⟩ := h
 obtain ⟨o, s, n, c', e, hn⟩ := hg
 injection e with e1 e2 e3
 subst e1 e2
 obtain ⟨b, o', e4, hb, hc⟩ := h4.at hn
 injection e4 with e4
 injection e4 with e5 e6 e7
 subst e5
 obtain ⟨x, hx⟩ : ∃ x, l[0]? = some x := ⟨_, List.getElem?_eq_getElem hn⟩
 exact cell_cells (hc 0 x hx)
section
variable {P : Program} {ops : Array Oper} {Q : Exit → Act → World → Prop} {a : Act} {w w' : World} {rest : List Oper} {o : Oper} {n m : Nat} {V : List (Nat × Value)} {r : Option Nat}
theorem wi_run (hnd : ∀ c, o.op ≠ .defer c) (hw : Region.wanted o (yielded ops a.tmps) = true) {d : Nat} (hd : o.dst = some d) (F : Fx n a V ds) (hn : Nat.blt d n = true) (v : Value) (hr : (execOp a.eval o).run P w = .ok (.value v) w')
  (h : ∀ a', Fx n a' ((d, v) :: V) ds → wpListIn (wideR r) m P ops Q rest a' w') : wpListIn (wideR r) m P ops Q (o :: rest) a w := by
 unfold wpListIn
 rw [if_pos hw]
 refine op_in hnd ?_
 unfold Oper.wp
 rw [hr]
 have := F.put d v hn
 rw [← hd] at this
 exact h _ this
theorem calls_fxM {f : FuncId} {fn : Func} {c : Code} {args : List Value} {w : World} {R : Ending → World → Prop} (n : Nat) (hf : P.funcs[f]? = some fn) (hb : fn.body = some c) (hn : fn.ntmps = n) (hl : Nat.ble args.length n = true)
  (h : ∀ a, Fx n a (file 0 args) → c.wp P (bodyPostM Fence.wide 3 P fn R) a w) : Calls P f args.toArray w R := by
 have hl' : args.length ≤ n := Nat.le_of_ble_eq_true hl
 refine (callsIn_wide (n := 3)).1 (callsIn_of_wp_marks hf hb trivial (wpIn_wide.2 (h _ ?_)) rfl)
 refine Fx.zero _ (by simp [hn]; omega) fun t v e => ?_
 have := (look_file args 0 t v e).2
 simpa using this
theorem bodyM_ret1 {fn : Func} {R : Ending → World → Prop} {a : Act} {v : Value} {D : Nat} (hd : a.defers = [{ target := .collected D, args := #[] }]) (hD : w.heap[D]? = some (.deferred (some [])))
  (hr : (results fn a.tmps).run P (w.putObj D (.deferred none)) = .ok v (w.putObj D (.deferred none))) (hR : R (.returned v) (w.putObj D (.deferred none))) : bodyPostM Fence.wide 3 P fn R .ret a w := by
 show LeavesInM _ _ _ _ _ _ a.defers _ _
 rw [hd]
 exact ⟨by simp, .inl ⟨_, _, rfl, run_takeDeferred hD, ⟨v, hr, hR⟩⟩⟩
end
theorem one_slc {v : Value} {A : Option Addr} {n c : Nat} (h : v = .slice A n c) : (#[v]).all (·.oneCell') = true := by subst h; simp [Value.oneCell']
def objR (D : Nat) (o : Obj) : Res := ⟨false, fun g => g = D, fun w => w.heap[D]? = some o⟩
theorem Mx.obj {G : Option Nat} {w0 w : World} {R : List (Nat × Res)} (M : Mx G w0 w R) (h : CellsA w R) (i D : Nat) (o : Obj) (hD : w.heap[D]? = some o) (ho : o.isCells = false) : Mx G w0 w ((i, objR D o) :: R) :=
 M.cons i _ hD (fun u u' hs h => hs D o rfl h) (fun g hg => by cases hg; exact (Array.getElem?_eq_some_iff.1 hD).1) (fun e => by cases e) fun k s e _ _ g hg hs => by
  cases hg
  obtain ⟨o', h1, h2⟩ := h.at e D hs
  rw [hD] at h1; cases h1; rw [ho] at h2; cases h2
theorem Mx.anObj {G : Option Nat} {w0 w : World} {R : List (Nat × Res)} (M : Mx G w0 w R) {i D : Nat} {o : Obj} (h : look R i = some (objR D o)) : w.heap[D]? = some o := M.at_ i _ h
theorem RecAt.below {l D : Nat} {o1 o2 : Obj} {W W' : World} (h : RecAt l D o1 o2 W) (hb : Below W.heap.size W W') : RecAt l D o1 o2 W' :=
 ⟨(hb.block l (Array.getElem?_eq_some_iff.1 h.1).1).trans h.1, (hb.block D (Array.getElem?_eq_some_iff.1 h.2.1).1).trans h.2.1, h.2.2⟩
end Go.Proofs.YtcfepoopkfhojaaGreat
namespace Go.Proofs.YtcfepoopkfhojaaGreat
open Go.ChangeShapes Go.WideShapes Go.ChangeAt Go.RowKit Go.Shelf
variable {ds : List Deferred}
theorem Fx.fresh {n : Nat} {a : Act} {V : List (Nat × Value)} (F : Fx n a V ds) (ds' : List Deferred) : Fx n { a with defers := ds' } V ds' := ⟨F.size, rfl, F.at_⟩
end Go.Proofs.YtcfepoopkfhojaaGreat
namespace Go.Proofs.YtcfepoopkfhojaaGreat
open Go.ChangeShapes Go.WideShapes Go.ChangeAt Go.RowKit Go.Shelf
section
variable {a : Act} {w : World} {o : Oper} {p q z : Int} (ty tz : TypeId) (x y : Operand)
theorem y_quoI (ho : o.op = .binOp .quo ty x y tz) (hx : a.eval x = .int .i64 p) (hy : a.eval y = .int .i64 q) (hp : 0 ≤ p ∧ p < 9223372036854775808) (hq : 0 < q) (hz : p / q = z) : (execOp a.eval o).run Tryz.prog w = .ok (.value (.int .i64 z)) w := by
 have e1 : p.tdiv q = z := by rw [Int.tdiv_eq_ediv_of_nonneg hp.1]; exact hz
 have h0 : q ≠ 0 := by omega
 have h2 : 0 ≤ z ∧ z ≤ p := by subst hz; exact ⟨Int.ediv_nonneg hp.1 (by omega), Int.ediv_le_self _ hp.1⟩
 unfold execOp; simp only [ho, hx, hy]; simp [go_sem, h0, e1, Go.IntWalk.i64_in z (by omega)]
theorem y_remI (ho : o.op = .binOp .rem ty x y tz) (hx : a.eval x = .int .i64 p) (hy : a.eval y = .int .i64 q) (hp : 0 ≤ p) (hq : 0 < q ∧ q < 9223372036854775808) (hz : p % q = z) : (execOp a.eval o).run Tryz.prog w = .ok (.value (.int .i64 z)) w := by
 have e1 : p.tmod q = z := by rw [Int.tmod_eq_emod_of_nonneg hp]; exact hz
 have h0 : q ≠ 0 := by omega
 have h2 : 0 ≤ z ∧ z < q := by subst hz; exact ⟨Int.emod_nonneg _ h0, Int.emod_lt_of_pos _ hq.1⟩
 unfold execOp; simp only [ho, hx, hy]; simp [go_sem, h0, e1, Go.IntWalk.i64_in z (by omega)]
theorem y_cvI {k k2 : IntKind} (s d : TypeId) (ho : o.op = .convert s d x) (hx : a.eval x = .int k p) (hs : Tryz.prog.underlying s = some (.int k)) (hd : Tryz.prog.underlying d = some (.int k2)) (hz : k2.wrap p = z) : (execOp a.eval o).run Tryz.prog w = .ok (.value (.int k2 z)) w := by
 subst hz
 refine run_cv' s d x ho hx ?_
 simp [convert, run_underlying hs, run_underlying hd, go_sem]
theorem y_shrI {k kq : IntKind} (ho : o.op = .binOp .shr ty x y tz) (hx : a.eval x = .int k p) (hy : a.eval y = .int kq q) (hq : 0 ≤ q ∧ q ≤ k.bits) (hz : p / 2 ^ q.toNat = z) : (execOp a.eval o).run Tryz.prog w = .ok (.value (.int k z)) w := by
 subst hz
 unfold execOp; simp only [ho, hx, hy]; simp [go_sem, Go.shift_shr k kq p q hq.1 hq.2]
theorem y_andU {k : IntKind} (ho : o.op = .binOp .and ty x y tz) (hx : a.eval x = .int k p) (hy : a.eval y = .int k q) (hz : bits .and k p q = z) : (execOp a.eval o).run Tryz.prog w = .ok (.value (.int k z)) w := by
 subst hz
 unfold execOp; simp only [ho, hx, hy]; simp [go_sem]
theorem y_ixA (t : TypeId) {N : Nat} (hN : Tryz.prog.arrayLen t = N) (he : Tryz.prog.underlying t = some (.array (Tryz.prog.arrayLen t) (Tryz.prog.elem t))) (h1 : (Tryz.prog.info? (Tryz.prog.elem t)).map (·.size) = some 1) (ho : o.op = .indexAddr t x y) {b i j c : Nat} (hx : a.eval x = .pointer (some ⟨b, c, none⟩)) (hy : a.eval y = .int .i64 z) (hz : z = (i : Int)) (hi : i < N) (hj : c + i = j) : (execOp a.eval o).run Tryz.prog w = .ok (.value (.pointer (some ⟨b, j, none⟩))) w := by
 subst hz hN hj
 have hs : (sizeOf (Tryz.prog.elem t)).run Tryz.prog w = .ok 1 w := by
  cases hq : Tryz.prog.info? (Tryz.prog.elem t) with
  | none => simp [hq] at h1
  | some inf => simp [sizeOf, typeInfo, hq]; simpa [hq] using h1
 have h5 : (i : Int) < (Tryz.prog.arrayLen t : Int) := by omega
 have hrun : (Instr.indexAt t (.pointer (some ⟨b, c, none⟩)) (.int .i64 (i : Int))).run Tryz.prog w = .ok (.pointer (some ⟨b, c + i, none⟩)) w := by
  rw [run_indexAt_array (h := he), if_pos ⟨by omega, h5⟩, hs]
  simp only [Result.andThen_ok, Nat.mul_one, Int.toNat_natCast, zua]
 unfold execOp
 simp only [ho, hx, hy, Sem.run_bind, hrun, Result.andThen_ok, Sem.run_pure]
end
variable {ds : List Deferred}
theorem IsB.shape {w : World} {l : List UInt8} {v : Value} (h : IsB w l v) : ∃ A c, v = .slice A l.length c := by
 obtain ⟨A, c, e, _⟩ := h
 exact ⟨A, c, e⟩
theorem IsB.cap {w : World} {l : List UInt8} {A : Option Addr} {n c : Nat} (h : IsB w l (.slice A n c)) : l.length ≤ c ∧ c ≤ maxLen ∧ (A = none → c = 0) ∧ Rd w A l ∧ n = l.length := by
 obtain ⟨A', c', e, h1, h2, h3, h4⟩ := h
 injection e with e1 e2 e3
 subst e1 e2 e3
 exact ⟨h1, h2, h3, h4, rfl⟩
section
variable {G : Option Nat} {w0 w w' : World} {R : List (Nat × Res)} {l r : List UInt8} {v u : Value} {i k : Nat} {a : Act} {o : Oper}
end
section
variable {a : Act} {w : World} {o : Oper} {s : ByteArray} {z : Int}
theorem y_nilB (x : Operand) (tz : TypeId) (ho : o.op = .binOp .eql 22 x (.const (zN)) tz) {A : Option Addr} {n c : Nat} (hx : a.eval x = .slice A n c) {b : Bool} (hb : A.isNone = b) : (execOp a.eval o).run Tryz.prog w = .ok (.value (.bool b)) w := by
 subst hb
 have h1 : (binOp .eql 22 (.slice A n c) (zN)).run Tryz.prog w = .ok (.bool A.isNone) w := by
  simp only [binOp]
  simp [run_equal_slice_nil w _ _ _ _ _ Tryz.underlying22]
 unfold execOp
 simp only [ho, hx, Sem.run_bind]
 rw [show a.eval (.const (zN)) = zN from rfl]
 have h2 : (eqGuard .eql 22 x (.const (zN)) (.slice A n c) (zN)).run Tryz.prog w = .ok () w := by
  have hgt : Tryz.prog.eqGuardType Tryz.prog.depth 22 = false := by kernel_rfl
  simp [eqGuard, go_sem, hgt]
 rw [h2]
 simp only [Result.andThen_ok, h1]
 rfl
end
section
variable {P : Program} {ops : Array Oper} {Q : Exit → Act → World → Prop} {a : Act} {w w0 : World} {rest : List Oper} {o : Oper} {n : Nat} {G : Option Nat} {V : List (Nat × Value)}
theorem z6a (hw : Region.wanted o (yielded ops a.tmps) = true) {d : Nat} (hd : o.dst = some d) (F : Fx n a V ds) (hn : Nat.blt d n = true) {Rf : Value → List (Nat × Res)} (hr : ∃ v w', (execOp a.eval o).run P w = .ok (.value v) w' ∧ Mx G w0 w' (Rf v))
  (h : ∀ v a' w', Fx n a' ((d, v) :: V) ds → Mx G w0 w' (Rf v) → wpList P ops Q rest a' w') : wpList P ops Q (o :: rest) a w := by
 obtain ⟨v, w', h1, h2⟩ := hr
 exact zh hw hd F hn v h1 fun a' F' => h v a' w' F' h2
end
section
variable {G : Option Nat} {w0 w : World} {R : List (Nat × Res)} {a : Act} {o : Oper}
def bytN (N : Nat) (l : List UInt8) (v : Value) : Res := ⟨false, bfp v, fun w => IsB w l v ∧ ∀ g, bfp v g → N ≤ g⟩
theorem Mx.frN (M : Mx G w0 w R) {k N : Nat} {l : List UInt8} {v : Value} (h : look R k = some (bytN N l v)) : ∀ g, bfp v g → N ≤ g := (M.at_ k _ h).2
theorem Mx.unN (M : Mx G w0 w R) {k N : Nat} {l : List UInt8} {v : Value} (h : look R k = some (bytN N l v)) : Mx G w0 w ((k, bytR l v) :: R) :=
 M.cons k _ (M.at_ k _ h).1 bytR_dep (fun g hg => M.lt k _ h g hg) (fun e => by cases e) fun j s e hj hh g hg hg2 => by
  rcases hh with hh | hh
  ·cases hh
  ·exact M.dis j k s _ e h (fun e2 => hj e2.symm) hh g hg2 hg
def sBy (s : ByteArray) : List UInt8 := s.data.toList
theorem sBy_len (s : ByteArray) : (sBy s).length = s.size := by unfold sBy; rw [Array.length_toList]; rfl
theorem run_cvSm (M : Mx G w0 w R) (i : Nat) (x : Operand) (ho : o.op = .convert 9 22 x) {s : ByteArray} (hx : a.eval x = .string s) (hs : s.size ≤ maxLen) :
  ∃ v w', (execOp a.eval o).run Tryz.prog w = .ok (.value v) w' ∧ Mx G w0 w' ((i, bytN w0.heap.size (sBy s) v) :: R) := by
 have hc := grownCap_ge w s.size 0 5
 have hm := grownCap_le_maxLen w s.size 0 5 hs
 obtain ⟨w', hw'⟩ : ∃ w', w' = w.drew.alloc (.cells (bytesRow s (grownCap w s.size 0 5)) 5 ((bytesRow s (grownCap w s.size 0 5)).size, (bytesRow s (grownCap w s.size 0 5)).size + 1)) := ⟨_, rfl⟩
 have hh : w'.heap[w.heap.size]? = some (.cells (bytesRow s (grownCap w s.size 0 5)) 5 ((bytesRow s (grownCap w s.size 0 5)).size, (bytesRow s (grownCap w s.size 0 5)).size + 1)) := by
  rw [hw']; exact heap_alloc_new w.drew _
 refine ⟨.slice (some ⟨w.heap.size, 0, none⟩) s.size (grownCap w s.size 0 5), w', ?_, M.fresh (by rw [hw']; exact (zya w).trans (zca w.drew _)) i _ ⟨?_, ?_⟩ (fun u u' hs h => ⟨IsB.same hs h.1, h.2⟩) ?_⟩
 ·have h := run_bytes_of_string w 9 22 5 s Tryz.underlying9 Tryz.underlying22 Tryz.underlying5
  rw [hw']
  exact run_cv' _ _ x ho hx h
 ·refine ⟨_, _, by rw [sBy_len], by rw [sBy_len]; exact hc, hm, (fun e => by cases e), fun _ => ⟨_, rfl, z9b hh, fun j b hj => ?_⟩⟩
  rw [zua, Nat.zero_add]
  have hl := (List.getElem?_eq_some_iff.1 hj).1
  rw [sBy_len] at hl
  have hcell : (bytesRow s (grownCap w s.size 0 5))[j]? = some (bv b) := by
   unfold bytesRow sBy at *
   rw [Array.getElem?_append]
   rw [if_pos (by simpa using hl)]
   rw [Array.getElem?_toList] at hj
   simp [hj, bv]
  simp [World.cell?, hh, hcell]
 ·rintro g ⟨q, s', n, c, e, _⟩
  injection e with e
  injection e with e
  injection e with e
  have := M.le
  omega
 ·rintro g ⟨q, s', n, c, e, _⟩
  injection e with e
  injection e with e
  injection e with e
  subst e
  exact ⟨Nat.le_refl _, z9b hh⟩
theorem run_cvS (M : Mx G w0 w R) (i : Nat) (x : Operand) (ho : o.op = .convert 9 22 x) {s : ByteArray} (hx : a.eval x = .string s) (hs : s.size ≤ 1000000) :
  ∃ v w', (execOp a.eval o).run Tryz.prog w = .ok (.value v) w' ∧ Mx G w0 w' ((i, bytN w0.heap.size (sBy s) v) :: R) :=
 run_cvSm M i x ho hx (Nat.le_trans hs (by unfold maxLen; omega))
end
end Go.Proofs.YtcfepoopkfhojaaGreat
namespace Go.Proofs.YtcfepoopkfhojaaGreat
open Go.ChangeShapes Go.WideShapes Go.ChangeAt Go.RowKit Go.Shelf
theorem one_slcB {w : World} {l : List UInt8} {v : Value} (h : IsB w l v) : (#[v]).all (·.oneCell') = true := by
 obtain ⟨A, c, rfl⟩ := h.shape
 simp [Value.oneCell']
section
variable {P : Program} {a : Act} {w w0 : World} {o : Oper} {G : Option Nat} {R : List (Nat × Res)}
theorem run_st (M : Mx G w0 w R) {k g off : Nat} {t : TypeId} {c : Array Value} (hk : look R k = some (blkR g t c)) (ty : TypeId) (x y : Operand) (ho : o.op = .store ty x y) (hx : a.eval x = .pointer (some ⟨g, off, none⟩)) {v : Value} (hy : a.eval y = v)
  (s c' : Array Value) (hv : v.cells = s) (hos : off + s.size ≤ c.size) (h1 : s.all (·.oneCell') = true) (hc' : (c.toList.take off ++ s.toList ++ c.toList.drop (off + s.size)).toArray = c') (hi : (P.info? ty).map (·.size) = some s.size) :
  ∃ w', (execOp a.eval o).run P w = .ok .skip w' ∧ Mx G w0 w' ((k, blkR g t c') :: R) :=
 ⟨_, y_st ty x y ho hx hy (M.blk hk) s c' hv hos h1 hc' hi, M.put hk (znb _ _ _) (setRow_heap w g c c' t (0, 0) (M.blk hk))⟩
end
def Tl (w : World) (v : Value) (l : List UInt8) : Prop := (v = zN ∧ l = []) ∨
 ∃ g o c cur, v = .slice (some ⟨g, o, none⟩) l.length c ∧ w.heap[g]? = some (.cells cur 5 (0, 0)) ∧ l.length ≤ c ∧ c ≤ maxLen ∧ o + c ≤ cur.size ∧ ∀ j b, l[j]? = some b → cur[o + j]? = some (bv b)
theorem Tl.same {l : List UInt8} {v : Value} {u u' : World} (hs : Same (ofp v) u u') (h : Tl u v l) : Tl u' v l := by
 rcases h with h | ⟨g, o, c, cur, e, h1, h2⟩
 ·exact .inl h
 ·exact .inr ⟨g, o, c, cur, e, hs g _ (by rw [ofp, e]; rfl) h1, h2⟩
theorem Tl.isb {w : World} {v : Value} {l : List UInt8} (h : Tl w v l) : IsB w l v := by
 rcases h with ⟨rfl, rfl⟩ | ⟨g, o, c, cur, rfl, h1, h2, h3, h4, h5⟩
 ·exact zva w
 ·refine ⟨_, _, rfl, h2, h3, fun e => (by cases e), fun _ => ⟨_, rfl, (Array.getElem?_eq_some_iff.1 h1).1, fun j b hb => ?_⟩⟩
  rw [zua]
  exact y_cell h1 (h5 j b hb)
theorem Tl.lt {w : World} {v : Value} {l : List UInt8} (h : Tl w v l) : ∀ g, ofp v g → g < w.heap.size := fun g hg => by
 rcases h with ⟨rfl, _⟩ | ⟨g', o, c, cur, rfl, h1, _⟩
 ·cases hg
 ·cases hg; exact (Array.getElem?_eq_some_iff.1 h1).1
section
variable {G : Option Nat} {w0 w : World} {R : List (Nat × Res)} {a : Act} {o : Oper}
end
end Go.Proofs.YtcfepoopkfhojaaGreat
namespace Go.Proofs.YtcfepoopkfhojaaGreat
open Go.ChangeShapes Go.WideShapes Go.ChangeAt Go.RowKit
theorem together_any (a b m : Nat) (ha : a < 4294967296) (hb : b < 4294967296) (h0 : 0 < m) (hm : m < 4294967296 ^ 8) (w : World) :
  Calls Tryz.prog 38 #[numV a, numV b, numV m] w fun e w' => e = .returned (numV ((a + b) % m)) ∧ Below w.heap.size w w' := by
 have ha8 : a < 4294967296 ^ 8 := Nat.lt_trans ha (by decide)
 have hb8 : b < 4294967296 ^ 8 := Nat.lt_trans hb (by decide)
 have hab : a + b < 4294967296 ^ 8 := Nat.lt_trans (show a + b < 4294967296 * 2 by omega) (by decide)
 have kA := fun w => add_any a b ha8 hb8 w
 rw [show carryI a b = 0 by unfold carryI; rw [Nat.div_eq_of_lt hab]; rfl] at kA
 have kO := fun w => from_any 0 (by decide) (by decide) w
 have kR := fun w => rest_pos (a + b) 0 m hab (by decide) hm h0 w
 rw [Nat.zero_mul, Nat.add_zero] at kR
 refine zra (args := [numV a, numV b, numV m]) 27 Tryz.func38 rfl rfl rfl ?_
 intro fa F
 have M := Mx.start w
 refine zSk fun _ hK1 => ?_
 refine zR ?_
 refine zo (zc rfl) rfl F rfl M 0 (t := 27) (c := numA a) (by unfold execOp; simp only [(F.get (t := 0) rfl)]; kernel_rfl) ?_
 intro g2 a2 w2 F2 M2
 clear F M
 refine zo (zc rfl) rfl F2 rfl M2 1 (t := 27) (c := numA b) (by unfold execOp; simp only [(F2.get (t := 1) rfl)]; kernel_rfl) ?_
 intro g3 a3 w3 F3 M3
 clear F2 M2
 refine zo (zc rfl) rfl F3 rfl M3 2 (t := 27) (c := numA m) (by unfold execOp; simp only [(F3.get (t := 2) rfl)]; kernel_rfl) ?_
 intro g4 a4 w4 F4 M4
 clear F3 M3
 refine zo (zc rfl) rfl F4 rfl M4 3 (t := 27) (c := numA 0) (zba rfl) ?_
 intro g5 a5 w5 F5 M5
 clear F4 M4
 refine hK1 _ _ ?_
 refine zSk fun _ hK6 => ?_
 refine zR ?_
 refine zAx 2 [(12, numV a), (13, numV b)] [0, 1] (z7a (M5.blk (k := 0) rfl) (z7a (M5.blk (k := 1) rfl) dnil)) [g2, g3] F5 fun _ F7 => ?_
 clear F5
 refine zea (zc rfl) rfl F7 rfl rfl (zE Tryz.func73 rfl) #[numV a, numV b] (z7b (F7.get (t := 12) rfl) (F7.get (t := 13) rfl)) (zha (kA w5)) ?_
 rintro _ w8 a8 ⟨rfl, b8⟩ F8
 have M8 := M5.step b8
 refine zB 3 [(5, .pointer (some ⟨g4, 0, none⟩)), (6, .pointer (some ⟨g5, 0, none⟩)), (15, numV (a + b)), (16, .int .u32 0)] [] dnil [] F8 fun _ F9 => ?_
 clear F8
 refine zo (zc rfl) rfl F9 rfl M8 4 (t := 27) (c := numA 0) (zba rfl) ?_
 intro g10 a10 w10 F10 M10
 clear F9 M8
 refine zka (zc rfl) rfl F10 M10 (k := 4) rfl _ _ _ rfl (F10.get (t := 7) rfl) (F10.get (t := 15) rfl) (numA (a + b)) _ rfl (zL rfl) (zoa _) (zx rfl) ze ?_
 intro w11 M11
 clear M10
 refine rm rfl F10 fun _ F12 => ?_
 refine hK6 _ _ ?_
 refine zSk fun _ hK13 => ?_
 have hD14 := (z7a (M11.blk (k := 4) rfl) (z7a (M11.blk (k := 2) rfl) dnil))
 refine region_fxL F12 (SK [.inl (numV (a + b)), .inl (.int .u32 0), .inl (.int .i64 0), .inl (numV 0), .inl (numV m), .inl (.tuple #[numV ((a + b) % m), .bool true]), .inl (.tuple #[numV ((a + b) % m), .bool true]), .inl (numV ((a + b) % m)), .inl (.bool true), .inr (StK.new w11.heap.size (numA 0) 27 (by decide))]) 10 8 17 1 6 #[numV ((a + b) % m), .bool true] (.bool true) rfl (by kernel_rfl) rfl (by kernel_rfl) (fun _ _ h => h) rfl (fun _ _ => Iff.rfl) rfl ⟨hopP F12 hD14 0 (some g10) (by kernel_rfl), hop0 F12 (by kernel_rfl), ?_, ?_, hopP F12 hD14 1 (some g4) (by kernel_rfl), ?_, hop0 F12 (by kernel_rfl), hop0 F12 (by kernel_rfl), hop0 F12 (by kernel_rfl), ?_, trivial⟩ ?_
 ·intro ua uw hb hd
  have e19 : ua.eval (.tmp 19) = .int .u32 0 := hd 19 (by decide)
  exact zaa (F := (StK.eq (.int .i64 0)).F) (zc rfl) (.int .i64 0) (y_cvI _ _ _ rfl e19 Tryz.underlying25 Tryz.underlying3 rfl) rfl
 ·intro ua uw hb hd
  have e20 : ua.eval (.tmp 20) = .int .i64 0 := hd 20 (by decide)
  exact zda (F := (StK.eq (numV 0)).F) (zc rfl) hb.size rfl #[.int .i64 0] (z2a e20) (zE Tryz.func72 rfl) (zsa (kO uw))
 ·intro ua uw hb hd
  have e18 : ua.eval (.tmp 18) = numV (a + b) := hd 18 (by decide)
  have e21 : ua.eval (.tmp 21) = numV 0 := hd 21 (by decide)
  have e22 : ua.eval (.tmp 22) = numV m := hd 22 (by decide)
  exact zda (F := (StK.eq (.tuple #[numV ((a + b) % m), .bool true])).F) (zc rfl) hb.size rfl #[numV (a + b), numV 0, numV m] (args3 e18 e21 e22) (zE Tryz.func50 rfl) (zsa (kR uw))
 ·intro ua uw hb hd
  exact hop_new (zc rfl) hb.size hb.size (by decide) (zba rfl)
 intro p15 a15 w15 b15 G15 y15
 obtain ⟨-, -, -, -, -, -, -, q7, q8, q9, -⟩ := y15
 obtain ⟨gn9x14, r9, hg9, hc9⟩ := q9 (by decide)
 replace r9 : p15 9 = .pointer (some ⟨gn9x14, 0, none⟩) := r9
 have r7 : p15 7 = numV ((a + b) % m) := q7 (by decide)
 have r8 : p15 8 = .bool true := q8 (by decide)
 simp only [List.take, layV, Nat.zero_add, Nat.reduceAdd, r7, r8, r9] at G15
 have M15 := M11.newb b15.below 5 hg9 hc9
 clear hg9 hc9 r9
 clear F12 M11 r7 q7 r8 q8
 refine st_ex M15 (k := 5) rfl _ _ _ rfl (G15.get (t := 9) rfl) (G15.get (t := 24) rfl) (numA ((a + b) % m)) _ rfl (zL rfl) (zoa _) (zx rfl) ze ?_
 intro w16 M16
 clear M15
 refine rm rfl G15 fun _ F17 => ?_
 refine hK13 _ _ ?_
 refine zSk fun _ hK18 => ?_
 refine zR ?_
 refine zh (w' := w16) (zc rfl) rfl F17 rfl (numV ((a + b) % m)) (zga _ _ rfl (F17.get (t := 9) rfl) (M16.blk (k := 5) rfl) (numA ((a + b) % m)) (zta rfl) Tryz.underlying27 rfl ze) fun _ F19 => ?_
 clear F17
 refine zka (zc rfl) rfl F19 M16 (k := 3) rfl _ _ _ rfl (F19.get (t := 6) rfl) (F19.get (t := 26) rfl) (numA ((a + b) % m)) _ rfl (zL rfl) (zoa _) (zx rfl) ze ?_
 intro w20 M20
 clear M16
 refine hK18 _ _ ?_
 refine wp_ret ?_
 try simp only [Exit.then, Exit.inBlock, Exit.jump]
 exact bodyPost_ret (results_cell_row rfl _ _ _ _ _ (0, 0) _ (F19.get rfl) (M20.blk (k := 3) rfl) Tryz.underlying27 rfl ze) F19.defers ⟨rfl, M20.below⟩
theorem texp_any (k : Int) (P Q g : Nat) (h2 : 2 < Q) (hQ : Q < 4294967296 ^ 8) (t : ByteArray) (ht : t.size ≤ 1000) (L : List (List UInt8)) (u : Value) (hL : L.length ≤ 90) (w : World) (hu : IsP w L u) :
  Calls Tryz.prog 35 #[.agg (zg k P Q g), .string t, u] w fun e w' => e = .returned (numV (texN Q (sBy t) L)) ∧ Below w.heap.size w w' := by
 obtain ⟨Au, cu, vs, rfl, hvl, hve, hvc⟩ := hu.vals
 have h1 := vals_one hvl hve
 have hAu : L.length = 0 → Au = none ∨ ∃ ad, Au = some ad := fun _ => by
  cases Au with
  | none => exact .inl rfl
  | some ad => exact .inr ⟨ad, rfl⟩
 obtain ⟨S, hS⟩ : ∃ S, macW [] (sBy t :: L) = S := ⟨_, rfl⟩
 have kM := fun (w : World) (u : Value) (h : IsP w (sBy t :: L) u) => of_b h
 rw [hS] at kM
 obtain ⟨N, hN⟩ : ∃ N, expN Q (sumY (outF S)) = N := ⟨_, rfl⟩
 rw [show texN Q (sBy t) L = N by unfold texN; rw [hS, hN]]
 have hbd := zdc S
 have kE := fun (w : World) (v : Value) (h : IsB w (sumY (outF S)) v) => gexp_any k P Q g h2 hQ (sumY (outF S)) v w h
 rw [hN] at kE
 clear hN hS
 refine zra (args := [.agg (zg k P Q g), .string t, .slice Au L.length cu]) 19 Tryz.func35 rfl rfl rfl ?_
 intro fa F
 have M := Mx.start w
 refine zSk fun _ hK1 => ?_
 refine zR ?_
 refine zo (zc rfl) rfl F rfl M 0 (t := 29) (c := zg k P Q g) (by unfold execOp; simp only [(F.get (t := 0) rfl)]; kernel_rfl) ?_
 intro g2 a2 w2 F2 M2
 clear F M
 refine zo (zc rfl) rfl F2 rfl M2 1 (t := 27) (c := numA 0) (zba rfl) ?_
 intro g3 a3 w3 F3 M3
 clear F2 M2
 refine hK1 _ _ ?_
 refine zSk fun _ hK4 => ?_
 refine zR ?_
 refine rm rfl F3 fun _ F5 => ?_
 refine z6a (zc rfl) rfl F5 rfl (run_cvS M3 2 _ rfl (F5.get (t := 9) rfl) (by omega)) ?_
 intro v6 a6 w6 F6 M6
 clear F5 M3
 have fr6 := M6.frN (k := 2) rfl
 replace M6 := M6.unN (k := 2) rfl
 obtain ⟨A6, c6, rfl⟩ := (M6.isb (k := 2) rfl).shape
 refine z3b (zc rfl) rfl F6 rfl M6 3 (t := 22) (c := #[.slice A6 ((sBy t)).length c6]) (k := 1) (m := 1) (y_litG 54 22 (s := 1) (zv := zN) Tryz.underlying54 (by kernel_rfl) (by kernel_rfl) rfl (#[.slice A6 ((sBy t)).length c6]) (by decide) (by decide) (by simp only [List.map_toArray, List.map_cons, List.map_nil, (F6.get (t := 10) rfl)]; kernel_rfl)) ?_
 intro g7 a7 w7 F7 M7
 clear F6 M6
 refine rm rfl F7 fun _ F8 => ?_
 refine z6a (zc rfl) rfl F8 rfl (run_appQ M7 (kb := 3) rfl rfl hvl h1 (vals_at hvc hvl hAu M7.below) (by omega) _ _ rfl (F8.get (t := 11) rfl) (F8.get (t := 12) rfl)) ?_
 intro v9 a9 w9 F9 M9
 clear F8 M7
 obtain ⟨Ar9, cr9, rfl, -⟩ := row_slice (M9.rowF (k := 3) rfl)
 have hP9 : IsP w9 (sBy t :: L) (.slice Ar9 (1 + L.length) cr9) := isP_row (M9.rowF (k := 3) rfl) (by rw [List.length_cons]; omega) (fun j l hj => by
  match j, hj with
  | 0, hj =>
   obtain rfl : sBy t = l := Option.some.inj hj
   exact ⟨_, rfl, (M9.isb (k := 2) rfl)⟩
  | j + 1, hj =>
   obtain ⟨u, q1, q2⟩ := hve j l hj
   exact ⟨u, q1, q2.step M9.below⟩)
 refine rm rfl F9 fun _ F10 => ?_
 refine hK4 _ _ ?_
 refine zSk fun _ hK11 => ?_
 refine zR ?_
 refine rm rfl F10 fun _ F12 => ?_
 refine zea (zc rfl) rfl F12 rfl rfl (zE Tryz.func69 rfl) #[.slice Ar9 (1 + L.length) cr9] (z2a (F12.get (t := 14) rfl)) (zha ((kM w9 _ hP9))) ?_
 rintro _ w13 a13 ⟨rfl, b13⟩ F13
 have M13 := M9.step b13
 refine zo (zc rfl) rfl F13 rfl M13 4 (t := 35) (c := zk (fun _ => 0)) (by unfold execOp; kernel_rfl) ?_
 intro g14 a14 w14 F14 M14
 clear F13 M13
 refine zka (zc rfl) rfl F14 M14 (k := 4) rfl _ _ _ rfl (F14.get (t := 8) rfl) (F14.get (t := 15) rfl) (zk (outF S)) _ rfl (zL rfl) (zla _) (zx rfl) (by kernel_rfl) ?_
 intro w15 M15
 clear M14
 refine hK11 _ _ ?_
 refine zSk fun _ hK16 => ?_
 refine zqb F14 [fun vE => vE = .agg (zg k P Q g), fun vE => vE = .slice (some ⟨g14, 0, none⟩) 16 16] (JM none w fun SV pV => [(0, blkR g2 29 (zg k P Q g)), (1, blkR g3 27 (numA 0)), (2, bytR (sBy t) (.slice A6 ((sBy t)).length c6)), (3, rowR 22 1 (1 + L.length) (.slice A6 ((sBy t)).length c6 :: vs) (.slice Ar9 (1 + L.length) cr9)), (4, blkR g14 35 (zk (outF S)))]) 2 rfl (by kernel_rfl) rfl ⟨trivial, trivial, trivial⟩ (fun p => (M15.step (zya _)).sub ⟨rfl, rfl, rfl, rfl, rfl, trivial⟩) ⟨?_, ?_, trivial⟩ ?_
 ·intro ua uw SV pV M0 hk hn hd
  have M : Mx none w uw _ := M0
  clear M0
  have e3 : ua.eval (.tmp 3) = .pointer (some ⟨g2, 0, none⟩) := (show ua.eval (.tmp 3) = _ from hd 3 (by decide)).trans (F14.get (t := 3) rfl)
  exact zp (zc rfl) _ (zga _ _ rfl e3 (M.blk (k := 0) rfl) (zg k P Q g) (zta rfl) Tryz.underlying29 rfl (by kernel_rfl)) rfl (M.sub ⟨rfl, rfl, rfl, rfl, rfl, trivial⟩)
 ·intro ua uw SV pV M0 hk hn hd
  have M : Mx none w uw _ := M0
  clear M0
  have e8 : ua.eval (.tmp 8) = .pointer (some ⟨g14, 0, none⟩) := (show ua.eval (.tmp 8) = _ from hd 8 (by decide)).trans (F14.get (t := 8) rfl)
  exact zp (zc rfl) (.slice (some ⟨g14, 0, none⟩) 16 16) (zmc _ rfl e8) rfl (M.sub ⟨rfl, rfl, rfl, rfl, rfl, trivial⟩)
 intro p17 a17 w17 M17 G17 y17
 obtain ⟨q0, q1, -⟩ := y17
 have r0 : p17 0 = .agg (zg k P Q g) := q0
 have r1 : p17 1 = .slice (some ⟨g14, 0, none⟩) 16 16 := q1
 replace M17 : Mx _ _ w17 [(0, blkR g2 29 (zg k P Q g)), (1, blkR g3 27 (numA 0)), (2, bytR (sBy t) (.slice A6 ((sBy t)).length c6)), (3, rowR 22 1 (1 + L.length) (.slice A6 ((sBy t)).length c6 :: vs) (.slice Ar9 (1 + L.length) cr9)), (4, blkR g14 35 (zk (outF S)))] := M17
 simp only [List.take, layV, Nat.zero_add, Nat.reduceAdd, r0, r1] at G17
 refine zea (zc rfl) rfl G17 rfl rfl (zE Tryz.func71 rfl) #[.agg (zg k P Q g), .slice (some ⟨g14, 0, none⟩) 16 16] (z7b (G17.get (t := 16) rfl) (G17.get (t := 17) rfl)) (zha ((kE w17 _ (isb_sum hbd (M17.blk (k := 4) rfl))))) ?_
 rintro _ w18 a18 ⟨rfl, b18⟩ F18
 have M18 := M17.step b18
 refine zka (zc rfl) rfl F18 M18 (k := 1) rfl _ _ _ rfl (F18.get (t := 6) rfl) (F18.get (t := 18) rfl) (numA N) _ rfl (zL rfl) (zoa _) (zx rfl) ze ?_
 intro w19 M19
 clear M18
 refine hK16 _ _ ?_
 refine wp_ret ?_
 try simp only [Exit.then, Exit.inBlock, Exit.jump]
 exact bodyPost_ret (results_cell_row rfl _ _ _ _ _ (0, 0) _ (F18.get rfl) (M19.blk (k := 1) rfl) Tryz.underlying27 rfl ze) F18.defers ⟨rfl, M19.below⟩
theorem cover_any (k : Int) (P Q g : Nat) (ho : P % 2 = 1) (h1 : 1 < P) (hP : P < 4294967296 ^ 8) (h2 : 2 < Q) (hQ : Q < 4294967296 ^ 8) (v : Nat) (hv : v < 4294967296 ^ 8) (w : World) :
  Calls Tryz.prog 39 #[.agg (zg k P Q g), numV v] w fun e w' => e = .returned (numV (kN Q * v % P)) ∧ Below w.heap.size w w' := by
 obtain ⟨K, hK⟩ : ∃ K, kN Q = K := ⟨_, rfl⟩
 have hKl : K < 4294967296 ^ 8 := by rw [← hK]; exact Nat.lt_trans (expN_bd h2 _).2 hQ
 have kE := fun w => texp_any k P Q g h2 hQ ({ data := #[107] } : ByteArray) (by decide) [] (zN) (by decide) w (isP_nil w)
 rw [show texN Q (sBy ({ data := #[107] } : ByteArray)) [] = K from hK] at kE
 have kT := fun w => gtimes_any k P Q g ho h1 hP K v hKl hv w
 rw [hK]
 obtain ⟨N, hN⟩ : ∃ N, K * v % P = N := ⟨_, rfl⟩
 rw [hN] at kT ⊢
 clear hN hK
 refine zra (args := [.agg (zg k P Q g), numV v]) 10 Tryz.func39 rfl rfl rfl ?_
 intro fa F
 have M := Mx.start w
 refine zSk fun _ hK1 => ?_
 refine zR ?_
 refine zo (zc rfl) rfl F rfl M 0 (t := 29) (c := zg k P Q g) (by unfold execOp; simp only [(F.get (t := 0) rfl)]; kernel_rfl) ?_
 intro g2 a2 w2 F2 M2
 clear F M
 refine zo (zc rfl) rfl F2 rfl M2 1 (t := 27) (c := numA v) (by unfold execOp; simp only [(F2.get (t := 1) rfl)]; kernel_rfl) ?_
 intro g3 a3 w3 F3 M3
 clear F2 M2
 refine zo (zc rfl) rfl F3 rfl M3 2 (t := 27) (c := numA 0) (zba rfl) ?_
 intro g4 a4 w4 F4 M4
 clear F3 M3
 refine hK1 _ _ ?_
 refine zSk fun _ hK5 => ?_
 have hD6 := (z7a (M4.blk (k := 0) rfl) (z7a (M4.blk (k := 1) rfl) dnil))
 refine zec F4 (SK [.inl (.agg (zg k P Q g)), .inl (.agg (zg k P Q g)), .inl (numV K), .inl (numV v), .inl (numV N)]) 5 rfl (by kernel_rfl) ⟨hopP F4 hD6 0 (some g2) (by kernel_rfl), hopP F4 hD6 0 (some g2) (by kernel_rfl), ?_, hopP F4 hD6 1 (some g3) (by kernel_rfl), ?_, trivial⟩ ?_
 ·intro ua uw hb hd
  have e6 : ua.eval (.tmp 6) = .agg (zg k P Q g) := hd 6 (by decide)
  exact zda (F := (StK.eq (numV K)).F) (zc rfl) hb.size rfl #[.agg (zg k P Q g), .string ({ data := #[107] }), zN] (args3 e6 rfl rfl) (zE Tryz.func35 rfl) (zsa (kE uw))
 ·intro ua uw hb hd
  have e5 : ua.eval (.tmp 5) = .agg (zg k P Q g) := hd 5 (by decide)
  have e7 : ua.eval (.tmp 7) = numV K := hd 7 (by decide)
  have e8 : ua.eval (.tmp 8) = numV v := hd 8 (by decide)
  exact zda (F := (StK.eq (numV N)).F) (zc rfl) hb.size rfl #[.agg (zg k P Q g), numV K, numV v] (args3 e5 e7 e8) (zE Tryz.func40 rfl) (zsa (kT uw))
 intro p7 a7 w7 b7 G7 y7
 obtain ⟨-, -, -, -, q4, -⟩ := y7
 have r4 : p7 4 = numV N := q4 (by decide)
 simp only [List.take, layV, Nat.zero_add, Nat.reduceAdd, r4] at G7
 have M7 := M4.kc b7
 clear F4 M4 r4 q4
 refine zka (zc rfl) rfl G7 M7 (k := 2) rfl _ _ _ rfl (G7.get (t := 4) rfl) (G7.get (t := 9) rfl) (numA N) _ rfl (zL rfl) (zoa _) (zx rfl) ze ?_
 intro w8 M8
 clear M7
 refine hK5 _ _ ?_
 refine wp_ret ?_
 try simp only [Exit.then, Exit.inBlock, Exit.jump]
 exact bodyPost_ret (results_cell_row rfl _ _ _ _ _ (0, 0) _ (G7.get (t := 4) rfl) (M8.blk (k := 2) rfl) Tryz.underlying27 rfl ze) G7.defers ⟨rfl, M8.below⟩
end Go.Proofs.YtcfepoopkfhojaaGreat
