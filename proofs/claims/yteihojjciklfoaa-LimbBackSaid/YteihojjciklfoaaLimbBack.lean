/- sentinellaw1.LimbBack: the walk. -/
import Derived.Test.YteihojjciklfoaaKnown
import Derived.Test.YteihojjciklfoaaRead
import Derived.Test.YteihojjciklfoaaApp
import Derived.Test.YteihojjciklfoaaNews
import Derived.Test.YteihojjciklfoaaEqn
import Derived.Test.YteihojjciklfoaaRel
import Derived.Test.YteihojjciklfoaaRefP
namespace Go.Proofs.Yteihojjciklfoaa
set_option linter.unusedVariables false
set_option linter.unusedSimpArgs false
open Go.ChangeShapes Go.WideShapes Go.ChangeAt Go.RowKit
attribute [local go_sem] eqn_same
theorem toList_bytes2 (l : List UInt8) : (ByteArray.mk l.toArray).toList = l := by rw [ByteArray.toList_eq]
def rdN (l : List UInt8) (n : Nat) : Nat := if n ≤ 32 then readN l else 0
theorem rdN_lt {l : List UInt8} {n : Nat} (hl : l.length = n) : rdN l n < 4294967296 ^ 8 := by
  unfold rdN
  split
  · exact readN_lt_num (by omega)
  · decide +kernel
theorem read_gen {A : Option Addr} {l : List UInt8} {n cap : Nat} (hl : l.length = n) (hc : n ≤ cap) (hm : cap ≤ maxLen) {w : World} (hR : Rd w A l) :
    Calls Try.prog 34 #[.slice A n cap] w fun e w' => e = .returned (.tuple #[numV (rdN l n), .bool (decide ((n : Int) ≤ 32))]) ∧ Below w.heap.size w w' := by
  unfold rdN
  by_cases h : n ≤ 32
  · rw [if_pos h, show decide ((n : Int) ≤ 32) = true by rw [decide_eq_true_iff]; omega]
    exact read_any A l n cap hl h hc hm w hR
  · rw [if_neg h, show decide ((n : Int) ≤ 32) = false by rw [decide_eq_false_iff_not]; omega]
    exact read_none A n cap (by omega) (by omega) w
theorem rread_gen {A : Option Addr} {l : List UInt8} {n cap : Nat} (hl : l.length = n) (hc : n ≤ cap) (hm : cap ≤ maxLen) {w : World} (hR : Rd w A l) :
    Calls Try.prog 35 #[.slice A n cap] w fun e w' => e = .returned (.tuple #[numV (rdN l n), .bool (decide ((n : Int) ≤ 32))]) ∧ Below w.heap.size w w' := by
  unfold rdN
  by_cases h : n ≤ 32
  · rw [if_pos h, show decide ((n : Int) ≤ 32) = true by rw [decide_eq_true_iff]; omega]
    exact rread_any A l n cap hl h w hR
  · rw [if_neg h, show decide ((n : Int) ≤ 32) = false by rw [decide_eq_false_iff_not]; omega]
    exact rread_none A n cap (by omega) (by omega) w
theorem read_back {g x : Nat} {w : World} {t : TypeId} (hx : x < 4294967296 ^ 8) (h : Bts w g t (bytesN x)) : Calls Try.prog 34 #[.slice (some ⟨g, 0, none⟩) 32 32] w fun e w' => e = .returned (.tuple #[numV x, .bool true]) ∧ Below w.heap.size w w' := by
  have h := read_any (some ⟨g, 0, none⟩) (bytesN x) 32 32 (bytesN_length x) (by omega) (by omega) (by unfold maxLen; omega) w h.rd
  rwa [read_bytes x hx] at h
theorem rbytes_isB (a : Nat) (w : World) : Calls Try.prog 36 #[numV a] w fun e w' => ∃ v, e = .returned v ∧ Below w.heap.size w w' ∧ IsB w' (bytesN a) v :=
  (rbytes_any a w).mono fun e w' ⟨A, c, he, h1, h2, h3, hb⟩ => ⟨_, he, hb, A, c, by rw [bytesN_length], by rw [bytesN_length]; exact h1, h2, (fun h => by
    obtain ⟨ad, e, _⟩ := h3 (by rw [bytesN_length]; omega)
    rw [h] at e; cases e), h3⟩
theorem byt_empty (w : World) : Byt (w.alloc (.cells #[] 5)) w.heap.size (.slice (some ⟨w.heap.size, 0, none⟩) 0 0) [] :=
  ⟨rfl, .inr ⟨w.heap.size, 0, #[], rfl, Nat.le_refl _, heap_alloc_new w _, Nat.le_refl _, by unfold maxLen; omega, rfl, rfl⟩⟩
theorem rd_zero (w : World) : Rd (w.alloc (.cells #[Value.int .u8 0] 5)) (some ⟨w.heap.size, 0, none⟩) [0] :=
  Bts.rd (t := 5) (heap_alloc_new w (.cells (bvs [0]) 5))
theorem step_app2 {w w7 w' : World} {o o' : Obj} (h : Below w.heap.size (w.alloc o) w7) (k : Below w.heap.size (w7.alloc o') w') : Below w.heap.size w w' :=
  ((step_alloc w o).trans h).trans (((step_alloc w7 o').mono (by have := h.size; simp at this; omega)).trans k)
set_option maxRecDepth 100000 in
set_option maxHeartbeats 20000000 in
theorem LimbBack_walk (a0 : Int) (hk0 : -9223372036854775808 ≤ a0) (hl0 : a0 < 9223372036854775808)
    (A1 : Option Addr) (n1 cap1 : Nat) (x1 : Nat → Int)
    (A2 : Option Addr) (n2 cap2 : Nat) (l2 : List UInt8) (hn2 : l2.length = n2) (hc2 : n2 ≤ cap2) (hm2 : cap2 ≤ maxLen) (hz2 : A2 = none → cap2 = 0) (w : World) (hr1 : RdI w A1 n1 x1) (hr2 : Rd w A2 l2) :
    Calls Try.prog 4 #[.int .i64 a0, .slice A1 n1 cap1, .slice A2 n2 cap2] w fun e w' => e = .returned (.bool true) ∧ Below w.heap.size w w' := by
  have ng := noGuard
  go_enter Try.func4, Try.ntmps4
  unfold maxLen at hm2
  go_wp2_with (fail)
  refine (known_any _).mono ?_
  rintro e w1 ⟨rfl, bw1⟩
  have r1_1 := hr1.step bw1
  have r2_1 := hr2.step bw1
  have c_1 := bw1
  clear hr1 hr2 bw1
  by_cases hlong : 60 < n2
  · go_wp2
    go_ret
    exact ⟨rfl, c_1⟩
  go_wp2_with (fail)
  refine (make_any _ (by omega) (by omega) _ _ _ _ _ r1_1).mono ?_
  rintro e w2 ⟨x, rfl, hx, bw2⟩
  have r1_2 := r1_1.step bw2
  have r2_2 := r2_1.step bw2
  have c_2 := step_trans c_1 bw2
  clear r1_1 r2_1 c_1 bw2
  go_wp2_with (first | (refine wpList_store_num rfl _ (.tmp 7) _ rfl _ rfl _ rfl _ rfl (heap_alloc_new _ _) size26 ?_; intro w3 gw3 mw3; have b_1 := step_new gw3; have r2_3 := r2_2.step b_1; have c_3 := step_trans c_2 b_1; clear r2_2 c_2 b_1 gw3) | (refine wpList_load_num rfl _ (.tmp 7) rfl _ rfl _ _ _ mw3 Try.underlying26 rfl size26 ?_))
  refine (bytes_any _ _).mono ?_
  rintro e w4 ⟨g, rfl, hg, tB, bw4⟩
  have r2_4 := r2_3.step bw4
  have x_1 := mw3.step bw4
  have c_4 := step_trans c_3 bw4
  clear r2_3 mw3 c_3 bw4
  go_wp2_with (fail)
  refine (read_back hx tB).mono ?_
  rintro e w5 ⟨rfl, bw5⟩
  have r2_5 := r2_4.step bw5
  have x_2 := x_1.step bw5
  have tB_1 := tB.step bw5
  have c_5 := step_trans c_4 bw5
  clear r2_4 x_1 tB c_4 bw5
  go_wp2_with (first | (refine wpList_store_num rfl _ (.tmp 9) _ rfl _ rfl _ rfl _ rfl (heap_alloc_new _ _) size26 ?_; intro w6 gw6 mw6; have b_2 := step_new gw6; have r2_6 := r2_5.step b_2; have x_3 := x_2.step b_2; have tB_2 := tB_1.step b_2; have c_6 := step_trans c_5 b_2; clear r2_5 x_2 tB_1 c_5 b_2 gw6))
  refine (read_gen hn2 hc2 hm2 r2_6).mono ?_
  rintro e w7 ⟨rfl, bw7⟩
  have r2_7 := r2_6.step bw7
  have x_4 := x_3.step bw7
  have tB_3 := tB_2.step bw7
  have y_1 := mw6.step bw7
  have c_7 := step_trans c_6 bw7
  clear r2_6 x_3 tB_2 mw6 c_6 bw7
  go_wp2_with (first | (refine wpList_store_num rfl _ (.tmp 11) _ rfl _ rfl _ rfl _ rfl (heap_alloc_new _ _) size26 ?_; intro w8 gw8 mw8; have b_3 := step_new gw8; have r2_8 := r2_7.step b_3; have x_5 := x_4.step b_3; have tB_4 := tB_3.step b_3; have y_2 := y_1.step b_3; have c_8 := step_trans c_7 b_3; clear r2_7 x_4 tB_3 y_1 c_7 b_3 gw8))
  refine (rread_gen hn2 hc2 hm2 r2_8).mono ?_
  rintro e w9 ⟨rfl, bw9⟩
  have r2_9 := r2_8.step bw9
  have x_6 := x_5.step bw9
  have tB_5 := tB_4.step bw9
  have y_3 := y_2.step bw9
  have r_1 := mw8.step bw9
  have c_9 := step_trans c_8 bw9
  clear r2_8 x_5 tB_4 y_2 mw8 c_8 bw9
  go_upto_region 10 with (first | (refine wpList_store_num rfl _ (.tmp 13) _ rfl _ rfl _ rfl _ rfl (heap_alloc_new _ _) size26 ?_; intro w10 gw10 mw10; have b_4 := step_new gw10; have r2_10 := r2_9.step b_4; have x_7 := x_6.step b_4; have tB_6 := tB_5.step b_4; have y_4 := y_3.step b_4; have r_2 := r_1.step b_4; have c_10 := step_trans c_9 b_4; clear r2_9 x_6 tB_5 y_3 r_1 c_9 b_4 gw10))
  have he := byt_empty w10
  have rb := (tB_6.step (step_alloc w10 (.cells #[] 5))).rd
  have hln : (([] ++ bytesN x) ++ [(0 : UInt8)]).length = 33 := by rw [List.length_append, List.nil_append, bytesN_length]; rfl
  go_wp2_with (first | (refine wpList_append_bytes rfl (.tmp 43) (.tmp 44) rfl w10.heap.size _ _ (bytesN x) rfl he _ 32 32 rfl (bytesN_length x) (fun h => by cases h) rb (by rw [bytesN_length]; simp) (by simp) ?_; intro v7 w7 h71 h72 h73; have z7 := h72.size; have rz := rd_zero w7; have h74 := h71.alloc (.cells #[Value.int .u8 0] 5)) | (refine wpList_append_bytes rfl (.tmp 45) (.tmp 46) rfl w10.heap.size _ _ [0] rfl h74 _ 1 1 rfl rfl (fun h => by cases h) rz (by rw [List.length_append, bytesN_length]; simp) (by simp at z7 ⊢; omega) ?_; intro v8 w8 h81 h82 h83; obtain ⟨A8, c8, e8, c81, c82, R8, _⟩ := h81.slice; rw [hln] at e8 c81; subst e8; have b8 := step_app2 h72 h82))
  have r2_11 := r2_10.step b8
  have x_8 := x_7.step b8
  have tB_7 := tB_6.step b8
  have y_5 := y_4.step b8
  have r_3 := r_2.step b8
  have s_1 := mw10.step b8
  have c_11 := step_trans c_10 b8
  clear r2_10 x_7 tB_6 y_4 r_2 mw10 c_10 b8
  clear he rb h71 h72 h73 h74 rz z7 h81 h82 h83
  refine (read_none A8 33 c8 (by omega) (by unfold maxLen; omega) _).mono ?_
  rintro e w11 ⟨rfl, bw11⟩
  have r2_12 := r2_11.step bw11
  have x_9 := x_8.step bw11
  have tB_8 := tB_7.step bw11
  have y_6 := y_5.step bw11
  have r_4 := r_3.step bw11
  have s_2 := s_1.step bw11
  have c_12 := step_trans c_11 bw11
  clear r2_11 x_8 tB_7 y_5 r_3 s_1 c_11 bw11
  go_upto_region 11 with (first | (refine wpList_store_num rfl _ (.tmp 15) _ rfl _ rfl _ rfl _ rfl (heap_alloc_new _ _) size26 ?_; intro w12 gw12 mw12; have b_5 := step_new gw12; have r2_13 := r2_12.step b_5; have x_10 := x_9.step b_5; have tB_9 := tB_8.step b_5; have y_7 := y_6.step b_5; have r_5 := r_4.step b_5; have s_3 := s_2.step b_5; have c_13 := step_trans c_12 b_5; clear r2_12 x_9 tB_8 y_6 r_4 s_2 c_12 b_5 gw12) | (refine wpList_load_num rfl _ (.tmp 7) rfl _ rfl _ _ _ x_10 Try.underlying26 rfl size26 ?_) | (refine wpList_load_num rfl _ (.tmp 9) rfl _ rfl _ _ _ y_7 Try.underlying26 rfl size26 ?_) | (refine wpList_load_num rfl _ (.tmp 11) rfl _ rfl _ _ _ r_5 Try.underlying26 rfl size26 ?_) | (refine wpList_load_num rfl _ (.tmp 13) rfl _ rfl _ _ _ s_3 Try.underlying26 rfl size26 ?_) | (refine wpList_load_num rfl _ (.tmp 15) rfl _ rfl _ _ _ mw12 Try.underlying26 rfl size26 ?_))
  have ib : IsB w12 (bytesN x) (.slice (some ⟨g, 0, none⟩) 32 32) := ⟨_, 32, by rw [bytesN_length], by rw [bytesN_length]; exact Nat.le_refl _, by unfold maxLen; omega, (fun h => by cases h), tB_9.rd⟩
  obtain ⟨sx, hsx⟩ : ∃ sx : ByteArray, sx = ⟨(bytesN x).toArray⟩ := ⟨_, rfl⟩
  obtain ⟨B, hB⟩ : ∃ B : Bool, B = decide ((n2 : Int) ≤ 32) := ⟨_, rfl⟩
  rw [← hB]
  refine wp_region_st [St.bytes (bytesN x), St.eq (.string sx), St.eq (numV x), St.bytes (bytesN x), St.eq (.string sx), St.eq (.bool true), St.eq (.bool true), St.eq (.bool true), St.eq (.bool true), St.eq (.bool true), St.eq (numV x), St.eq (numV x), St.eq (.bool true), St.eq (.bool true), St.eq (.bool true), St.eq (numV (rdN l2 n2)), St.eq (numV (rdN l2 n2)), St.eq (.bool true), St.eq (.bool true), St.eq (.bool true), St.eq (.bool B), St.eq (.bool B), St.eq (.bool true), St.eq (.bool true), St.eq (.bool true), St.eq (.bool B), St.eq (.slice A2 n2 cap2), St.eq (.int .i64 (n2 : Int)), St.eq (.bool B), St.eq (.bool true), St.eq (.bool true), St.eq (.bool true), St.eq (.bool false), St.eq (.bool true), St.eq (.bool true), St.eq (.bool true)] 86 rfl (by kernel_rfl) (by kernel_rfl) ⟨?_, ?_, ?_, ?_, ?_, ?_, ?_, ?_, ?_, ?_, ?_, ?_, ?_, ?_, ?_, ?_, ?_, ?_, ?_, ?_, ?_, ?_, ?_, ?_, ?_, ?_, ?_, ?_, ?_, ?_, ?_, ?_, ?_, ?_, ?_, ?_, trivial⟩ ?_
  · intro a w hb hd
    have e8 : a.eval (.tmp 8) = _ := hd 8 (by decide)
    exact hop_run (F := (St.bytes (bytesN x)).F) (wanted_none rfl) _ (run_mv _ (.inl rfl) e8) ((ib).step hb)
  · intro a w hb hd
    have e51 : IsB w (bytesN x) (a.eval (.tmp 51)) := hd 51 (by decide)
    exact hop_run (F := (St.eq (.string sx)).F) (wanted_none rfl) _ (run_str _ rfl e51) (by first | rfl | (simp only [hsx, hB, go_sem, ng, eqn_same]; rfl))
  · intro a w hb hd
    have e7 : a.eval (.tmp 7) = _ := hd 7 (by decide)
    exact hop_run (F := (St.eq (numV x)).F) (wanted_none rfl) _ (run_ldN _ rfl e7 ((x_10).step hb)) rfl
  · intro a w hb hd
    have e53 : a.eval (.tmp 53) = numV x := hd 53 (by decide)
    exact hop_call (F := (St.bytes (bytesN x)).F) (wanted_none rfl) rfl #[numV x] (by simp [e53]) (enters_of Try.func36 (by kernel_rfl) rfl) (rbytes_isB x w)
  · intro a w hb hd
    have e54 : IsB w (bytesN x) (a.eval (.tmp 54)) := hd 54 (by decide)
    exact hop_run (F := (St.eq (.string sx)).F) (wanted_none rfl) _ (run_str _ rfl e54) (by first | rfl | (simp only [hsx, hB, go_sem, ng, eqn_same]; rfl))
  · intro a w hb hd
    have e52 : a.eval (.tmp 52) = .string sx := hd 52 (by decide)
    have e55 : a.eval (.tmp 55) = .string sx := hd 55 (by decide)
    exact hop_run (F := (St.eq (.bool true)).F) (wanted_none rfl) _ (by unfold execOp; simp only [e52, e55]; simp [hsx, hB, go_sem, ng, eqn_same]) rfl
  · intro a w hb hd
    have e56 : a.eval (.tmp 56) = .bool true := hd 56 (by decide)
    exact hop_run (F := (St.eq (.bool true)).F) (wanted_none rfl) _ (run_mv _ (.inl rfl) e56) rfl
  · intro a w hb hd
    have eg : a.eval (.tmp 57) = .bool true := hd 57 (by decide)
    have e10 : a.eval (.tmp 10) = _ := hd 10 (by decide)
    exact hop_run (F := (St.eq (.bool true)).F) (wanted_yes rfl rfl rfl eg) _ (run_mv _ (.inl rfl) e10) rfl
  · intro a w hb hd
    have e57 : a.eval (.tmp 57) = .bool true := hd 57 (by decide)
    have e58 : a.eval (.tmp 58) = .bool true := hd 58 (by decide)
    exact hop_run (F := (St.eq (.bool true)).F) (wanted_none rfl) _ (run_pick_t rfl e57 e58) rfl
  · intro a w hb hd
    have e59 : a.eval (.tmp 59) = .bool true := hd 59 (by decide)
    exact hop_run (F := (St.eq (.bool true)).F) (wanted_none rfl) _ (run_mv _ (.inl rfl) e59) rfl
  · intro a w hb hd
    have eg : a.eval (.tmp 60) = .bool true := hd 60 (by decide)
    have e7 : a.eval (.tmp 7) = _ := hd 7 (by decide)
    exact hop_run (F := (St.eq (numV x)).F) (wanted_yes rfl rfl rfl eg) _ (run_ldN _ rfl e7 ((x_10).step hb)) rfl
  · intro a w hb hd
    have eg : a.eval (.tmp 60) = .bool true := hd 60 (by decide)
    have e9 : a.eval (.tmp 9) = _ := hd 9 (by decide)
    exact hop_run (F := (St.eq (numV x)).F) (wanted_yes rfl rfl rfl eg) _ (run_ldN _ rfl e9 ((y_7).step hb)) rfl
  · intro a w hb hd
    have eg : a.eval (.tmp 60) = .bool true := hd 60 (by decide)
    have e61 : a.eval (.tmp 61) = numV x := hd 61 (by decide)
    have e62 : a.eval (.tmp 62) = numV x := hd 62 (by decide)
    exact hop_run (F := (St.eq (.bool true)).F) (wanted_yes rfl rfl rfl eg) _ (by unfold execOp; simp only [e61, e62]; simp [hsx, hB, go_sem, ng, eqn_same]) rfl
  · intro a w hb hd
    have e60 : a.eval (.tmp 60) = .bool true := hd 60 (by decide)
    have e63 : a.eval (.tmp 63) = .bool true := hd 63 (by decide)
    exact hop_run (F := (St.eq (.bool true)).F) (wanted_none rfl) _ (run_pick_t rfl e60 e63) rfl
  · intro a w hb hd
    have e64 : a.eval (.tmp 64) = .bool true := hd 64 (by decide)
    exact hop_run (F := (St.eq (.bool true)).F) (wanted_none rfl) _ (run_mv _ (.inl rfl) e64) rfl
  · intro a w hb hd
    have eg : a.eval (.tmp 65) = .bool true := hd 65 (by decide)
    have e11 : a.eval (.tmp 11) = _ := hd 11 (by decide)
    exact hop_run (F := (St.eq (numV (rdN l2 n2))).F) (wanted_yes rfl rfl rfl eg) _ (run_ldN _ rfl e11 ((r_5).step hb)) rfl
  · intro a w hb hd
    have eg : a.eval (.tmp 65) = .bool true := hd 65 (by decide)
    have e13 : a.eval (.tmp 13) = _ := hd 13 (by decide)
    exact hop_run (F := (St.eq (numV (rdN l2 n2))).F) (wanted_yes rfl rfl rfl eg) _ (run_ldN _ rfl e13 ((s_3).step hb)) rfl
  · intro a w hb hd
    have eg : a.eval (.tmp 65) = .bool true := hd 65 (by decide)
    have e66 : a.eval (.tmp 66) = numV (rdN l2 n2) := hd 66 (by decide)
    have e67 : a.eval (.tmp 67) = numV (rdN l2 n2) := hd 67 (by decide)
    exact hop_run (F := (St.eq (.bool true)).F) (wanted_yes rfl rfl rfl eg) _ (by unfold execOp; simp only [e66, e67]; simp [hsx, hB, go_sem, ng, eqn_same]) rfl
  · intro a w hb hd
    have e65 : a.eval (.tmp 65) = .bool true := hd 65 (by decide)
    have e68 : a.eval (.tmp 68) = .bool true := hd 68 (by decide)
    exact hop_run (F := (St.eq (.bool true)).F) (wanted_none rfl) _ (run_pick_t rfl e65 e68) rfl
  · intro a w hb hd
    have e69 : a.eval (.tmp 69) = .bool true := hd 69 (by decide)
    exact hop_run (F := (St.eq (.bool true)).F) (wanted_none rfl) _ (run_mv _ (.inl rfl) e69) rfl
  · intro a w hb hd
    have eg : a.eval (.tmp 70) = .bool true := hd 70 (by decide)
    have e12 : a.eval (.tmp 12) = _ := hd 12 (by decide)
    exact hop_run (F := (St.eq (.bool B)).F) (wanted_yes rfl rfl rfl eg) _ (run_mv _ (.inl rfl) e12) rfl
  · intro a w hb hd
    have eg : a.eval (.tmp 70) = .bool true := hd 70 (by decide)
    have e14 : a.eval (.tmp 14) = _ := hd 14 (by decide)
    exact hop_run (F := (St.eq (.bool B)).F) (wanted_yes rfl rfl rfl eg) _ (run_mv _ (.inl rfl) e14) rfl
  · intro a w hb hd
    have eg : a.eval (.tmp 70) = .bool true := hd 70 (by decide)
    have e71 : a.eval (.tmp 71) = .bool B := hd 71 (by decide)
    have e72 : a.eval (.tmp 72) = .bool B := hd 72 (by decide)
    exact hop_run (F := (St.eq (.bool true)).F) (wanted_yes rfl rfl rfl eg) _ (by unfold execOp; simp only [e71, e72]; simp [hsx, hB, go_sem, ng, eqn_same]) rfl
  · intro a w hb hd
    have e70 : a.eval (.tmp 70) = .bool true := hd 70 (by decide)
    have e73 : a.eval (.tmp 73) = .bool true := hd 73 (by decide)
    exact hop_run (F := (St.eq (.bool true)).F) (wanted_none rfl) _ (run_pick_t rfl e70 e73) rfl
  · intro a w hb hd
    have e74 : a.eval (.tmp 74) = .bool true := hd 74 (by decide)
    exact hop_run (F := (St.eq (.bool true)).F) (wanted_none rfl) _ (run_mv _ (.inl rfl) e74) rfl
  · intro a w hb hd
    have eg : a.eval (.tmp 75) = .bool true := hd 75 (by decide)
    have e12 : a.eval (.tmp 12) = _ := hd 12 (by decide)
    exact hop_run (F := (St.eq (.bool B)).F) (wanted_yes rfl rfl rfl eg) _ (run_mv _ (.inl rfl) e12) rfl
  · intro a w hb hd
    have eg : a.eval (.tmp 75) = .bool true := hd 75 (by decide)
    have e2 : a.eval (.tmp 2) = _ := hd 2 (by decide)
    exact hop_run (F := (St.eq (.slice A2 n2 cap2)).F) (wanted_yes rfl rfl rfl eg) _ (run_mv _ (.inl rfl) e2) rfl
  · intro a w hb hd
    have eg : a.eval (.tmp 75) = .bool true := hd 75 (by decide)
    have e77 : a.eval (.tmp 77) = .slice A2 n2 cap2 := hd 77 (by decide)
    exact hop_run (F := (St.eq (.int .i64 (n2 : Int))).F) (wanted_yes rfl rfl rfl eg) _ (run_ln _ _ rfl e77 Try.underlying39) rfl
  · intro a w hb hd
    have eg : a.eval (.tmp 75) = .bool true := hd 75 (by decide)
    have e78 : a.eval (.tmp 78) = .int .i64 (n2 : Int) := hd 78 (by decide)
    exact hop_run (F := (St.eq (.bool B)).F) (wanted_yes rfl rfl rfl eg) _ (by unfold execOp; simp only [e78]; simp [hsx, hB, go_sem, ng, eqn_same]) rfl
  · intro a w hb hd
    have eg : a.eval (.tmp 75) = .bool true := hd 75 (by decide)
    have e76 : a.eval (.tmp 76) = .bool B := hd 76 (by decide)
    have e79 : a.eval (.tmp 79) = .bool B := hd 79 (by decide)
    exact hop_run (F := (St.eq (.bool true)).F) (wanted_yes rfl rfl rfl eg) _ (by unfold execOp; simp only [e76, e79]; simp [hsx, hB, go_sem, ng, eqn_same]) rfl
  · intro a w hb hd
    have e75 : a.eval (.tmp 75) = .bool true := hd 75 (by decide)
    have e80 : a.eval (.tmp 80) = .bool true := hd 80 (by decide)
    exact hop_run (F := (St.eq (.bool true)).F) (wanted_none rfl) _ (run_pick_t rfl e75 e80) rfl
  · intro a w hb hd
    have e81 : a.eval (.tmp 81) = .bool true := hd 81 (by decide)
    exact hop_run (F := (St.eq (.bool true)).F) (wanted_none rfl) _ (run_mv _ (.inl rfl) e81) rfl
  · intro a w hb hd
    have eg : a.eval (.tmp 82) = .bool true := hd 82 (by decide)
    have e16 : a.eval (.tmp 16) = _ := hd 16 (by decide)
    exact hop_run (F := (St.eq (.bool false)).F) (wanted_yes rfl rfl rfl eg) _ (run_mv _ (.inl rfl) e16) rfl
  · intro a w hb hd
    have eg : a.eval (.tmp 82) = .bool true := hd 82 (by decide)
    have e83 : a.eval (.tmp 83) = .bool false := hd 83 (by decide)
    exact hop_run (F := (St.eq (.bool true)).F) (wanted_yes rfl rfl rfl eg) _ (run_not _ _ rfl e83) rfl
  · intro a w hb hd
    have e82 : a.eval (.tmp 82) = .bool true := hd 82 (by decide)
    have e84 : a.eval (.tmp 84) = .bool true := hd 84 (by decide)
    exact hop_run (F := (St.eq (.bool true)).F) (wanted_none rfl) _ (run_pick_t rfl e82 e84) rfl
  · intro a w hb hd
    have e85 : a.eval (.tmp 85) = .bool true := hd 85 (by decide)
    exact hop_run (F := (St.eq (.bool true)).F) (wanted_none rfl) _ (run_mv _ (.inr rfl) e85) rfl
  intro p w13 bw13 hp
  obtain ⟨-, -, -, -, -, -, -, -, -, -, -, -, -, -, -, -, -, -, -, -, -, -, -, -, -, -, -, -, -, -, -, -, -, -, -, q35, -⟩ := hp
  have e35 : p 35 = .bool true := q35 (by decide)
  simp only [layAll, Act.put, List.setIfInBounds_toArray, List.set_cons_zero, List.set_cons_succ, Nat.zero_add, Nat.reduceAdd, e35]
  clear q35 e35
  have r2_14 := r2_13.step bw13
  have x_11 := x_10.step bw13
  have tB_10 := tB_9.step bw13
  have y_8 := y_7.step bw13
  have r_6 := r_5.step bw13
  have s_4 := s_3.step bw13
  have u_1 := mw12.step bw13
  have c_14 := step_trans c_13 bw13
  clear r2_13 x_10 tB_9 y_7 r_5 s_3 mw12 c_13 bw13
  go_wp2
  go_ret
  exact ⟨rfl, c_14⟩
end Go.Proofs.Yteihojjciklfoaa
