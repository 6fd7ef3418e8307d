/- What WireRecords stands on, part 12. -/
import Derived.Test.YtlbkogdmojlpmaaWireRecordsP1
import Derived.Test.YtlbkogdmojlpmaaWireRecordsP2
import Derived.Test.YtlbkogdmojlpmaaWireRecordsP3
import Derived.Test.YtlbkogdmojlpmaaWireRecordsP4
import Derived.Test.YtlbkogdmojlpmaaWireRecordsP5
import Derived.Test.YtlbkogdmojlpmaaWireRecordsP6
import Derived.Test.YtlbkogdmojlpmaaWireRecordsP7
import Derived.Test.YtlbkogdmojlpmaaWireRecordsP8
import Derived.Test.YtlbkogdmojlpmaaWireRecordsP9
import Derived.Test.YtlbkogdmojlpmaaWireRecordsP10
import Derived.Test.YtlbkogdmojlpmaaWireRecordsP11
namespace Go.Proofs.Ytlbkogdmojlpmaa
set_option linter.unusedVariables false
set_option maxRecDepth 20000
set_option linter.unusedSimpArgs false
open Go.ChangeShapes Go.WideShapes Go.ChangeAt Go.RowKit
theorem rnum1_is (l : List UInt8) (v : Value) (hl : l.length < 8) (w : World) (hv : IsB w l v) : Calls Try.prog 70 #[v] w fun e w' => e = .returned (.int .i64 ((readN l : Nat) : Int)) ∧ Below w.heap.size w w' := by
  have := rnumR_any l v (by omega) w hv
  rwa [numR_ok (numOk_short hl)] at this
theorem rrecord_ex (r : RecN) (V : RecV) (ho : RecOk r) (w : World) (hm : RecIs w r V) : Calls Try.prog 36 #[.agg (recA r V)] w fun e w' => ∃ t, e = .returned t ∧ ∃ v, t = .tuple #[v, .bool (keepB r)] ∧ Byt w' w.heap.size v (recE r) ∧ Below w.heap.size w w' :=
  (rrecord_any r V ho w hm).mono fun e w' ⟨v, h1, h2, h3⟩ => ⟨_, h1, v, rfl, h2, h3⟩
theorem rr_yes {b : List UInt8} (h1 : fewR b = false) (h2 : keepB (rrM b) = true) (h3 : recE (rrM b) = b) : rdOk b = true ∧ rdR b = rrM b := by
  obtain ⟨k1, k2⟩ := ref_rec b
  have h : rrOk b = true := by unfold rrOk provROk; rw [h1, h2, decide_eq_true h3]; rfl
  exact ⟨k1 ▸ h, by rw [← k2]; exact if_pos h⟩
theorem rr_no {b : List UInt8} (hh : fewR b = true ∨ keepB (rrM b) = false ∨ ¬ recE (rrM b) = b) : rdOk b = false ∧ rdR b = rZero := by
  obtain ⟨k1, k2⟩ := ref_rec b
  have h : rrOk b = false := by
    unfold rrOk provROk
    rcases hh with h | h | h
    · rw [h]; rfl
    · rw [h]; simp
    · rw [decide_eq_false h]; simp
  exact ⟨k1 ▸ h, by rw [← k2]; exact if_neg (by rw [h]; exact Bool.false_ne_true)⟩
attribute [local irreducible] rrM fewR numR tkV tkR
set_option maxRecDepth 100000 in
set_option maxHeartbeats 8000000 in
theorem rreadrec_any (b : List UInt8) (bv : Value) (hl : b.length ≤ 100000) (w : World) (hb : IsB w b bv) :
    Calls Try.prog 39 #[bv] w fun e w' => ∃ V, e = .returned (.tuple #[.agg (recA (rdR b) V), .bool (rdOk b)]) ∧ RecIs w' (rdR b) V ∧ (∀ q, bfp V.v2 q ∨ bfp V.v5 q → w.heap.size ≤ q) ∧ Below w.heap.size w w' := by
  obtain ⟨A0, c0, rfl⟩ := hb.shape
  obtain ⟨bF, hF⟩ : ∃ x, fewR b = x := ⟨_, rfl⟩
  obtain ⟨bK, hK⟩ : ∃ x, keepB (rrM b) = x := ⟨_, rfl⟩
  refine calls_fx (args := [.slice A0 b.length c0]) 82 Try.func39 rfl rfl rfl ?_
  intro fa F
  have M := Mx.start w
  replace M := M.argB 0 hb (fun g e => by cases e)
  refine wp_seq_k fun K1 hK1 => wp_region_lit ?_
  refine wl_alloc (wanted_none rfl) rfl F rfl M 1 (t := 54) (c := recA ⟨0, "".toUTF8, [], 0, 0, [], 0, 0, 0⟩ ⟨.slice none 0 0, .slice none 0 0⟩) (by unfold execOp; kernel_rfl) ?_
  intro g2 a2 w2 F2 M2
  clear F M
  refine rm rfl F2 fun a3 F3 => ?_
  refine hK1 _ _ (wp_seq_k fun K4 hK4 => ?_)
  refine wp_region_lit ?_
  refine rm rfl F3 fun a5 F5 => ?_
  refine rn rfl rfl F5 rfl (.agg (#[.slice A0 b.length c0, .bool false])) (by unfold execOp; simp only [List.map_toArray, List.map_cons, List.map_nil, (F5.get (t := 8) rfl)]; kernel_rfl) fun a6 F6 => ?_
  refine wl_alloc (wanted_none rfl) rfl F6 rfl M2 2 (t := 104) (c := #[.slice A0 b.length c0, .bool false]) (by unfold execOp; simp only [(F6.get (t := 9) rfl)]; kernel_rfl) ?_
  intro g7 a7 w7 F7 M7
  clear F6 M2
  refine rm rfl F7 fun a8 F8 => ?_
  refine hK4 _ _ (wp_seq_k fun K9 hK9 => ?_)
  refine wp_region_lit ?_
  refine rm rfl F8 fun a10 F10 => ?_
  refine wl_call (wanted_none rfl) rfl F10 rfl rfl (enters_of Try.func71 (by kernel_rfl) rfl) #[.pointer (some ⟨g7, 0, none⟩), .int .i64 1] (args2 (F10.get rfl) rfl) (rtake_any g7 b (.slice A0 b.length c0) false 1 hl (by omega) w7 (M7.blk (k := 2) rfl) (M7.isb (k := 0) rfl) (fun hb => M7.dis 2 0 _ _ rfl rfl (by decide) rfl g7 rfl hb)) ?_
  rintro v11 w11 a11 ⟨u11, hv11, hu11, hs11, hc11, hg11⟩ F11
  obtain ⟨q11, hq11⟩ : ∃ x, (tkR 1 b) = x := ⟨_, rfl⟩
  obtain ⟨x11, hx11⟩ : ∃ x, (tkV 1 b) = x := ⟨_, rfl⟩
  have ql11 : q11.length ≤ 100000 := by rw [← hq11]; exact Nat.le_trans (tkR_len _ _) hl
  have xl11 : x11.length = 1 := by rw [← hx11]; exact tkV_len _ _
  have xb11 := tkV1_lt b
  rw [hx11] at hv11 xb11
  rw [hq11] at hu11
  have M11 := M7.took (k := 2) (ku := 0) rfl hg11 hc11 3 4 hv11 hu11 hs11 rfl rfl
  clear M7 hg11 hc11
  obtain ⟨A11u, c11u, rfl⟩ := hu11.shape
  clear hu11
  clear hv11
  obtain ⟨A11, c11, rfl⟩ := (M11.isO (k := 3) rfl).shape
  refine wl_call (wanted_none rfl) rfl F11 rfl rfl (enters_of Try.func70 (by kernel_rfl) rfl) #[.slice A11 (x11).length c11] (args1 (F11.get rfl)) (call_ex ((rnum1_is x11 (.slice A11 (x11).length c11) (by rw [xl11]; omega) w11 (M11.isO (k := 3) rfl)))) ?_
  rintro _ w12 a12 ⟨rfl, b12⟩ F12
  have M12 := M11.step b12
  refine rn rfl rfl F12 rfl (.agg (recA ⟨((readN x11 : Nat) : Int), "".toUTF8, [], 0, 0, [], 0, 0, 0⟩ ⟨.slice none 0 0, .slice none 0 0⟩)) (by unfold execOp; simp only [List.map_toArray, List.map_cons, List.map_nil, (F12.get (t := 13) rfl)]; kernel_rfl) fun a13 F13 => ?_
  refine wl_alloc (wanted_none rfl) rfl F13 rfl M12 5 (t := 54) (c := recA ⟨0, "".toUTF8, [], 0, 0, [], 0, 0, 0⟩ ⟨.slice none 0 0, .slice none 0 0⟩) (by unfold execOp; kernel_rfl) ?_
  intro g14 a14 w14 F14 M14
  clear F13 M12
  refine wl_st (wanted_none rfl) rfl F14 M14 (k := 5) rfl _ _ _ rfl (F14.get rfl) (F14.get rfl) (recA ⟨((readN x11 : Nat) : Int), "".toUTF8, [], 0, 0, [], 0, 0, 0⟩ ⟨.slice none 0 0, .slice none 0 0⟩) (recA ⟨((readN x11 : Nat) : Int), "".toUTF8, [], 0, 0, [], 0, 0, 0⟩ ⟨.slice none 0 0, .slice none 0 0⟩) rfl (Nat.le_of_ble_eq_true rfl) (recA_one (w := w14) ⟨(isb_nil _), (isb_nil _)⟩) (y_put0 rfl) (by kernel_rfl) ?_
  intro w15 M15
  clear M14
  refine hK9 _ _ (wp_seq_k fun K16 hK16 => ?_)
  refine wp_region_lit ?_
  refine rm rfl F14 fun a17 F17 => ?_
  refine rm rfl F17 fun a18 F18 => ?_
  refine wl_call (wanted_none rfl) rfl F18 rfl rfl (enters_of Try.func71 (by kernel_rfl) rfl) #[.pointer (some ⟨g7, 0, none⟩), .int .i64 1] (args2 (F18.get rfl) rfl) (rtake_any g7 q11 (.slice A11u q11.length c11u) (fewB false 1 b) 1 ql11 (by omega) w15 (M15.blk (k := 2) rfl) (M15.isb (k := 4) rfl) (fun hb => M15.dis 2 4 _ _ rfl rfl (by decide) rfl g7 rfl hb)) ?_
  rintro v19 w19 a19 ⟨u19, hv19, hu19, hs19, hc19, hg19⟩ F19
  obtain ⟨q19, hq19⟩ : ∃ x, (tkR 1 q11) = x := ⟨_, rfl⟩
  obtain ⟨x19, hx19⟩ : ∃ x, (tkV 1 q11) = x := ⟨_, rfl⟩
  have ql19 : q19.length ≤ 100000 := by rw [← hq19]; exact Nat.le_trans (tkR_len _ _) ql11
  have xl19 : x19.length = 1 := by rw [← hx19]; exact tkV_len _ _
  have xb19 := tkV1_lt q11
  rw [hx19] at hv19 xb19
  rw [hq19] at hu19
  have M19 := M15.took (k := 2) (ku := 4) rfl hg19 hc19 6 7 hv19 hu19 hs19 rfl rfl
  clear M15 hg19 hc19
  obtain ⟨A19u, c19u, rfl⟩ := hu19.shape
  clear hu19
  clear hv19
  obtain ⟨A19, c19, rfl⟩ := (M19.isO (k := 6) rfl).shape
  refine wl_call (wanted_none rfl) rfl F19 rfl rfl (enters_of Try.func70 (by kernel_rfl) rfl) #[.slice A19 (x19).length c19] (args1 (F19.get rfl)) (call_ex ((rnum1_is x19 (.slice A19 (x19).length c19) (by rw [xl19]; omega) w19 (M19.isO (k := 6) rfl)))) ?_
  rintro _ w20 a20 ⟨rfl, b20⟩ F20
  have M20 := M19.step b20
  refine wl_call (wanted_none rfl) rfl F20 rfl rfl (enters_of Try.func71 (by kernel_rfl) rfl) #[.pointer (some ⟨g7, 0, none⟩), .int .i64 ((readN x19 : Nat) : Int)] (args2 (F20.get rfl) (F20.get rfl)) (rtake_any g7 q19 (.slice A19u q19.length c19u) (fewB (fewB false 1 b) 1 q11) (readN x19) ql19 (by omega) w20 (M20.blk (k := 2) rfl) (M20.isb (k := 7) rfl) (fun hb => M20.dis 2 7 _ _ rfl rfl (by decide) rfl g7 rfl hb)) ?_
  rintro v21 w21 a21 ⟨u21, hv21, hu21, hs21, hc21, hg21⟩ F21
  obtain ⟨q21, hq21⟩ : ∃ x, (tkR (readN x19) q19) = x := ⟨_, rfl⟩
  obtain ⟨x21, hx21⟩ : ∃ x, (tkV (readN x19) q19) = x := ⟨_, rfl⟩
  have ql21 : q21.length ≤ 100000 := by rw [← hq21]; exact Nat.le_trans (tkR_len _ _) ql19
  have xl21 : x21.length = readN x19 := by rw [← hx21]; exact tkV_len _ _
  have xb21 := True.intro
  rw [hx21] at hv21
  rw [hq21] at hu21
  have M21 := M20.took (k := 2) (ku := 7) rfl hg21 hc21 8 9 hv21 hu21 hs21 rfl rfl
  clear M20 hg21 hc21
  obtain ⟨A21u, c21u, rfl⟩ := hu21.shape
  clear hu21
  clear hv21
  obtain ⟨A21, c21, rfl⟩ := (M21.isO (k := 8) rfl).shape
  refine rn rfl rfl F21 rfl (.string (⟨(x21).toArray⟩)) (y_str _ rfl (F21.get rfl) (M21.isO (k := 8) rfl)) fun a22 F22 => ?_
  refine rn rfl rfl F22 rfl (.pointer (some ⟨g14, 1, none⟩)) (y_fa (off := 1) rfl (F22.get rfl) (by kernel_rfl) rfl) fun a23 F23 => ?_
  refine wl_st (wanted_none rfl) rfl F23 M21 (k := 5) rfl _ _ _ rfl (F23.get rfl) (F23.get rfl) (#[.string (⟨(x21).toArray⟩)]) (recA ⟨((readN x11 : Nat) : Int), ⟨(x21).toArray⟩, [], 0, 0, [], 0, 0, 0⟩ ⟨.slice none 0 0, .slice none 0 0⟩) rfl (Nat.le_of_ble_eq_true rfl) (one_str _) (by kernel_rfl) (by kernel_rfl) ?_
  intro w24 M24
  clear M21
  refine hK16 _ _ (wp_seq_k fun K25 hK25 => ?_)
  refine wp_region_lit ?_
  refine rm rfl F23 fun a26 F26 => ?_
  refine rm rfl F26 fun a27 F27 => ?_
  refine wl_call (wanted_none rfl) rfl F27 rfl rfl (enters_of Try.func71 (by kernel_rfl) rfl) #[.pointer (some ⟨g7, 0, none⟩), .int .i64 1] (args2 (F27.get rfl) rfl) (rtake_any g7 q21 (.slice A21u q21.length c21u) (fewB (fewB (fewB false 1 b) 1 q11) (readN x19) q19) 1 ql21 (by omega) w24 (M24.blk (k := 2) rfl) (M24.isb (k := 9) rfl) (fun hb => M24.dis 2 9 _ _ rfl rfl (by decide) rfl g7 rfl hb)) ?_
  rintro v28 w28 a28 ⟨u28, hv28, hu28, hs28, hc28, hg28⟩ F28
  obtain ⟨q28, hq28⟩ : ∃ x, (tkR 1 q21) = x := ⟨_, rfl⟩
  obtain ⟨x28, hx28⟩ : ∃ x, (tkV 1 q21) = x := ⟨_, rfl⟩
  have ql28 : q28.length ≤ 100000 := by rw [← hq28]; exact Nat.le_trans (tkR_len _ _) ql21
  have xl28 : x28.length = 1 := by rw [← hx28]; exact tkV_len _ _
  have xb28 := tkV1_lt q21
  rw [hx28] at hv28 xb28
  rw [hq28] at hu28
  have M28 := M24.took (k := 2) (ku := 9) rfl hg28 hc28 10 11 hv28 hu28 hs28 rfl rfl
  clear M24 hg28 hc28
  obtain ⟨A28u, c28u, rfl⟩ := hu28.shape
  clear hu28
  clear hv28
  obtain ⟨A28, c28, rfl⟩ := (M28.isO (k := 10) rfl).shape
  refine wl_call (wanted_none rfl) rfl F28 rfl rfl (enters_of Try.func70 (by kernel_rfl) rfl) #[.slice A28 (x28).length c28] (args1 (F28.get rfl)) (call_ex ((rnum1_is x28 (.slice A28 (x28).length c28) (by rw [xl28]; omega) w28 (M28.isO (k := 10) rfl)))) ?_
  rintro _ w29 a29 ⟨rfl, b29⟩ F29
  have M29 := M28.step b29
  refine wl_call (wanted_none rfl) rfl F29 rfl rfl (enters_of Try.func71 (by kernel_rfl) rfl) #[.pointer (some ⟨g7, 0, none⟩), .int .i64 ((readN x28 : Nat) : Int)] (args2 (F29.get rfl) (F29.get rfl)) (rtake_any g7 q28 (.slice A28u q28.length c28u) (fewB (fewB (fewB (fewB false 1 b) 1 q11) (readN x19) q19) 1 q21) (readN x28) ql28 (by omega) w29 (M29.blk (k := 2) rfl) (M29.isb (k := 11) rfl) (fun hb => M29.dis 2 11 _ _ rfl rfl (by decide) rfl g7 rfl hb)) ?_
  rintro v30 w30 a30 ⟨u30, hv30, hu30, hs30, hc30, hg30⟩ F30
  obtain ⟨q30, hq30⟩ : ∃ x, (tkR (readN x28) q28) = x := ⟨_, rfl⟩
  obtain ⟨x30, hx30⟩ : ∃ x, (tkV (readN x28) q28) = x := ⟨_, rfl⟩
  have ql30 : q30.length ≤ 100000 := by rw [← hq30]; exact Nat.le_trans (tkR_len _ _) ql28
  have xl30 : x30.length = readN x28 := by rw [← hx30]; exact tkV_len _ _
  have xb30 := True.intro
  rw [hx30] at hv30
  rw [hq30] at hu30
  have M30 := M29.took (k := 2) (ku := 11) rfl hg30 hc30 12 13 hv30 hu30 hs30 rfl rfl
  clear M29 hg30 hc30
  obtain ⟨A30u, c30u, rfl⟩ := hu30.shape
  clear hu30
  clear hv30
  obtain ⟨A30, c30, rfl⟩ := (M30.isO (k := 12) rfl).shape
  refine rn rfl rfl F30 rfl (.pointer (some ⟨g14, 2, none⟩)) (y_fa (off := 2) rfl (F30.get rfl) (by kernel_rfl) rfl) fun a31 F31 => ?_
  refine wl_st (wanted_none rfl) rfl F31 M30 (k := 5) rfl _ _ _ rfl (F31.get rfl) (F31.get rfl) (#[.slice A30 (x30).length c30]) (recA ⟨((readN x11 : Nat) : Int), ⟨(x21).toArray⟩, x30, 0, 0, [], 0, 0, 0⟩ ⟨.slice A30 (x30).length c30, .slice none 0 0⟩) rfl (Nat.le_of_ble_eq_true rfl) (one_slc rfl) (by kernel_rfl) (by kernel_rfl) ?_
  intro w32 M32
  clear M30
  refine hK25 _ _ (wp_seq_k fun K33 hK33 => ?_)
  refine wp_region_lit ?_
  refine rm rfl F31 fun a34 F34 => ?_
  refine rm rfl F34 fun a35 F35 => ?_
  refine wl_call (wanted_none rfl) rfl F35 rfl rfl (enters_of Try.func71 (by kernel_rfl) rfl) #[.pointer (some ⟨g7, 0, none⟩), .int .i64 1] (args2 (F35.get rfl) rfl) (rtake_any g7 q30 (.slice A30u q30.length c30u) (fewB (fewB (fewB (fewB (fewB false 1 b) 1 q11) (readN x19) q19) 1 q21) (readN x28) q28) 1 ql30 (by omega) w32 (M32.blk (k := 2) rfl) (M32.isb (k := 13) rfl) (fun hb => M32.dis 2 13 _ _ rfl rfl (by decide) rfl g7 rfl hb)) ?_
  rintro v36 w36 a36 ⟨u36, hv36, hu36, hs36, hc36, hg36⟩ F36
  obtain ⟨q36, hq36⟩ : ∃ x, (tkR 1 q30) = x := ⟨_, rfl⟩
  obtain ⟨x36, hx36⟩ : ∃ x, (tkV 1 q30) = x := ⟨_, rfl⟩
  have ql36 : q36.length ≤ 100000 := by rw [← hq36]; exact Nat.le_trans (tkR_len _ _) ql30
  have xl36 : x36.length = 1 := by rw [← hx36]; exact tkV_len _ _
  have xb36 := tkV1_lt q30
  rw [hx36] at hv36 xb36
  rw [hq36] at hu36
  have M36 := M32.took (k := 2) (ku := 13) rfl hg36 hc36 14 15 hv36 hu36 hs36 rfl rfl
  clear M32 hg36 hc36
  obtain ⟨A36u, c36u, rfl⟩ := hu36.shape
  clear hu36
  clear hv36
  obtain ⟨A36, c36, rfl⟩ := (M36.isO (k := 14) rfl).shape
  refine wl_call (wanted_none rfl) rfl F36 rfl rfl (enters_of Try.func70 (by kernel_rfl) rfl) #[.slice A36 (x36).length c36] (args1 (F36.get rfl)) (call_ex ((rnum1_is x36 (.slice A36 (x36).length c36) (by rw [xl36]; omega) w36 (M36.isO (k := 14) rfl)))) ?_
  rintro _ w37 a37 ⟨rfl, b37⟩ F37
  have M37 := M36.step b37
  refine wl_call (wanted_none rfl) rfl F37 rfl rfl (enters_of Try.func71 (by kernel_rfl) rfl) #[.pointer (some ⟨g7, 0, none⟩), .int .i64 ((readN x36 : Nat) : Int)] (args2 (F37.get rfl) (F37.get rfl)) (rtake_any g7 q36 (.slice A36u q36.length c36u) (fewB (fewB (fewB (fewB (fewB (fewB false 1 b) 1 q11) (readN x19) q19) 1 q21) (readN x28) q28) 1 q30) (readN x36) ql36 (by omega) w37 (M37.blk (k := 2) rfl) (M37.isb (k := 15) rfl) (fun hb => M37.dis 2 15 _ _ rfl rfl (by decide) rfl g7 rfl hb)) ?_
  rintro v38 w38 a38 ⟨u38, hv38, hu38, hs38, hc38, hg38⟩ F38
  obtain ⟨q38, hq38⟩ : ∃ x, (tkR (readN x36) q36) = x := ⟨_, rfl⟩
  obtain ⟨x38, hx38⟩ : ∃ x, (tkV (readN x36) q36) = x := ⟨_, rfl⟩
  have ql38 : q38.length ≤ 100000 := by rw [← hq38]; exact Nat.le_trans (tkR_len _ _) ql36
  have xl38 : x38.length = readN x36 := by rw [← hx38]; exact tkV_len _ _
  have xb38 := True.intro
  rw [hx38] at hv38
  rw [hq38] at hu38
  have M38 := M37.took (k := 2) (ku := 15) rfl hg38 hc38 16 17 hv38 hu38 hs38 rfl rfl
  clear M37 hg38 hc38
  obtain ⟨A38u, c38u, rfl⟩ := hu38.shape
  clear hu38
  clear hv38
  obtain ⟨A38, c38, rfl⟩ := (M38.isO (k := 16) rfl).shape
  refine rn rfl rfl F38 rfl (.pointer (some ⟨g14, 19, none⟩)) (y_fa (off := 19) rfl (F38.get rfl) (by kernel_rfl) rfl) fun a39 F39 => ?_
  refine wl_st (wanted_none rfl) rfl F39 M38 (k := 5) rfl _ _ _ rfl (F39.get rfl) (F39.get rfl) (#[.slice A38 (x38).length c38]) (recA ⟨((readN x11 : Nat) : Int), ⟨(x21).toArray⟩, x30, 0, 0, x38, 0, 0, 0⟩ ⟨.slice A30 (x30).length c30, .slice A38 (x38).length c38⟩) rfl (Nat.le_of_ble_eq_true rfl) (one_slc rfl) (by kernel_rfl) (by kernel_rfl) ?_
  intro w40 M40
  clear M38
  refine hK33 _ _ (wp_seq_k fun K41 hK41 => ?_)
  refine wp_region_lit ?_
  refine rm rfl F39 fun a42 F42 => ?_
  refine wl_call (wanted_none rfl) rfl F42 rfl rfl (enters_of Try.func71 (by kernel_rfl) rfl) #[.pointer (some ⟨g7, 0, none⟩), .int .i64 4] (args2 (F42.get rfl) rfl) (rtake_any g7 q38 (.slice A38u q38.length c38u) (fewB (fewB (fewB (fewB (fewB (fewB (fewB false 1 b) 1 q11) (readN x19) q19) 1 q21) (readN x28) q28) 1 q30) (readN x36) q36) 4 ql38 (by omega) w40 (M40.blk (k := 2) rfl) (M40.isb (k := 17) rfl) (fun hb => M40.dis 2 17 _ _ rfl rfl (by decide) rfl g7 rfl hb)) ?_
  rintro v43 w43 a43 ⟨u43, hv43, hu43, hs43, hc43, hg43⟩ F43
  obtain ⟨q43, hq43⟩ : ∃ x, (tkR 4 q38) = x := ⟨_, rfl⟩
  obtain ⟨x43, hx43⟩ : ∃ x, (tkV 4 q38) = x := ⟨_, rfl⟩
  have ql43 : q43.length ≤ 100000 := by rw [← hq43]; exact Nat.le_trans (tkR_len _ _) ql38
  have xl43 : x43.length = 4 := by rw [← hx43]; exact tkV_len _ _
  have xb43 := True.intro
  rw [hx43] at hv43
  rw [hq43] at hu43
  have M43 := M40.took (k := 2) (ku := 17) rfl hg43 hc43 18 19 hv43 hu43 hs43 rfl rfl
  clear M40 hg43 hc43
  obtain ⟨A43u, c43u, rfl⟩ := hu43.shape
  clear hu43
  clear hv43
  obtain ⟨A43, c43, rfl⟩ := (M43.isO (k := 18) rfl).shape
  refine wl_call (wanted_none rfl) rfl F43 rfl rfl (enters_of Try.func72 (by kernel_rfl) rfl) #[.slice A43 (x43).length c43] (args1 (F43.get rfl)) (call_ex ((rlread_is x43 (.slice A43 (x43).length c43) (readN x43) (by rw [xl43]; omega) rfl w43 (M43.isO (k := 18) rfl)))) ?_
  rintro _ w44 a44 ⟨rfl, b44⟩ F44
  have M44 := M43.step b44
  refine exA 4 [(34, .tuple #[numV (readN x43), .bool true]), (38, numV (readN x43)), (39, .bool true), (40, .pointer (some ⟨g14, 3, none⟩))] [] dnil [] F44 (by kernel_rfl) (by kernel_rfl) fun a45 F45 => ?_
  simp only [List.drop_succ_cons, List.drop_zero]
  refine wl_st (wanted_none rfl) rfl F45 M44 (k := 5) rfl _ _ _ rfl (F45.get rfl) (F45.get rfl) (numA (readN x43)) (recA ⟨((readN x11 : Nat) : Int), ⟨(x21).toArray⟩, x30, (readN x43), 0, x38, 0, 0, 0⟩ ⟨.slice A30 (x30).length c30, .slice A38 (x38).length c38⟩) rfl (Nat.le_of_ble_eq_true rfl) (numA_one _) (by kernel_rfl) size26 ?_
  intro w46 M46
  clear M44
  refine hK41 _ _ (wp_seq_k fun K47 hK47 => ?_)
  refine wp_region_lit ?_
  refine rm rfl F45 fun a48 F48 => ?_
  refine wl_call (wanted_none rfl) rfl F48 rfl rfl (enters_of Try.func71 (by kernel_rfl) rfl) #[.pointer (some ⟨g7, 0, none⟩), .int .i64 4] (args2 (F48.get rfl) rfl) (rtake_any g7 q43 (.slice A43u q43.length c43u) (fewB (fewB (fewB (fewB (fewB (fewB (fewB (fewB false 1 b) 1 q11) (readN x19) q19) 1 q21) (readN x28) q28) 1 q30) (readN x36) q36) 4 q38) 4 ql43 (by omega) w46 (M46.blk (k := 2) rfl) (M46.isb (k := 19) rfl) (fun hb => M46.dis 2 19 _ _ rfl rfl (by decide) rfl g7 rfl hb)) ?_
  rintro v49 w49 a49 ⟨u49, hv49, hu49, hs49, hc49, hg49⟩ F49
  obtain ⟨q49, hq49⟩ : ∃ x, (tkR 4 q43) = x := ⟨_, rfl⟩
  obtain ⟨x49, hx49⟩ : ∃ x, (tkV 4 q43) = x := ⟨_, rfl⟩
  have ql49 : q49.length ≤ 100000 := by rw [← hq49]; exact Nat.le_trans (tkR_len _ _) ql43
  have xl49 : x49.length = 4 := by rw [← hx49]; exact tkV_len _ _
  have xb49 := True.intro
  rw [hx49] at hv49
  rw [hq49] at hu49
  have M49 := M46.took (k := 2) (ku := 19) rfl hg49 hc49 20 21 hv49 hu49 hs49 rfl rfl
  clear M46 hg49 hc49
  obtain ⟨A49u, c49u, rfl⟩ := hu49.shape
  clear hu49
  clear hv49
  obtain ⟨A49, c49, rfl⟩ := (M49.isO (k := 20) rfl).shape
  refine wl_call (wanted_none rfl) rfl F49 rfl rfl (enters_of Try.func72 (by kernel_rfl) rfl) #[.slice A49 (x49).length c49] (args1 (F49.get rfl)) (call_ex ((rlread_is x49 (.slice A49 (x49).length c49) (readN x49) (by rw [xl49]; omega) rfl w49 (M49.isO (k := 20) rfl)))) ?_
  rintro _ w50 a50 ⟨rfl, b50⟩ F50
  have M50 := M49.step b50
  refine exA 4 [(41, .tuple #[numV (readN x49), .bool true]), (45, numV (readN x49)), (46, .bool true), (47, .pointer (some ⟨g14, 11, none⟩))] [] dnil [] F50 (by kernel_rfl) (by kernel_rfl) fun a51 F51 => ?_
  simp only [List.drop_succ_cons, List.drop_zero]
  refine wl_st (wanted_none rfl) rfl F51 M50 (k := 5) rfl _ _ _ rfl (F51.get rfl) (F51.get rfl) (numA (readN x49)) (recA ⟨((readN x11 : Nat) : Int), ⟨(x21).toArray⟩, x30, (readN x43), (readN x49), x38, 0, 0, 0⟩ ⟨.slice A30 (x30).length c30, .slice A38 (x38).length c38⟩) rfl (Nat.le_of_ble_eq_true rfl) (numA_one _) (by kernel_rfl) size26 ?_
  intro w52 M52
  clear M50
  refine hK47 _ _ (wp_seq_k fun K53 hK53 => ?_)
  refine wp_region_lit ?_
  refine rm rfl F51 fun a54 F54 => ?_
  refine wl_call (wanted_none rfl) rfl F54 rfl rfl (enters_of Try.func71 (by kernel_rfl) rfl) #[.pointer (some ⟨g7, 0, none⟩), .int .i64 1] (args2 (F54.get rfl) rfl) (rtake_any g7 q49 (.slice A49u q49.length c49u) (fewB (fewB (fewB (fewB (fewB (fewB (fewB (fewB (fewB false 1 b) 1 q11) (readN x19) q19) 1 q21) (readN x28) q28) 1 q30) (readN x36) q36) 4 q38) 4 q43) 1 ql49 (by omega) w52 (M52.blk (k := 2) rfl) (M52.isb (k := 21) rfl) (fun hb => M52.dis 2 21 _ _ rfl rfl (by decide) rfl g7 rfl hb)) ?_
  rintro v55 w55 a55 ⟨u55, hv55, hu55, hs55, hc55, hg55⟩ F55
  obtain ⟨q55, hq55⟩ : ∃ x, (tkR 1 q49) = x := ⟨_, rfl⟩
  obtain ⟨x55, hx55⟩ : ∃ x, (tkV 1 q49) = x := ⟨_, rfl⟩
  have ql55 : q55.length ≤ 100000 := by rw [← hq55]; exact Nat.le_trans (tkR_len _ _) ql49
  have xl55 : x55.length = 1 := by rw [← hx55]; exact tkV_len _ _
  have xb55 := tkV1_lt q49
  rw [hx55] at hv55 xb55
  rw [hq55] at hu55
  have M55 := M52.took (k := 2) (ku := 21) rfl hg55 hc55 22 23 hv55 hu55 hs55 rfl rfl
  clear M52 hg55 hc55
  obtain ⟨A55u, c55u, rfl⟩ := hu55.shape
  clear hu55
  clear hv55
  obtain ⟨A55, c55, rfl⟩ := (M55.isO (k := 22) rfl).shape
  refine wl_call (wanted_none rfl) rfl F55 rfl rfl (enters_of Try.func70 (by kernel_rfl) rfl) #[.slice A55 (x55).length c55] (args1 (F55.get rfl)) (call_ex ((rnum1_is x55 (.slice A55 (x55).length c55) (by rw [xl55]; omega) w55 (M55.isO (k := 22) rfl)))) ?_
  rintro _ w56 a56 ⟨rfl, b56⟩ F56
  have M56 := M55.step b56
  refine rn rfl rfl F56 rfl (.pointer (some ⟨g14, 20, none⟩)) (y_fa (off := 20) rfl (F56.get rfl) (by kernel_rfl) rfl) fun a57 F57 => ?_
  refine wl_st (wanted_none rfl) rfl F57 M56 (k := 5) rfl _ _ _ rfl (F57.get rfl) (F57.get rfl) (#[.int .i64 ((readN x55 : Nat) : Int)]) (recA ⟨((readN x11 : Nat) : Int), ⟨(x21).toArray⟩, x30, (readN x43), (readN x49), x38, ((readN x55 : Nat) : Int), 0, 0⟩ ⟨.slice A30 (x30).length c30, .slice A38 (x38).length c38⟩) rfl (Nat.le_of_ble_eq_true rfl) (one_int _ _) (by kernel_rfl) (by kernel_rfl) ?_
  intro w58 M58
  clear M56
  refine hK53 _ _ (wp_seq_k fun K59 hK59 => ?_)
  refine wp_region_lit ?_
  refine rm rfl F57 fun a60 F60 => ?_
  refine wl_call (wanted_none rfl) rfl F60 rfl rfl (enters_of Try.func71 (by kernel_rfl) rfl) #[.pointer (some ⟨g7, 0, none⟩), .int .i64 8] (args2 (F60.get rfl) rfl) (rtake_any g7 q55 (.slice A55u q55.length c55u) (fewB (fewB (fewB (fewB (fewB (fewB (fewB (fewB (fewB (fewB false 1 b) 1 q11) (readN x19) q19) 1 q21) (readN x28) q28) 1 q30) (readN x36) q36) 4 q38) 4 q43) 1 q49) 8 ql55 (by omega) w58 (M58.blk (k := 2) rfl) (M58.isb (k := 23) rfl) (fun hb => M58.dis 2 23 _ _ rfl rfl (by decide) rfl g7 rfl hb)) ?_
  rintro v61 w61 a61 ⟨u61, hv61, hu61, hs61, hc61, hg61⟩ F61
  obtain ⟨q61, hq61⟩ : ∃ x, (tkR 8 q55) = x := ⟨_, rfl⟩
  obtain ⟨x61, hx61⟩ : ∃ x, (tkV 8 q55) = x := ⟨_, rfl⟩
  have ql61 : q61.length ≤ 100000 := by rw [← hq61]; exact Nat.le_trans (tkR_len _ _) ql55
  have xl61 : x61.length = 8 := by rw [← hx61]; exact tkV_len _ _
  have xb61 := True.intro
  rw [hx61] at hv61
  rw [hq61] at hu61
  have M61 := M58.took (k := 2) (ku := 23) rfl hg61 hc61 24 25 hv61 hu61 hs61 rfl rfl
  clear M58 hg61 hc61
  obtain ⟨A61u, c61u, rfl⟩ := hu61.shape
  clear hu61
  clear hv61
  obtain ⟨A61, c61, rfl⟩ := (M61.isO (k := 24) rfl).shape
  refine wl_call (wanted_none rfl) rfl F61 rfl rfl (enters_of Try.func70 (by kernel_rfl) rfl) #[.slice A61 (x61).length c61] (args1 (F61.get rfl)) (call_ex ((rnumR_any x61 (.slice A61 (x61).length c61) (by rw [xl61]; omega) w61 (M61.isO (k := 24) rfl)))) ?_
  rintro _ w62 a62 ⟨rfl, b62⟩ F62
  have M62 := M61.step b62
  refine rn rfl rfl F62 rfl (.pointer (some ⟨g14, 21, none⟩)) (y_fa (off := 21) rfl (F62.get rfl) (by kernel_rfl) rfl) fun a63 F63 => ?_
  refine wl_st (wanted_none rfl) rfl F63 M62 (k := 5) rfl _ _ _ rfl (F63.get rfl) (F63.get rfl) (#[.int .i64 (numR x61)]) (recA ⟨((readN x11 : Nat) : Int), ⟨(x21).toArray⟩, x30, (readN x43), (readN x49), x38, ((readN x55 : Nat) : Int), (numR x61), 0⟩ ⟨.slice A30 (x30).length c30, .slice A38 (x38).length c38⟩) rfl (Nat.le_of_ble_eq_true rfl) (one_int _ _) (by kernel_rfl) (by kernel_rfl) ?_
  intro w64 M64
  clear M62
  refine hK59 _ _ (wp_seq_k fun K65 hK65 => ?_)
  refine wp_region_lit ?_
  refine rm rfl F63 fun a66 F66 => ?_
  refine wl_call (wanted_none rfl) rfl F66 rfl rfl (enters_of Try.func71 (by kernel_rfl) rfl) #[.pointer (some ⟨g7, 0, none⟩), .int .i64 8] (args2 (F66.get rfl) rfl) (rtake_any g7 q61 (.slice A61u q61.length c61u) (fewB (fewB (fewB (fewB (fewB (fewB (fewB (fewB (fewB (fewB (fewB false 1 b) 1 q11) (readN x19) q19) 1 q21) (readN x28) q28) 1 q30) (readN x36) q36) 4 q38) 4 q43) 1 q49) 8 q55) 8 ql61 (by omega) w64 (M64.blk (k := 2) rfl) (M64.isb (k := 25) rfl) (fun hb => M64.dis 2 25 _ _ rfl rfl (by decide) rfl g7 rfl hb)) ?_
  rintro v67 w67 a67 ⟨u67, hv67, hu67, hs67, hc67, hg67⟩ F67
  obtain ⟨q67, hq67⟩ : ∃ x, (tkR 8 q61) = x := ⟨_, rfl⟩
  obtain ⟨x67, hx67⟩ : ∃ x, (tkV 8 q61) = x := ⟨_, rfl⟩
  have ql67 : q67.length ≤ 100000 := by rw [← hq67]; exact Nat.le_trans (tkR_len _ _) ql61
  have xl67 : x67.length = 8 := by rw [← hx67]; exact tkV_len _ _
  have xb67 := True.intro
  rw [hx67] at hv67
  rw [hq67] at hu67
  have M67 := M64.took (k := 2) (ku := 25) rfl hg67 hc67 26 27 hv67 hu67 hs67 rfl rfl
  clear M64 hg67 hc67
  obtain ⟨A67u, c67u, rfl⟩ := hu67.shape
  clear hu67
  clear hv67
  obtain ⟨A67, c67, rfl⟩ := (M67.isO (k := 26) rfl).shape
  refine wl_call (wanted_none rfl) rfl F67 rfl rfl (enters_of Try.func70 (by kernel_rfl) rfl) #[.slice A67 (x67).length c67] (args1 (F67.get rfl)) (call_ex ((rnumR_any x67 (.slice A67 (x67).length c67) (by rw [xl67]; omega) w67 (M67.isO (k := 26) rfl)))) ?_
  rintro _ w68 a68 ⟨rfl, b68⟩ F68
  have M68 := M67.step b68
  refine rn rfl rfl F68 rfl (.pointer (some ⟨g14, 22, none⟩)) (y_fa (off := 22) rfl (F68.get rfl) (by kernel_rfl) rfl) fun a69 F69 => ?_
  refine wl_st (wanted_none rfl) rfl F69 M68 (k := 5) rfl _ _ _ rfl (F69.get rfl) (F69.get rfl) (#[.int .i64 (numR x67)]) (recA ⟨((readN x11 : Nat) : Int), ⟨(x21).toArray⟩, x30, (readN x43), (readN x49), x38, ((readN x55 : Nat) : Int), (numR x61), (numR x67)⟩ ⟨.slice A30 (x30).length c30, .slice A38 (x38).length c38⟩) rfl (Nat.le_of_ble_eq_true rfl) (one_int _ _) (by kernel_rfl) (by kernel_rfl) ?_
  intro w70 M70
  clear M68
  refine hK65 _ _ (wp_seq_k fun K71 hK71 => ?_)
  refine wp_region_lit ?_
  have h2L : x30 = (rrM b).l2 := by simp only [rrM, ctV, ctR, hq11, hx11, hq19, hx19, hq21, hx21, hq28, hx28, hq30, hx30, hq36, hx36, hq38, hx38, hq43, hx43, hq49, hx49, hq55, hx55, hq61, hx61, hq67, hx67]
  have h5L : x38 = (rrM b).l5 := by simp only [rrM, ctV, ctR, hq11, hx11, hq19, hx19, hq21, hx21, hq28, hx28, hq30, hx30, hq36, hx36, hq38, hx38, hq43, hx43, hq49, hx49, hq55, hx55, hq61, hx61, hq67, hx67]
  have hrm : (⟨((readN x11 : Nat) : Int), ⟨(x21).toArray⟩, x30, (readN x43), (readN x49), x38, ((readN x55 : Nat) : Int), (numR x61), (numR x67)⟩ : RecN) = rrM b := by simp only [rrM, ctV, ctR, hq11, hx11, hq19, hx19, hq21, hx21, hq28, hx28, hq30, hx30, hq36, hx36, hq38, hx38, hq43, hx43, hq49, hx49, hq55, hx55, hq61, hx61, hq67, hx67]
  rw [hrm] at M70
  clear hrm
  refine rn rfl rfl F69 rfl (.agg (recA (rrM b) ⟨.slice A30 (x30).length c30, .slice A38 (x38).length c38⟩)) (y_ldN _ _ rfl (F69.get rfl) (M70.blk (k := 5) rfl) (recA (rrM b) ⟨.slice A30 (x30).length c30, .slice A38 (x38).length c38⟩) (y_all rfl) Try.underlying54 rfl (by kernel_rfl)) fun a72 F72 => ?_
  have hfl : (fewB (fewB (fewB (fewB (fewB (fewB (fewB (fewB (fewB (fewB (fewB (fewB false 1 b) 1 q11) (readN x19) q19) 1 q21) (readN x28) q28) 1 q30) (readN x36) q36) 4 q38) 4 q43) 1 q49) 8 q55) 8 q61) = bF := by rw [← hF]; simp only [fewR, fewC, ctR, hq11, hx11, hq19, hx19, hq21, hx21, hq28, hx28, hq30, hx30, hq36, hx36, hq38, hx38, hq43, hx43, hq49, hx49, hq55, hx55, hq61, hx61, hq67, hx67]
  rw [hfl] at M70
  clear hfl
  refine wl_call (wanted_none rfl) rfl F72 rfl rfl (enters_of Try.func36 (by kernel_rfl) rfl) #[.agg (recA (rrM b) ⟨.slice A30 (x30).length c30, .slice A38 (x38).length c38⟩)] (args1 (F72.get rfl)) (hK ▸ rrecord_ex (rrM b) ⟨.slice A30 (x30).length c30, .slice A38 (x38).length c38⟩ (rrM_ok b) w70 ⟨h2L ▸ M70.isO (k := 12) rfl, h5L ▸ M70.isO (k := 16) rfl⟩) ?_
  rintro _ w73 a73 ⟨v73, rfl, hv73, b73⟩ F73
  have M73 := M70.newO b73 28 hv73
  clear M70 b73 hv73
  obtain ⟨A73, c73, rfl⟩ := (M73.isO (k := 28) rfl).shape
  refine exS 5 [(0, .slice A0 b.length c0), (2, .pointer (some ⟨g2, 0, none⟩)), (3, .bool false), (4, .pointer (some ⟨g7, 0, none⟩)), (5, .pointer (some ⟨g14, 0, none⟩)), (6, .slice A73 ((recE (rrM b))).length c73), (7, .bool bK)] [] dnil [] F73 (by kernel_rfl) fun a74 F74 => ?_
  simp only [List.drop_succ_cons, List.drop_zero]
  refine hK71 _ _ (wp_seq_k fun K75 hK75 => ?_)
  refine wp_seq_k fun K76 hK76 => wp_region_lit ?_
  refine exA 3 [(65, .pointer (some ⟨g7, 0, none⟩)), (66, .pointer (some ⟨g7, 0, none⟩)), (67, .pointer (some ⟨g7, 1, none⟩))] [] dnil [] F74 (by kernel_rfl) (by kernel_rfl) fun a77 F77 => ?_
  simp only [List.drop_succ_cons, List.drop_zero]
  cases bF
  rotate_left
  · refine exS 12 [(2, .pointer (some ⟨g2, 0, none⟩)), (3, .bool false), (5, .pointer (some ⟨g14, 0, none⟩)), (79, .bool true)] [0] (dcons (M73.blk (k := 2) rfl) dnil) [g7] F77 (by kernel_rfl) fun a101 F101 => ?_
    simp only [List.drop_succ_cons, List.drop_zero]
    refine hK76 _ _ (wp_cond_true (F101.get (t := 79) rfl) ?_)
    refine wp_seq_k fun K102 hK102 => wp_region_lit ?_
    refine rn rfl rfl F101 rfl (.agg (recA ⟨0, "".toUTF8, [], 0, 0, [], 0, 0, 0⟩ ⟨.slice none 0 0, .slice none 0 0⟩)) (by unfold execOp; kernel_rfl) fun a103 F103 => ?_
    refine wl_st (wanted_none rfl) rfl F103 M73 (k := 1) rfl _ _ _ rfl (F103.get rfl) (F103.get rfl) (recA ⟨0, "".toUTF8, [], 0, 0, [], 0, 0, 0⟩ ⟨.slice none 0 0, .slice none 0 0⟩) (recA ⟨0, "".toUTF8, [], 0, 0, [], 0, 0, 0⟩ ⟨.slice none 0 0, .slice none 0 0⟩) rfl (Nat.le_of_ble_eq_true rfl) (recA_one (w := w73) ⟨(isb_nil _), (isb_nil _)⟩) (y_put0 rfl) (by kernel_rfl) ?_
    intro w104 M104
    clear M73
    refine rm rfl F103 fun a105 F105 => ?_
    refine hK102 _ _ (wp_ret ?_)
    try simp only [Exit.then, Exit.inBlock, Exit.jump]
    exact bodyPost_ret (resCT rfl (F105.get (t := 2) rfl) (M104.blk (k := 1) rfl) (F105.get (t := 3) rfl) Try.underlying54 rfl (by kernel_rfl)) F105.defers ⟨rvZero, (by rw [(rr_no (.inl hF)).1, (rr_no (.inl hF)).2]; rfl), (by rw [(rr_no (.inl hF)).2]; exact rvZero_is _), (fun q h => h.elim (fun h => (bfp_nil q h).elim) (fun h => (bfp_nil q h).elim)), M104.below⟩
  refine exA 3 [(68, .bool false), (69, .bool false), (70, .bool bK)] [0] (dcons (M73.blk (k := 2) rfl) dnil) [g7] F77 (by kernel_rfl) (by kernel_rfl) fun a78 F78 => ?_
  simp only [List.drop_succ_cons, List.drop_zero]
  cases bK
  · refine exS 9 [(2, .pointer (some ⟨g2, 0, none⟩)), (3, .bool false), (5, .pointer (some ⟨g14, 0, none⟩)), (79, .bool true)] [] dnil [] F78 (by kernel_rfl) fun a79 F79 => ?_
    simp only [List.drop_succ_cons, List.drop_zero]
    refine hK76 _ _ (wp_cond_true (F79.get (t := 79) rfl) ?_)
    refine wp_seq_k fun K80 hK80 => wp_region_lit ?_
    refine rn rfl rfl F79 rfl (.agg (recA ⟨0, "".toUTF8, [], 0, 0, [], 0, 0, 0⟩ ⟨.slice none 0 0, .slice none 0 0⟩)) (by unfold execOp; kernel_rfl) fun a81 F81 => ?_
    refine wl_st (wanted_none rfl) rfl F81 M73 (k := 1) rfl _ _ _ rfl (F81.get rfl) (F81.get rfl) (recA ⟨0, "".toUTF8, [], 0, 0, [], 0, 0, 0⟩ ⟨.slice none 0 0, .slice none 0 0⟩) (recA ⟨0, "".toUTF8, [], 0, 0, [], 0, 0, 0⟩ ⟨.slice none 0 0, .slice none 0 0⟩) rfl (Nat.le_of_ble_eq_true rfl) (recA_one (w := w73) ⟨(isb_nil _), (isb_nil _)⟩) (y_put0 rfl) (by kernel_rfl) ?_
    intro w82 M82
    clear M73
    refine rm rfl F81 fun a83 F83 => ?_
    refine hK80 _ _ (wp_ret ?_)
    try simp only [Exit.then, Exit.inBlock, Exit.jump]
    exact bodyPost_ret (resCT rfl (F83.get (t := 2) rfl) (M82.blk (k := 1) rfl) (F83.get (t := 3) rfl) Try.underlying54 rfl (by kernel_rfl)) F83.defers ⟨rvZero, (by rw [(rr_no (.inr (.inl hK))).1, (rr_no (.inr (.inl hK))).2]; rfl), (by rw [(rr_no (.inr (.inl hK))).2]; exact rvZero_is _), (fun q h => h.elim (fun h => (bfp_nil q h).elim) (fun h => (bfp_nil q h).elim)), M82.below⟩
  refine exA 4 [(71, .bool false), (72, .bool false), (73, .bool false), (74, .slice A73 ((recE (rrM b))).length c73)] [] dnil [] F78 (by kernel_rfl) (by kernel_rfl) fun a84 F84 => ?_
  simp only [List.drop_succ_cons, List.drop_zero]
  refine wl_run (w' := w73) (wanted_yes rfl rfl rfl (F84.get rfl)) rfl F84 rfl (.string (⟨((recE (rrM b))).toArray⟩)) (y_str _ rfl (F84.get rfl) (M73.isO (k := 28) rfl)) fun a85 F85 => ?_
  refine rm rfl F85 fun a86 F86 => ?_
  refine wl_run (w' := w73) (wanted_yes rfl rfl rfl (F86.get rfl)) rfl F86 rfl (.string (⟨(b).toArray⟩)) (y_str _ rfl (F86.get rfl) (M73.isb (k := 0) rfl)) fun a87 F87 => ?_
  by_cases h88 : (recE (rrM b)) = b
  rotate_left
  · refine wl_run (w' := w73) (wanted_yes rfl rfl rfl (F87.get rfl)) rfl F87 rfl (.bool true) (y_neS _ _ _ rfl (F87.get rfl) (F87.get rfl) (str_neT h88)) fun a95 F95 => ?_
    refine rn rfl rfl F95 rfl (.bool true) (run_pick_f rfl (F95.get rfl) (F95.get rfl)) fun a96 F96 => ?_
    refine hK76 _ _ (wp_cond_true (F96.get (t := 79) rfl) ?_)
    refine wp_seq_k fun K97 hK97 => wp_region_lit ?_
    refine rn rfl rfl F96 rfl (.agg (recA ⟨0, "".toUTF8, [], 0, 0, [], 0, 0, 0⟩ ⟨.slice none 0 0, .slice none 0 0⟩)) (by unfold execOp; kernel_rfl) fun a98 F98 => ?_
    refine wl_st (wanted_none rfl) rfl F98 M73 (k := 1) rfl _ _ _ rfl (F98.get rfl) (F98.get rfl) (recA ⟨0, "".toUTF8, [], 0, 0, [], 0, 0, 0⟩ ⟨.slice none 0 0, .slice none 0 0⟩) (recA ⟨0, "".toUTF8, [], 0, 0, [], 0, 0, 0⟩ ⟨.slice none 0 0, .slice none 0 0⟩) rfl (Nat.le_of_ble_eq_true rfl) (recA_one (w := w73) ⟨(isb_nil _), (isb_nil _)⟩) (y_put0 rfl) (by kernel_rfl) ?_
    intro w99 M99
    clear M73
    refine rm rfl F98 fun a100 F100 => ?_
    refine hK97 _ _ (wp_ret ?_)
    try simp only [Exit.then, Exit.inBlock, Exit.jump]
    exact bodyPost_ret (resCT rfl (F100.get (t := 2) rfl) (M99.blk (k := 1) rfl) (F100.get (t := 3) rfl) Try.underlying54 rfl (by kernel_rfl)) F100.defers ⟨rvZero, (by rw [(rr_no (.inr (.inr h88))).1, (rr_no (.inr (.inr h88))).2]; rfl), (by rw [(rr_no (.inr (.inr h88))).2]; exact rvZero_is _), (fun q h => h.elim (fun h => (bfp_nil q h).elim) (fun h => (bfp_nil q h).elim)), M99.below⟩
  refine wl_run (w' := w73) (wanted_yes rfl rfl rfl (F87.get rfl)) rfl F87 rfl (.bool false) (y_neS _ _ _ rfl (F87.get rfl) (F87.get rfl) (str_neF h88)) fun a89 F89 => ?_
  refine rn rfl rfl F89 rfl (.bool false) (run_pick_f rfl (F89.get rfl) (F89.get rfl)) fun a90 F90 => ?_
  refine hK76 _ _ (wp_cond_false (F90.get (t := 79) rfl) ?_)
  refine wp_skip ?_
  refine hK75 _ _ (wp_seq_k fun K91 hK91 => ?_)
  refine wp_region_lit ?_
  refine rn rfl rfl F90 rfl (.agg (recA (rrM b) ⟨.slice A30 (x30).length c30, .slice A38 (x38).length c38⟩)) (y_ldN _ _ rfl (F90.get rfl) (M73.blk (k := 5) rfl) (recA (rrM b) ⟨.slice A30 (x30).length c30, .slice A38 (x38).length c38⟩) (y_all rfl) Try.underlying54 rfl (by kernel_rfl)) fun a92 F92 => ?_
  refine wl_st (wanted_none rfl) rfl F92 M73 (k := 1) rfl _ _ _ rfl (F92.get rfl) (F92.get rfl) (recA (rrM b) ⟨.slice A30 (x30).length c30, .slice A38 (x38).length c38⟩) (recA (rrM b) ⟨.slice A30 (x30).length c30, .slice A38 (x38).length c38⟩) rfl (Nat.le_of_ble_eq_true rfl) (recA_one (w := w73) ⟨h2L ▸ (M73.isO (k := 12) rfl), h5L ▸ (M73.isO (k := 16) rfl)⟩) (y_put0 rfl) (by kernel_rfl) ?_
  intro w93 M93
  clear M73
  refine rm rfl F92 fun a94 F94 => ?_
  refine hK91 _ _ (wp_ret ?_)
  try simp only [Exit.then, Exit.inBlock, Exit.jump]
  exact bodyPost_ret (resCT rfl (F94.get (t := 2) rfl) (M93.blk (k := 1) rfl) (F94.get (t := 3) rfl) Try.underlying54 rfl (by kernel_rfl)) F94.defers ⟨⟨.slice A30 (x30).length c30, .slice A38 (x38).length c38⟩, (by rw [(rr_yes hF hK h88).1, (rr_yes hF hK h88).2]), (by rw [(rr_yes hF hK h88).2]; exact ⟨h2L ▸ M93.isO (k := 12) rfl, h5L ▸ M93.isO (k := 16) rfl⟩), (fun q h => h.elim (fun h => M93.owns (k := 12) rfl q (bfp_ofp h)) (fun h => M93.owns (k := 16) rfl q (bfp_ofp h))), M93.below⟩
end Go.Proofs.Ytlbkogdmojlpmaa
namespace Go.Proofs.Ytlbkogdmojlpmaa
set_option linter.unusedVariables false
set_option maxRecDepth 20000
set_option linter.unusedSimpArgs false
open Go.ChangeShapes Go.WideShapes Go.ChangeAt Go.RowKit Go.Shelf
theorem one_slcB {w : World} {l : List UInt8} {v : Value} (h : IsB w l v) : (#[v]).all (·.oneCell') = true := by
  obtain ⟨A, c, rfl⟩ := h.shape
  simp [Value.oneCell']
theorem tdiv_in {p q : Int} (hp : -9223372036854775808 ≤ p ∧ p < 9223372036854775808) (hq : 0 < q) : -9223372036854775808 ≤ p.tdiv q ∧ p.tdiv q ≤ 9223372036854775807 := by
  by_cases h : 0 ≤ p
  · rw [Int.tdiv_eq_ediv_of_nonneg h]
    have h1 := Int.ediv_le_self q h
    have h2 := Int.ediv_nonneg h (Int.le_of_lt hq)
    omega
  · obtain ⟨r, rfl⟩ : ∃ r, p = -r := ⟨-p, by omega⟩
    rw [Int.neg_tdiv, Int.tdiv_eq_ediv_of_nonneg (by omega)]
    have h1 := Int.ediv_le_self q (show 0 ≤ r by omega)
    have h2 := Int.ediv_nonneg (show 0 ≤ r by omega) (Int.le_of_lt hq)
    omega
section
variable {P : Program} {a : Act} {w w0 : World} {o : Oper} {G : Option Nat} {R : List (Nat × Res)}
theorem y_quoT (ty tz : TypeId) (x y : Operand) {p q z : Int} (ho : o.op = .binOp .quo ty x y tz) (hx : a.eval x = .int .i64 p) (hy : a.eval y = .int .i64 q) (hp : -9223372036854775808 ≤ p ∧ p < 9223372036854775808) (hq : 0 < q) (hz : p.tdiv q = z) : (execOp a.eval o).run Try.prog w = .ok (.value (.int .i64 z)) w := by
  subst hz
  have h0 : ¬ q = 0 := by omega
  have h1 : IntKind.i64.wrap (p.tdiv q) = p.tdiv q := Go.IntWalk.i64_in _ (tdiv_in hp hq)
  unfold execOp; simp only [ho, hx, hy]; simp [go_sem, h0, h1]
end
end Go.Proofs.Ytlbkogdmojlpmaa
namespace Go.Proofs.Ytlbkogdmojlpmaa
set_option linter.unusedVariables false
set_option maxRecDepth 20000
set_option linter.unusedSimpArgs false
open Go.ChangeShapes Go.WideShapes Go.ChangeAt Go.RowKit Go.Shelf
def Oz (w : World) (v : Value) (l : List UInt8) : Prop :=
  ∃ g c cur lo hi, v = .slice (some ⟨g, 0, none⟩) l.length c ∧ w.heap[g]? = some (.cells cur 5 (lo, hi)) ∧ l.length ≤ lo ∧ l.length ≤ c ∧ c ≤ maxLen ∧ ∀ (j : Nat) (b : UInt8), l[j]? = some b → cur[j]? = some (bv b)
def ozR (l : List UInt8) (v : Value) : Res := ⟨true, ofp v, fun w => Oz w v l⟩
theorem Oz.same {l : List UInt8} {v : Value} {u u' : World} (hs : Same (ofp v) u u') (h : Oz u v l) : Oz u' v l := by
  obtain ⟨g, c, cur, lo, hi, rfl, hg, h1, h2, h3, h4⟩ := h
  exact ⟨g, c, cur, lo, hi, rfl, hs g _ (by simp [ofp, Value.ownBlock]) hg, h1, h2, h3, h4⟩
theorem ozR_dep {l : List UInt8} {v : Value} : ∀ u u', Same (ozR l v).fp u u' → (ozR l v).F u → (ozR l v).F u' := fun _ _ hs h => Oz.same hs h
theorem Oz.isb {w : World} {v : Value} {l : List UInt8} (h : Oz w v l) : IsB w l v := by
  obtain ⟨g, c, cur, lo, hi, rfl, hg, h1, h2, h3, h4⟩ := h
  refine ⟨_, _, rfl, h2, h3, (fun e => by cases e), fun _ => ⟨_, rfl, heap_lt hg, fun j b hj => ?_⟩⟩
  rw [addr_add, Nat.zero_add]
  simp [World.cell?, hg, h4 j b hj]
theorem Oz.lt {w : World} {v : Value} {l : List UInt8} (h : Oz w v l) : ∀ g, ofp v g → g < w.heap.size := fun q hq => by
  obtain ⟨g, c, cur, lo, hi, rfl, hg, h1, h2, h3, h4⟩ := h
  obtain rfl : g = q := by simpa [ofp, Value.ownBlock] using hq
  exact heap_lt hg
section
variable {G : Option Nat} {w0 w w' : World} {R : List (Nat × Res)} {l : List UInt8} {v : Value} {a : Act} {o : Oper}
theorem Mx.isZ (M : Mx G w0 w R) {k : Nat} (h : look R k = some (ozR l v)) : IsB w l v := Oz.isb (M.at_ k _ h)
theorem Mx.tameZ (M : Mx G w0 w R) {k : Nat} (hk : look R k = some (ozR l v)) : Mx G w0 w ((k, bytR l v) :: R) :=
  M.cons k _ (M.isZ hk) bytR_dep (fun g hg => M.lt k _ hk g (bfp_ofp hg)) (fun e => by cases e) fun j s e hj _ g hg hs => M.dis k j _ s hk e hj rfl g (bfp_ofp hg) hs
theorem run_cvZ (M : Mx G w0 w R) (i : Nat) (x : Operand) (ho : o.op = .convert 9 22 x) {s : ByteArray} (hx : a.eval x = .string s) (hs : s.size ≤ 1000000) :
    ∃ v w', (execOp a.eval o).run Try.prog w = .ok (.value v) w' ∧ Mx G w0 w' ((i, ozR (sBy s) v) :: R) := by
  have hc := grownCap_ge w s.size 0 5
  have hm := grownCap_le_maxLen w s.size 0 5 (by unfold maxLen; omega)
  obtain ⟨w', hw'⟩ : ∃ w', w' = w.drew.alloc (.cells (bytesRow s (grownCap w s.size 0 5)) 5 ((bytesRow s (grownCap w s.size 0 5)).size, (bytesRow s (grownCap w s.size 0 5)).size + 1)) := ⟨_, rfl⟩
  have hh : w'.heap[w.heap.size]? = some (.cells (bytesRow s (grownCap w s.size 0 5)) 5 ((bytesRow s (grownCap w s.size 0 5)).size, (bytesRow s (grownCap w s.size 0 5)).size + 1)) := by
    rw [hw']; exact heap_alloc_new w.drew _
  have hcell : ∀ j b, (sBy s)[j]? = some b → (bytesRow s (grownCap w s.size 0 5))[j]? = some (bv b) := fun j b hj => by
    have hl := (List.getElem?_eq_some_iff.1 hj).1
    rw [sBy_len] at hl
    unfold bytesRow sBy at *
    rw [Array.getElem?_append]
    rw [if_pos (by simpa using hl)]
    rw [Array.getElem?_toList] at hj
    simp [hj, bv]
  have hlo : (sBy s).length ≤ (bytesRow s (grownCap w s.size 0 5)).size := by
    rw [sBy_len]; unfold bytesRow; simp
  refine ⟨.slice (some ⟨w.heap.size, 0, none⟩) s.size (grownCap w s.size 0 5), w', ?_, M.fresh (by rw [hw']; exact (step_drew w).trans (step_alloc w.drew _)) i _ ⟨_, _, _, _, _, by rw [sBy_len], hh, hlo, by rw [sBy_len]; exact hc, hm, hcell⟩ ozR_dep fun g hg => ?_⟩
  · have h := run_bytes_of_string w 9 22 5 s Try.underlying9 Try.underlying22 Try.underlying5
    rw [hw']
    exact run_cv' _ _ x ho hx h
  · obtain rfl : w.heap.size = g := by simpa [ozR, ofp, Value.ownBlock] using hg
    exact ⟨Nat.le_refl _, heap_lt hh⟩
theorem run_setZ (M : Mx G w0 w R) {k : Nat} (hk : look R k = some (ozR l v)) (x y : Operand) (ho : o.op = .store 5 x y) {j : Nat} (hx : a.eval x = ixV v j) {z : Int} (b : UInt8) (hy : a.eval y = .int .u8 z) (hz : z = (b.toNat : Int)) (hj : j < l.length) :
    ∃ w', (execOp a.eval o).run Try.prog w = .ok .skip w' ∧ Mx G w0 w' ((k, ozR (l.set j b) v) :: R) := by
  subst hz
  have hown : Oz w v l := M.at_ k _ hk
  obtain ⟨g, c, cur, lo, hi, rfl, hg, h1, h2, h3, h4⟩ := hown
  have hi1 : (Try.prog.info? 5).map (·.size) = some 1 := by kernel_rfl
  have hold := h4 j l[j] (List.getElem?_eq_getElem hj)
  have hrun := run_storeCells_cells (P := Try.prog) g j [bv b] 0 w (fun q hq => by
      obtain rfl : q = 0 := by simpa using hq
      simp [World.cell?, hg, hold]) (fun q hq => by
      obtain rfl : q = 0 := by simpa using hq
      simp only [Nat.add_zero, World.frozen?, hg]
      simp; omega) (fun u hu => by
      obtain rfl : u = bv b := by simpa using hu
      simp [bv, Value.oneCell'])
  obtain ⟨cur', k1, k2, k3, k4⟩ := heap_setCells g [bv b] j w cur 5 (lo, hi) hg
  have hjc : j < cur.size := (Array.getElem?_eq_some_iff.1 hold).1
  refine ⟨w.setCells g j [bv b], ?_, M.write hk rfl (grown_setCells g _ _ _) (fun q e => by cases e; simp [ozR, ofp, Value.ownBlock]) _ ⟨g, c, cur', lo, hi, by rw [List.length_set], k1, by rw [List.length_set]; exact h1, by rw [List.length_set]; exact h2, h3, fun q u hq => ?_⟩ ozR_dep fun q hq => ?_⟩
  · have hrun2 : (Instr.storeAt 5 (.pointer (some ⟨g, j, none⟩)) (.int .u8 (b.toNat : Int))).run Try.prog w = .ok () (w.setCells g j [bv b]) := by
      simp only [Instr.storeAt, Instr.sureAddr, Sem.run_bind, Sem.run_pure, Result.andThen_ok]
      simp only [Nat.add_zero] at hrun
      cases hq : Try.prog.info? 5 with
      | none => simp [hq] at hi1
      | some i =>
        have hz : i.size = 1 := by simpa [hq] using hi1
        simp [storeVar, Sem.run_bind, sizeOf, typeInfo, hq, hz, Value.cells]
        simpa [bv] using hrun
    have hx' : a.eval x = .pointer (some ⟨g, j, none⟩) := by rw [hx]; simp [ixV, addr_add]
    unfold execOp
    simp only [ho, hx', hy, Sem.run_bind, hrun2, Result.andThen_ok, Sem.run_pure]
  · rw [List.getElem?_set] at hq
    by_cases e : j = q
    · subst e
      rw [if_pos rfl, if_pos hj] at hq
      obtain rfl := Option.some.inj hq
      have := k3 0 (by simp) (by simpa using hjc)
      simpa using this
    · rw [if_neg e] at hq
      rw [k4 q (by simp; omega)]
      exact h4 q u hq
  · have e : g = q := by simpa [ozR, ofp, Value.ownBlock] using hq
    subst e
    refine ⟨heap_lt k1, .inl (by simp [ozR, ofp, Value.ownBlock])⟩
end
end Go.Proofs.Ytlbkogdmojlpmaa
namespace Go.Proofs.Ytlbkogdmojlpmaa
set_option linter.unusedVariables false
set_option maxRecDepth 20000
set_option linter.unusedSimpArgs false
open Go.ChangeShapes Go.WideShapes Go.ChangeAt Go.RowKit
def nmC (x : UInt8) : UInt8 := byteI (33 + ((x.toNat : Nat) : Int) % 94)
def nmL (l : List UInt8) : List UInt8 := l.map nmC
theorem nmL_len (l : List UInt8) : (nmL l).length = l.length := by simp [nmL]
def nmP (l : List UInt8) (j : Nat) : List UInt8 := (l.take j).map nmC ++ l.drop j
theorem nmP_len (l : List UInt8) (j : Nat) : (nmP l j).length = l.length := by simp [nmP]; omega
theorem nmP_zero (l : List UInt8) : nmP l 0 = l := by simp [nmP]
theorem nmP_all (l : List UInt8) : nmP l l.length = nmL l := by simp [nmP, nmL]
theorem nmP_at {l : List UInt8} {j : Nat} {x : UInt8} (h : l[j]? = some x) : (nmP l j)[j]? = some x := by
  have hl := (List.getElem?_eq_some_iff.1 h).1
  unfold nmP
  rw [List.getElem?_append_right (by simp; omega)]
  simp [Nat.min_eq_left (Nat.le_of_lt hl), h]
theorem nmP_set {l : List UInt8} {j : Nat} {x : UInt8} (h : l[j]? = some x) : (nmP l j).set j (byteI (33 + ((x.toNat : Nat) : Int) % 94)) = nmP l (j + 1) := by
  have hl := (List.getElem?_eq_some_iff.1 h).1
  unfold nmP
  rw [List.set_append_right _ _ (by simp; omega), List.take_add_one, h, List.map_append, List.append_assoc]
  congr 1
  rw [List.length_map, List.length_take, Nat.min_eq_left (Nat.le_of_lt hl), Nat.sub_self, List.drop_eq_getElem_cons hl]
  simp [nmC, (List.getElem?_eq_some_iff.1 h).2]
def nmB (s : ByteArray) : ByteArray := if (sBy s).length = 0 then ⟨#[117]⟩ else ⟨((nmL (sBy s)).take (min (sBy s).length 16)).toArray⟩
theorem nmB_nil {s : ByteArray} (h : (sBy s).length = 0) : nmB s = ⟨#[117]⟩ := if_pos h
theorem nmB_some {s : ByteArray} (h : ¬ (sBy s).length = 0) : nmB s = ⟨((nmL (sBy s)).take (min (sBy s).length 16)).toArray⟩ := if_neg h
theorem nmC_in (x : UInt8) : 33 ≤ (nmC x).toNat ∧ (nmC x).toNat ≤ 126 := by
  have h := byteI_val (33 + ((x.toNat : Nat) : Int) % 94)
  have h1 := Int.emod_nonneg ((x.toNat : Nat) : Int) (show (94 : Int) ≠ 0 by decide)
  have h2 := Int.emod_lt_of_pos ((x.toNat : Nat) : Int) (show (0 : Int) < 94 by decide)
  show 33 ≤ (byteI _).toNat ∧ (byteI _).toNat ≤ 126
  omega
set_option maxRecDepth 100000 in
set_option maxHeartbeats 4000000 in
theorem lname_any (s : ByteArray) (hs : s.size ≤ 40) (w : World) :
    Calls Try.prog 42 #[.string s] w fun e w' => e = .returned (.string (nmB s)) ∧ Below w.heap.size w w' := by
  have hsl : (sBy s).length ≤ 40 := by rw [sBy_len]; exact hs
  refine calls_fx (args := [.string s]) 33 Try.func42 rfl rfl rfl ?_
  intro fa F
  have M := Mx.start w
  refine wp_seq_k fun K1 hK1 => wp_region_lit ?_
  refine rm rfl F fun a2 F2 => ?_
  refine hK1 _ _ (wp_seq_k fun K3 hK3 => ?_)
  refine wp_region_lit ?_
  refine rm rfl F2 fun a4 F4 => ?_
  refine wl_runM (wanted_none rfl) rfl F4 rfl (run_cvZ M 0 _ rfl (F4.get rfl) (Nat.le_trans hs (by omega))) ?_
  intro v5 a5 w5 F5 M5
  clear F4 M
  obtain ⟨A5, c5, rfl⟩ := (M5.isZ (k := 0) rfl).shape
  refine rm rfl F5 fun a6 F6 => ?_
  refine hK3 _ _ (wp_seq_k fun K7 hK7 => ?_)
  refine wp_seq_k fun K8 hK8 => wp_region_lit ?_
  refine rm rfl F6 fun a9 F9 => ?_
  refine hK8 _ _ (wp_block ?_)
  have hz := nmP_zero (sBy s)
  refine loop_fx (α := Nat) (n := 33) (G := none) (w0 := w) (fun x => [(0, .string s), (2, .string ({ data := #[] })), (5, .string s), (6, .slice A5 ((sBy s)).length c5), (3, .slice A5 ((sBy s)).length c5), (4, .int .i64 (x : Int))]) (fun x => [(0, ozR (nmP (sBy s) x) (.slice A5 ((sBy s)).length c5))]) (fun k x => k = (sBy s).length - x ∧ (x ≤ (sBy s).length)) _ 0 ⟨rfl, (Nat.zero_le _)⟩ (F9.sub ⟨rfl, rfl, rfl, rfl, rfl, rfl, trivial⟩) (M5.sub ⟨(by rw [hz]; rfl), trivial⟩) ?_
  clear F9 M5
  rintro k10 jn a10 w10 K10 ⟨ek10, I10⟩ F10 M10 hK10
  replace F10 : Fx 33 a10 [(0, .string s), (2, .string ({ data := #[] })), (5, .string s), (6, .slice A5 ((sBy s)).length c5), (3, .slice A5 ((sBy s)).length c5), (4, .int .i64 (jn : Int))] := F10
  replace M10 : Mx _ _ w10 [(0, ozR (nmP (sBy s) jn) (.slice A5 ((sBy s)).length c5))] := M10
  replace I10 : jn ≤ (sBy s).length := I10
  replace ek10 : k10 = (sBy s).length - jn := ek10
  by_cases hlt : jn < (sBy s).length
  rotate_left
  · obtain rfl : jn = (sBy s).length := by omega
    have hal := nmP_all (sBy s)
    rw [hal] at M10
    refine wp_seq_k fun K33 hK33 => wp_seq_k fun K34 hK34 => ?_
    refine wp_region_lit ?_
    refine rm rfl F10 fun a35 F35 => ?_
    refine rm rfl F35 fun a36 F36 => ?_
    refine rn rfl rfl F36 rfl (.int .i64 ((sBy s).length : Int)) (y_len _ rfl (F36.get rfl) (M10.isZ (k := 0) rfl) (by rw [nmL_len])) fun a37 F37 => ?_
    refine rn rfl rfl F37 rfl (.bool false) (y_lss _ _ _ _ rfl (F37.get rfl) (F37.get rfl) (decide_eq_false (Int.lt_irrefl _))) fun a38 F38 => ?_
    refine hK34 _ _ (wp_cond_false (F38.get (t := 10) rfl) ?_)
    refine wp_exit ?_
    simp only [Exit.then, Exit.inBlock, ↓reduceIte, Nat.reduceEqDiff]
    refine hK7 _ _ (wp_seq_k fun K39 hK39 => ?_)
    refine wp_seq_k fun K40 hK40 => wp_region_lit ?_
    refine rm rfl F38 fun a41 F41 => ?_
    refine rn rfl rfl F41 rfl (.int .i64 ((sBy s).length : Int)) (y_len _ rfl (F41.get rfl) (M10.isZ (k := 0) rfl) (by rw [nmL_len])) fun a42 F42 => ?_
    by_cases h43 : ((sBy s).length : Int) = 0
    · refine rn rfl rfl F42 rfl (.bool true) (y_eqI _ _ _ _ rfl (F42.get rfl) rfl Try.underlying3 (y_beqT h43)) fun a44 F44 => ?_
      refine hK40 _ _ (wp_cond_true (F44.get (t := 26) rfl) ?_)
      refine wp_seq_k fun K45 hK45 => wp_region_lit ?_
      refine rm rfl F44 fun a46 F46 => ?_
      refine hK45 _ _ (wp_ret ?_)
      try simp only [Exit.then, Exit.inBlock, Exit.jump]
      exact bodyPost_ret (res1 rfl (F46.get (t := 2) rfl)) F46.defers ⟨by rw [nmB_nil (by omega)], M10.below⟩
    refine rn rfl rfl F42 rfl (.bool false) (y_eqI _ _ _ _ rfl (F42.get rfl) rfl Try.underlying3 (y_beqF h43)) fun a47 F47 => ?_
    refine hK40 _ _ (wp_cond_false (F47.get (t := 26) rfl) ?_)
    refine wp_skip ?_
    refine hK39 _ _ (wp_seq_k fun K48 hK48 => ?_)
    refine wp_region_lit ?_
    refine rm rfl F47 fun a49 F49 => ?_
    refine rm rfl F49 fun a50 F50 => ?_
    refine rn rfl rfl F50 rfl (.int .i64 ((sBy s).length : Int)) (y_len _ rfl (F50.get rfl) (M10.isZ (k := 0) rfl) (by rw [nmL_len])) fun a51 F51 => ?_
    refine rn rfl rfl F51 rfl (.int .i64 ((min ((sBy s).length) 16 : Nat) : Int)) (y_min _ _ rfl (F51.get rfl) rfl (by split <;> omega)) fun a52 F52 => ?_
    refine wl_runE (wanted_none rfl) rfl F52 rfl (y_slTo _ _ rfl (F52.get rfl) (M10.isZ (k := 0) rfl) (F52.get rfl) (j := (min (sBy s).length 16)) rfl (by rw [nmL_len]; omega)) ?_
    intro v53 a53 h53 F53
    have M54 := M10.tameZ (k := 0) rfl
    clear M10
    have M53 := M54.partB 1 (k := 0) rfl h53.1 h53.2
    clear M54
    obtain ⟨A53, c53, rfl⟩ := (M53.isb (k := 1) rfl).shape
    refine rn rfl rfl F53 rfl (.string (⟨(((nmL (sBy s)).take (min (sBy s).length 16))).toArray⟩)) (y_str _ rfl (F53.get rfl) (M53.isb (k := 1) rfl)) fun a55 F55 => ?_
    refine rm rfl F55 fun a56 F56 => ?_
    refine hK48 _ _ (wp_ret ?_)
    try simp only [Exit.then, Exit.inBlock, Exit.jump]
    exact bodyPost_ret (res1 rfl (F56.get (t := 2) rfl)) F56.defers ⟨by rw [nmB_some (by omega)], M53.below⟩
  obtain ⟨x, hx⟩ : ∃ x, (sBy s)[jn]? = some x := ⟨_, List.getElem?_eq_getElem hlt⟩
  have hxl := x.toNat_lt
  have hpx := nmP_at hx
  have hps := nmP_set hx
  have hpl := nmP_len (sBy s) jn
  refine wp_seq_k fun K11 hK11 => wp_seq_k fun K12 hK12 => ?_
  refine wp_region_lit ?_
  refine rm rfl F10 fun a13 F13 => ?_
  refine rm rfl F13 fun a14 F14 => ?_
  refine rn rfl rfl F14 rfl (.int .i64 ((sBy s).length : Int)) (y_len _ rfl (F14.get rfl) (M10.isZ (k := 0) rfl) (by rw [nmP_len])) fun a15 F15 => ?_
  refine rn rfl rfl F15 rfl (.bool true) (y_lss _ _ _ _ rfl (F15.get rfl) (F15.get rfl) (decide_eq_true (show (jn : Int) < ((sBy s).length : Int) by omega))) fun a16 F16 => ?_
  refine hK12 _ _ (wp_cond_true (F16.get (t := 10) rfl) ?_)
  refine wp_skip ?_
  refine hK11 _ _ (wp_seq_k fun K17 hK17 => ?_)
  refine wp_block ?_
  refine wp_region_lit ?_
  refine rm rfl F16 fun a18 F18 => ?_
  refine rm rfl F18 fun a19 F19 => ?_
  refine rm rfl F19 fun a20 F20 => ?_
  refine rm rfl F20 fun a21 F21 => ?_
  refine rn rfl rfl F21 rfl ((ixV (.slice A5 ((sBy s)).length c5) jn)) (y_ixB _ _ rfl (F21.get rfl) (M10.isZ (k := 0) rfl) (F21.get rfl) rfl (by rw [nmP_len]; omega)) fun a22 F22 => ?_
  refine rn rfl rfl F22 rfl (.int .u8 ((x.toNat : Nat) : Int)) (y_ldB _ rfl (F22.get rfl) (M10.isZ (k := 0) rfl) hpx rfl) fun a23 F23 => ?_
  refine rn rfl rfl F23 rfl (.int .i64 ((x.toNat : Nat) : Int)) (y_cvI _ _ _ rfl (F23.get rfl) Try.underlying5 Try.underlying3 (byte_i64 _)) fun a24 F24 => ?_
  refine wl_call (wanted_none rfl) rfl F24 rfl rfl (enters_of Try.func22 (by kernel_rfl) rfl) #[.int .i64 ((x.toNat : Nat) : Int), .int .i64 94] (args2 (F24.get rfl) rfl) (call_ex ((within5_any ((x.toNat : Nat) : Int) 94 (by omega) (by omega) (by omega) (by omega) w10))) ?_
  rintro _ w25 a25 ⟨rfl, rfl⟩ F25
  refine rn rfl rfl F25 rfl (.int .i64 (33 + (((x.toNat : Nat) : Int) % 94))) (y_addI _ _ _ _ rfl rfl (F25.get rfl) rfl (by omega)) fun a26 F26 => ?_
  refine rn rfl rfl F26 rfl (.int .u8 (((byteI (33 + (((x.toNat : Nat) : Int) % 94))).toNat : Nat) : Int)) (y_cvI _ _ _ rfl (F26.get rfl) Try.underlying3 Try.underlying5 (byteI_wrap _)) fun a27 F27 => ?_
  refine rn rfl rfl F27 rfl ((ixV (.slice A5 ((sBy s)).length c5) jn)) (y_ixB _ _ rfl (F27.get rfl) (M10.isZ (k := 0) rfl) (F27.get rfl) rfl (by rw [nmP_len]; omega)) fun a28 F28 => ?_
  refine wl_doM (wanted_none rfl) rfl F28 (run_setZ M10 (k := 0) rfl _ _ rfl (F28.get rfl) (byteI (33 + (((x.toNat : Nat) : Int) % 94))) (F28.get rfl) rfl (by rw [nmP_len]; omega)) ?_
  intro w29 M29
  clear M10
  refine hK17 _ _ (wp_region_lit ?_)
  refine rm rfl F28 fun a30 F30 => ?_
  refine rn rfl rfl F30 rfl (.int .i64 ((jn + 1 : Nat) : Int)) (y_addI _ _ _ _ rfl (F30.get rfl) rfl (by omega) (by omega)) fun a31 F31 => ?_
  refine rm rfl F31 fun a32 F32 => ?_
  subst ek10
  exact hK10 _ (jn + 1) _ _ (by omega) ⟨rfl, (by omega)⟩ (F32.sub ⟨rfl, rfl, rfl, rfl, rfl, rfl, trivial⟩) (M29.sub ⟨(by rw [← hps]; rfl), trivial⟩)
end Go.Proofs.Ytlbkogdmojlpmaa
namespace Go.Proofs.Ytlbkogdmojlpmaa
set_option linter.unusedVariables false
set_option maxRecDepth 20000
set_option linter.unusedSimpArgs false
open Go.ChangeShapes Go.WideShapes Go.ChangeAt Go.RowKit
theorem tdiv_bnd {p q : Int} (hp : -9223372036854775808 ≤ p ∧ p < 9223372036854775808) (hq : 0 < q) : -9223372036854775808 ≤ p.tdiv q ∧ p.tdiv q < 9223372036854775808 :=
  ⟨(tdiv_in hp hq).1, Int.lt_of_le_of_lt (tdiv_in hp hq).2 (by decide)⟩
end Go.Proofs.Ytlbkogdmojlpmaa
namespace Go.Proofs.Ytlbkogdmojlpmaa
set_option linter.unusedVariables false
set_option maxRecDepth 20000
set_option linter.unusedSimpArgs false
open Go.ChangeShapes Go.WideShapes Go.ChangeAt Go.RowKit
def mkR (n : Int) (s : ByteArray) (b : List UInt8) : RecN :=
  ⟨1 + n % 2, nmB s, b.take (n % ((min b.length 16 + 1 : Nat) : Int)).toNat, ((n.tdiv 2) % 4294967296).toNat, ((n.tdiv 7) % 4294967296).toNat, b.take ((n.tdiv 3) % ((min b.length 48 + 1 : Nat) : Int)).toNat, (n.tdiv 11) % 6, (n.tdiv 13) % 1000, (n.tdiv 17) % 1099511627776⟩
set_option maxRecDepth 100000 in
set_option maxHeartbeats 8000000 in
theorem make_rec (n : Int) (s : ByteArray) (b : List UInt8) (v : Value) (hN : -9223372036854775808 ≤ n ∧ n < 9223372036854775808) (hs : s.size ≤ 40) (hbl : b.length ≤ 1000) (w : World) (hv : IsB w b v) :
    Calls Try.prog 34 #[.int .i64 n, .string s, v] w fun e w' => ∃ t, e = .returned t ∧ ∃ V, t = .agg (recA (mkR n s b) V) ∧ RecIs w' (mkR n s b) V ∧ (∀ g, bfp V.v2 g ∨ bfp V.v5 g → w.heap.size ≤ g) ∧ Below w.heap.size w w' := by
  obtain ⟨K2, hK2⟩ : ∃ K : Nat, n % ((min b.length 16 + 1 : Nat) : Int) = (K : Int) := ⟨(n % ((min b.length 16 + 1 : Nat) : Int)).toNat, (Int.toNat_of_nonneg (Int.emod_nonneg _ (by omega))).symm⟩
  obtain ⟨K5, hK5⟩ : ∃ K : Nat, (n.tdiv 3) % ((min b.length 48 + 1 : Nat) : Int) = (K : Int) := ⟨((n.tdiv 3) % ((min b.length 48 + 1 : Nat) : Int)).toNat, (Int.toNat_of_nonneg (Int.emod_nonneg _ (by omega))).symm⟩
  have hK2l := Int.emod_lt_of_pos n (show 0 < ((min b.length 16 + 1 : Nat) : Int) by omega)
  have hK5l := Int.emod_lt_of_pos (n.tdiv 3) (show 0 < ((min b.length 48 + 1 : Nat) : Int) by omega)
  have hK2b : K2 ≤ b.length := by omega
  have hK5b : K5 ≤ b.length := by omega
  refine calls_fx (args := [.int .i64 n, .string s, v]) 57 Try.func34 rfl rfl rfl ?_
  intro fa F
  have M := Mx.start w
  replace M := M.argB 0 hv (fun g e => by cases e)
  refine wp_seq_k fun K1 hK1 => wp_region_lit ?_
  refine wl_alloc (wanted_none rfl) rfl F rfl M 1 (t := 54) (c := recA ⟨0, "".toUTF8, [], 0, 0, [], 0, 0, 0⟩ ⟨.slice none 0 0, .slice none 0 0⟩) (by unfold execOp; kernel_rfl) ?_
  intro g2 a2 w2 F2 M2
  clear F M
  refine hK1 _ _ (wp_seq_k fun K3 hK3 => ?_)
  refine wp_region_lit ?_
  refine rm rfl F2 fun a4 F4 => ?_
  refine wl_call (wanted_none rfl) rfl F4 rfl rfl (enters_of Try.func22 (by kernel_rfl) rfl) #[.int .i64 n, .int .i64 2] (args2 (F4.get rfl) rfl) (call_ex ((within5_any n 2 (by omega) (by omega) hN.1 hN.2 w2))) ?_
  rintro _ w5 a5 ⟨rfl, rfl⟩ F5
  refine rn rfl rfl F5 rfl (.int .i64 (1 + (n % 2))) (y_addI _ _ _ _ rfl rfl (F5.get rfl) rfl (by omega)) fun a6 F6 => ?_
  refine rm rfl F6 fun a7 F7 => ?_
  refine wl_call (wanted_none rfl) rfl F7 rfl rfl (enters_of Try.func42 (by kernel_rfl) rfl) #[.string s] (args1 (F7.get rfl)) (call_ex ((lname_any s hs w2))) ?_
  rintro _ w8 a8 ⟨rfl, b8⟩ F8
  have M8 := M2.step b8
  refine rm rfl F8 fun a9 F9 => ?_
  refine rn rfl rfl F9 rfl (.int .i64 (n.tdiv 2)) (y_quoT _ _ _ _ rfl (F9.get rfl) rfl hN (by decide) rfl) fun a10 F10 => ?_
  refine wl_call (wanted_none rfl) rfl F10 rfl rfl (enters_of Try.func22 (by kernel_rfl) rfl) #[.int .i64 (n.tdiv 2), .int .i64 4294967296] (args2 (F10.get rfl) rfl) (call_ex ((within5_any (n.tdiv 2) 4294967296 (by omega) (by omega) (tdiv_bnd hN (show (0 : Int) < 2 by decide)).1 (tdiv_bnd hN (show (0 : Int) < 2 by decide)).2 w8))) ?_
  rintro _ w11 a11 ⟨rfl, rfl⟩ F11
  refine wl_call (wanted_none rfl) rfl F11 rfl rfl (enters_of Try.func24 (by kernel_rfl) rfl) #[.int .i64 ((n.tdiv 2) % 4294967296)] (args1 (F11.get rfl)) (call_ex ((from_ref ((n.tdiv 2) % 4294967296) (by omega) (by omega) w8))) ?_
  rintro _ w12 a12 ⟨rfl, b12⟩ F12
  have M12 := M8.step b12
  refine rm rfl F12 fun a13 F13 => ?_
  refine rn rfl rfl F13 rfl (.int .i64 (n.tdiv 7)) (y_quoT _ _ _ _ rfl (F13.get rfl) rfl hN (by decide) rfl) fun a14 F14 => ?_
  refine wl_call (wanted_none rfl) rfl F14 rfl rfl (enters_of Try.func22 (by kernel_rfl) rfl) #[.int .i64 (n.tdiv 7), .int .i64 4294967296] (args2 (F14.get rfl) rfl) (call_ex ((within5_any (n.tdiv 7) 4294967296 (by omega) (by omega) (tdiv_bnd hN (show (0 : Int) < 7 by decide)).1 (tdiv_bnd hN (show (0 : Int) < 7 by decide)).2 w12))) ?_
  rintro _ w15 a15 ⟨rfl, rfl⟩ F15
  refine wl_call (wanted_none rfl) rfl F15 rfl rfl (enters_of Try.func24 (by kernel_rfl) rfl) #[.int .i64 ((n.tdiv 7) % 4294967296)] (args1 (F15.get rfl)) (call_ex ((from_ref ((n.tdiv 7) % 4294967296) (by omega) (by omega) w12))) ?_
  rintro _ w16 a16 ⟨rfl, b16⟩ F16
  have M16 := M12.step b16
  refine rm rfl F16 fun a17 F17 => ?_
  refine rn rfl rfl F17 rfl (.int .i64 (n.tdiv 11)) (y_quoT _ _ _ _ rfl (F17.get rfl) rfl hN (by decide) rfl) fun a18 F18 => ?_
  refine wl_call (wanted_none rfl) rfl F18 rfl rfl (enters_of Try.func22 (by kernel_rfl) rfl) #[.int .i64 (n.tdiv 11), .int .i64 6] (args2 (F18.get rfl) rfl) (call_ex ((within5_any (n.tdiv 11) 6 (by omega) (by omega) (tdiv_bnd hN (show (0 : Int) < 11 by decide)).1 (tdiv_bnd hN (show (0 : Int) < 11 by decide)).2 w16))) ?_
  rintro _ w19 a19 ⟨rfl, rfl⟩ F19
  refine rm rfl F19 fun a20 F20 => ?_
  refine rn rfl rfl F20 rfl (.int .i64 (n.tdiv 13)) (y_quoT _ _ _ _ rfl (F20.get rfl) rfl hN (by decide) rfl) fun a21 F21 => ?_
  refine wl_call (wanted_none rfl) rfl F21 rfl rfl (enters_of Try.func22 (by kernel_rfl) rfl) #[.int .i64 (n.tdiv 13), .int .i64 1000] (args2 (F21.get rfl) rfl) (call_ex ((within5_any (n.tdiv 13) 1000 (by omega) (by omega) (tdiv_bnd hN (show (0 : Int) < 13 by decide)).1 (tdiv_bnd hN (show (0 : Int) < 13 by decide)).2 w16))) ?_
  rintro _ w22 a22 ⟨rfl, rfl⟩ F22
  refine rm rfl F22 fun a23 F23 => ?_
  refine rn rfl rfl F23 rfl (.int .i64 (n.tdiv 17)) (y_quoT _ _ _ _ rfl (F23.get rfl) rfl hN (by decide) rfl) fun a24 F24 => ?_
  refine wl_call (wanted_none rfl) rfl F24 rfl rfl (enters_of Try.func22 (by kernel_rfl) rfl) #[.int .i64 (n.tdiv 17), .int .i64 1099511627776] (args2 (F24.get rfl) rfl) (call_ex ((within5_any (n.tdiv 17) 1099511627776 (by omega) (by omega) (tdiv_bnd hN (show (0 : Int) < 17 by decide)).1 (tdiv_bnd hN (show (0 : Int) < 17 by decide)).2 w16))) ?_
  rintro _ w25 a25 ⟨rfl, rfl⟩ F25
  refine rn rfl rfl F25 rfl (.agg (recA ⟨1 + (n % 2), (nmB s), [], (((n.tdiv 2) % 4294967296)).toNat, (((n.tdiv 7) % 4294967296)).toNat, [], ((n.tdiv 11) % 6), ((n.tdiv 13) % 1000), ((n.tdiv 17) % 1099511627776)⟩ ⟨.slice none 0 0, .slice none 0 0⟩)) (by unfold execOp; simp only [List.map_toArray, List.map_cons, List.map_nil, (F25.get (t := 10) rfl), (F25.get (t := 12) rfl), (F25.get (t := 16) rfl), (F25.get (t := 20) rfl), (F25.get (t := 23) rfl), (F25.get (t := 26) rfl), (F25.get (t := 29) rfl)]; kernel_rfl) fun a26 F26 => ?_
  refine wl_alloc (wanted_none rfl) rfl F26 rfl M16 2 (t := 54) (c := recA ⟨0, "".toUTF8, [], 0, 0, [], 0, 0, 0⟩ ⟨.slice none 0 0, .slice none 0 0⟩) (by unfold execOp; kernel_rfl) ?_
  intro g27 a27 w27 F27 M27
  clear F26 M16
  refine wl_st (wanted_none rfl) rfl F27 M27 (k := 2) rfl _ _ _ rfl (F27.get rfl) (F27.get rfl) (recA ⟨1 + (n % 2), (nmB s), [], (((n.tdiv 2) % 4294967296)).toNat, (((n.tdiv 7) % 4294967296)).toNat, [], ((n.tdiv 11) % 6), ((n.tdiv 13) % 1000), ((n.tdiv 17) % 1099511627776)⟩ ⟨.slice none 0 0, .slice none 0 0⟩) (recA ⟨1 + (n % 2), (nmB s), [], (((n.tdiv 2) % 4294967296)).toNat, (((n.tdiv 7) % 4294967296)).toNat, [], ((n.tdiv 11) % 6), ((n.tdiv 13) % 1000), ((n.tdiv 17) % 1099511627776)⟩ ⟨.slice none 0 0, .slice none 0 0⟩) rfl (Nat.le_of_ble_eq_true rfl) (recA_one (w := w27) ⟨(isb_nil _), (isb_nil _)⟩) (y_put0 rfl) (by kernel_rfl) ?_
  intro w28 M28
  clear M27
  refine hK3 _ _ (wp_seq_k fun K29 hK29 => ?_)
  refine region_fxM F27 [fun vE => vE = .pointer (some ⟨g27, 2, none⟩), fun vE => vE = .slice none 0 0, fun vE => vE = v, fun vE => vE = .int .i64 n, fun vE => vE = v, fun vE => vE = .int .i64 (b.length : Int), fun vE => vE = .int .i64 ((min b.length 16 : Nat) : Int), fun vE => vE = .int .i64 ((min b.length 16 + 1 : Nat) : Int), fun vE => vE = .int .i64 (K2 : Int), fun _ => True] (JM none w fun SV pV => [(0, bytR b v), (1, blkR g2 54 (recA ⟨0, "".toUTF8, [], 0, 0, [], 0, 0, 0⟩ ⟨.slice none 0 0, .slice none 0 0⟩)), (2, blkR g27 54 (recA ⟨1 + (n % 2), (nmB s), [], (((n.tdiv 2) % 4294967296)).toNat, (((n.tdiv 7) % 4294967296)).toNat, [], ((n.tdiv 11) % 6), ((n.tdiv 13) % 1000), ((n.tdiv 17) % 1099511627776)⟩ ⟨.slice none 0 0, .slice none 0 0⟩)), (3, condR (SV 9) (bytR (b.take K2) (pV 9)))]) 10 rfl (by kernel_rfl) rfl ⟨trivial, trivial, trivial, trivial, trivial, trivial, trivial, trivial, trivial, trivial, trivial⟩ (fun p => ((M28.step (step_drew _)).triv 3).sub ⟨rfl, rfl, rfl, rfl, trivial⟩) ⟨?_, ?_, ?_, ?_, ?_, ?_, ?_, ?_, ?_, ?_, trivial⟩ ?_
  · intro ua uw SV pV M0 hk hn hd
    have M : Mx none w uw _ := M0
    clear M0
    have e7 : ua.eval (.tmp 7) = .pointer (some ⟨g27, 0, none⟩) := (show ua.eval (.tmp 7) = _ from hd 7 (by decide)).trans (F27.get (t := 7) rfl)
    exact hopM_run (wanted_none rfl) (.pointer (some ⟨g27, 2, none⟩)) (y_fa (off := 2) rfl e7 (by kernel_rfl) rfl) rfl (M.sub ⟨rfl, rfl, rfl, rfl, trivial⟩)
  · intro ua uw SV pV M0 hk hn hd
    have M : Mx none w uw _ := M0
    clear M0
    obtain ⟨s0, f31, q31⟩ := (show SV 0 = true ∧ ua.eval (.tmp 31) = pV 0 ∧ stE _ 0 (pV 0) from hd 31 (by decide))
    have e31 : ua.eval (.tmp 31) = .pointer (some ⟨g27, 2, none⟩) := f31.trans q31
    exact hopM_run (wanted_none rfl) (.slice none 0 0) (y_ld1 _ _ rfl e31 (M.blk (k := 2) rfl) rfl Try.underlying22 rfl) rfl (M.sub ⟨rfl, rfl, rfl, rfl, trivial⟩)
  · intro ua uw SV pV M0 hk hn hd
    have M : Mx none w uw _ := M0
    clear M0
    have e2 : ua.eval (.tmp 2) = v := (show ua.eval (.tmp 2) = _ from hd 2 (by decide)).trans (F27.get (t := 2) rfl)
    exact hopM_run (wanted_none rfl) (v) (run_mv _ (.inl rfl) e2) rfl (M.sub ⟨rfl, rfl, rfl, rfl, trivial⟩)
  · intro ua uw SV pV M0 hk hn hd
    have M : Mx none w uw _ := M0
    clear M0
    have e0 : ua.eval (.tmp 0) = .int .i64 n := (show ua.eval (.tmp 0) = _ from hd 0 (by decide)).trans (F27.get (t := 0) rfl)
    exact hopM_run (wanted_none rfl) (.int .i64 n) (run_mv _ (.inl rfl) e0) rfl (M.sub ⟨rfl, rfl, rfl, rfl, trivial⟩)
  · intro ua uw SV pV M0 hk hn hd
    have M : Mx none w uw _ := M0
    clear M0
    have e2 : ua.eval (.tmp 2) = v := (show ua.eval (.tmp 2) = _ from hd 2 (by decide)).trans (F27.get (t := 2) rfl)
    exact hopM_run (wanted_none rfl) (v) (run_mv _ (.inl rfl) e2) rfl (M.sub ⟨rfl, rfl, rfl, rfl, trivial⟩)
  · intro ua uw SV pV M0 hk hn hd
    have M : Mx none w uw _ := M0
    clear M0
    obtain ⟨s4, f35, q35⟩ := (show SV 4 = true ∧ ua.eval (.tmp 35) = pV 4 ∧ stE _ 4 (pV 4) from hd 35 (by decide))
    have e35 : ua.eval (.tmp 35) = v := f35.trans q35
    exact hopM_run (wanted_none rfl) (.int .i64 (b.length : Int)) (y_len _ rfl e35 (M.isb (k := 0) rfl) rfl) rfl (M.sub ⟨rfl, rfl, rfl, rfl, trivial⟩)
  · intro ua uw SV pV M0 hk hn hd
    have M : Mx none w uw _ := M0
    clear M0
    obtain ⟨s5, f36, q36⟩ := (show SV 5 = true ∧ ua.eval (.tmp 36) = pV 5 ∧ stE _ 5 (pV 5) from hd 36 (by decide))
    have e36 : ua.eval (.tmp 36) = .int .i64 (b.length : Int) := f36.trans q36
    exact hopM_run (wanted_none rfl) (.int .i64 ((min b.length 16 : Nat) : Int)) (y_min _ _ rfl e36 rfl (by split <;> omega)) rfl (M.sub ⟨rfl, rfl, rfl, rfl, trivial⟩)
  · intro ua uw SV pV M0 hk hn hd
    have M : Mx none w uw _ := M0
    clear M0
    obtain ⟨s6, f37, q37⟩ := (show SV 6 = true ∧ ua.eval (.tmp 37) = pV 6 ∧ stE _ 6 (pV 6) from hd 37 (by decide))
    have e37 : ua.eval (.tmp 37) = .int .i64 ((min b.length 16 : Nat) : Int) := f37.trans q37
    exact hopM_run (wanted_none rfl) (.int .i64 ((min b.length 16 + 1 : Nat) : Int)) (y_addI _ _ _ _ rfl e37 rfl (by omega) (by omega)) rfl (M.sub ⟨rfl, rfl, rfl, rfl, trivial⟩)
  · intro ua uw SV pV M0 hk hn hd
    have M : Mx none w uw _ := M0
    clear M0
    obtain ⟨s3, f34, q34⟩ := (show SV 3 = true ∧ ua.eval (.tmp 34) = pV 3 ∧ stE _ 3 (pV 3) from hd 34 (by decide))
    have e34 : ua.eval (.tmp 34) = .int .i64 n := f34.trans q34
    obtain ⟨s7, f38, q38⟩ := (show SV 7 = true ∧ ua.eval (.tmp 38) = pV 7 ∧ stE _ 7 (pV 7) from hd 38 (by decide))
    have e38 : ua.eval (.tmp 38) = .int .i64 ((min b.length 16 + 1 : Nat) : Int) := f38.trans q38
    exact hopM_call (wanted_none rfl) rfl #[.int .i64 n, .int .i64 ((min b.length 16 + 1 : Nat) : Int)] (args2 e34 e38) (enters_of Try.func22 (by kernel_rfl) rfl) (((same_eq ((hK2 ▸ within5_any n ((min b.length 16 + 1 : Nat) : Int) (by omega) (by omega) hN.1 hN.2 uw)))).mono fun e w2 h => ⟨_, h.1, rfl, (M.step h.2).sub ⟨rfl, rfl, rfl, rfl, trivial⟩⟩)
  · intro ua uw SV pV M0 hk hn hd
    have M : Mx none w uw _ := M0
    clear M0
    obtain ⟨s2, f33, q33⟩ := (show SV 2 = true ∧ ua.eval (.tmp 33) = pV 2 ∧ stE _ 2 (pV 2) from hd 33 (by decide))
    have e33 : ua.eval (.tmp 33) = v := f33.trans q33
    obtain ⟨s8, f39, q39⟩ := (show SV 8 = true ∧ ua.eval (.tmp 39) = pV 8 ∧ stE _ 8 (pV 8) from hd 39 (by decide))
    have e39 : ua.eval (.tmp 39) = .int .i64 (K2 : Int) := f39.trans q39
    exact hopM_exE (wanted_none rfl) (y_slTo _ _ rfl e33 (M.isb (k := 0) rfl) e39 (j := K2) rfl hK2b) fun v h => ⟨trivial, (M.partB 3 (k := 0) rfl h.1 h.2).sub ⟨rfl, rfl, rfl, rfl, trivial⟩⟩
  intro p30 a30 w30 M30 G30 y30
  obtain ⟨-, q1, -, -, -, -, -, -, -, q9, -⟩ := y30
  have r1 : p30 1 = .slice none 0 0 := q1
  replace M30 : Mx _ _ w30 [(0, bytR b v), (1, blkR g2 54 (recA ⟨0, "".toUTF8, [], 0, 0, [], 0, 0, 0⟩ ⟨.slice none 0 0, .slice none 0 0⟩)), (2, blkR g27 54 (recA ⟨1 + (n % 2), (nmB s), [], (((n.tdiv 2) % 4294967296)).toNat, (((n.tdiv 7) % 4294967296)).toNat, [], ((n.tdiv 11) % 6), ((n.tdiv 13) % 1000), ((n.tdiv 17) % 1099511627776)⟩ ⟨.slice none 0 0, .slice none 0 0⟩)), (3, condR true (bytR (b.take K2) (p30 9)))] := M30
  simp only [List.take_succ_cons, List.take_zero, layV, Nat.zero_add, Nat.reduceAdd, r1] at G30
  obtain ⟨Ap30_3, cp30_3, hp30_3⟩ := (M30.isb (k := 3) rfl).shape
  rw [hp30_3] at M30
  try rw [hp30_3] at G30
  simp only [List.drop_succ_cons, List.drop_zero]
  have M31 := M30.nilO 4
  clear M30
  refine wl_runM (wanted_none rfl) rfl G30 rfl (run_app M31 (k := 4) rfl _ _ rfl (G30.get rfl) (G30.get rfl) (M31.isb (k := 3) rfl) (by simp only [List.length_nil, List.length_take]; omega)) ?_
  intro v32 a32 w32 F32 M32
  clear G30 M31
  obtain ⟨A32, c32, rfl⟩ := (M32.isO (k := 4) rfl).shape
  refine rn rfl rfl F32 rfl (.pointer (some ⟨g27, 2, none⟩)) (y_fa (off := 2) rfl (F32.get rfl) (by kernel_rfl) rfl) fun a33 F33 => ?_
  refine wl_st (wanted_none rfl) rfl F33 M32 (k := 2) rfl _ _ _ rfl (F33.get rfl) (F33.get rfl) (#[.slice A32 (([] ++ (b.take K2))).length c32]) (recA ⟨1 + (n % 2), (nmB s), ([] ++ (b.take K2)), (((n.tdiv 2) % 4294967296)).toNat, (((n.tdiv 7) % 4294967296)).toNat, [], ((n.tdiv 11) % 6), ((n.tdiv 13) % 1000), ((n.tdiv 17) % 1099511627776)⟩ ⟨.slice A32 (([] ++ (b.take K2))).length c32, .slice none 0 0⟩) rfl (Nat.le_of_ble_eq_true rfl) (one_slcB (M32.isO (k := 4) rfl)) (by kernel_rfl) (by kernel_rfl) ?_
  intro w34 M34
  clear M32
  refine hK29 _ _ (wp_seq_k fun K35 hK35 => ?_)
  refine region_fxM F33 [fun vE => vE = .pointer (some ⟨g27, 19, none⟩), fun vE => vE = .slice none 0 0, fun vE => vE = v, fun vE => vE = .int .i64 n, fun vE => vE = .int .i64 (n.tdiv 3), fun vE => vE = v, fun vE => vE = .int .i64 (b.length : Int), fun vE => vE = .int .i64 ((min b.length 48 : Nat) : Int), fun vE => vE = .int .i64 ((min b.length 48 + 1 : Nat) : Int), fun vE => vE = .int .i64 (K5 : Int), fun _ => True] (JM none w fun SV pV => [(0, bytR b v), (1, blkR g2 54 (recA ⟨0, "".toUTF8, [], 0, 0, [], 0, 0, 0⟩ ⟨.slice none 0 0, .slice none 0 0⟩)), (2, blkR g27 54 (recA ⟨1 + (n % 2), (nmB s), ([] ++ (b.take K2)), (((n.tdiv 2) % 4294967296)).toNat, (((n.tdiv 7) % 4294967296)).toNat, [], ((n.tdiv 11) % 6), ((n.tdiv 13) % 1000), ((n.tdiv 17) % 1099511627776)⟩ ⟨.slice A32 (([] ++ (b.take K2))).length c32, .slice none 0 0⟩)), (3, bytR (b.take K2) (.slice Ap30_3 ((b.take K2)).length cp30_3)), (4, ownR ([] ++ (b.take K2)) (.slice A32 (([] ++ (b.take K2))).length c32)), (5, condR (SV 10) (bytR (b.take K5) (pV 10)))]) 11 rfl (by kernel_rfl) rfl ⟨trivial, trivial, trivial, trivial, trivial, trivial, trivial, trivial, trivial, trivial, trivial, trivial⟩ (fun p => ((M34.step (step_drew _)).triv 5).sub ⟨rfl, rfl, rfl, rfl, rfl, rfl, trivial⟩) ⟨?_, ?_, ?_, ?_, ?_, ?_, ?_, ?_, ?_, ?_, ?_, trivial⟩ ?_
  · intro ua uw SV pV M0 hk hn hd
    have M : Mx none w uw _ := M0
    clear M0
    have e7 : ua.eval (.tmp 7) = .pointer (some ⟨g27, 0, none⟩) := (show ua.eval (.tmp 7) = _ from hd 7 (by decide)).trans (F33.get (t := 7) rfl)
    exact hopM_run (wanted_none rfl) (.pointer (some ⟨g27, 19, none⟩)) (y_fa (off := 19) rfl e7 (by kernel_rfl) rfl) rfl (M.sub ⟨rfl, rfl, rfl, rfl, rfl, rfl, trivial⟩)
  · intro ua uw SV pV M0 hk hn hd
    have M : Mx none w uw _ := M0
    clear M0
    obtain ⟨s0, f43, q43⟩ := (show SV 0 = true ∧ ua.eval (.tmp 43) = pV 0 ∧ stE _ 0 (pV 0) from hd 43 (by decide))
    have e43 : ua.eval (.tmp 43) = .pointer (some ⟨g27, 19, none⟩) := f43.trans q43
    exact hopM_run (wanted_none rfl) (.slice none 0 0) (y_ld1 _ _ rfl e43 (M.blk (k := 2) rfl) rfl Try.underlying22 rfl) rfl (M.sub ⟨rfl, rfl, rfl, rfl, rfl, rfl, trivial⟩)
  · intro ua uw SV pV M0 hk hn hd
    have M : Mx none w uw _ := M0
    clear M0
    have e2 : ua.eval (.tmp 2) = v := (show ua.eval (.tmp 2) = _ from hd 2 (by decide)).trans (F33.get (t := 2) rfl)
    exact hopM_run (wanted_none rfl) (v) (run_mv _ (.inl rfl) e2) rfl (M.sub ⟨rfl, rfl, rfl, rfl, rfl, rfl, trivial⟩)
  · intro ua uw SV pV M0 hk hn hd
    have M : Mx none w uw _ := M0
    clear M0
    have e0 : ua.eval (.tmp 0) = .int .i64 n := (show ua.eval (.tmp 0) = _ from hd 0 (by decide)).trans (F33.get (t := 0) rfl)
    exact hopM_run (wanted_none rfl) (.int .i64 n) (run_mv _ (.inl rfl) e0) rfl (M.sub ⟨rfl, rfl, rfl, rfl, rfl, rfl, trivial⟩)
  · intro ua uw SV pV M0 hk hn hd
    have M : Mx none w uw _ := M0
    clear M0
    obtain ⟨s3, f46, q46⟩ := (show SV 3 = true ∧ ua.eval (.tmp 46) = pV 3 ∧ stE _ 3 (pV 3) from hd 46 (by decide))
    have e46 : ua.eval (.tmp 46) = .int .i64 n := f46.trans q46
    exact hopM_run (wanted_none rfl) (.int .i64 (n.tdiv 3)) (y_quoT _ _ _ _ rfl e46 rfl hN (by decide) rfl) rfl (M.sub ⟨rfl, rfl, rfl, rfl, rfl, rfl, trivial⟩)
  · intro ua uw SV pV M0 hk hn hd
    have M : Mx none w uw _ := M0
    clear M0
    have e2 : ua.eval (.tmp 2) = v := (show ua.eval (.tmp 2) = _ from hd 2 (by decide)).trans (F33.get (t := 2) rfl)
    exact hopM_run (wanted_none rfl) (v) (run_mv _ (.inl rfl) e2) rfl (M.sub ⟨rfl, rfl, rfl, rfl, rfl, rfl, trivial⟩)
  · intro ua uw SV pV M0 hk hn hd
    have M : Mx none w uw _ := M0
    clear M0
    obtain ⟨s5, f48, q48⟩ := (show SV 5 = true ∧ ua.eval (.tmp 48) = pV 5 ∧ stE _ 5 (pV 5) from hd 48 (by decide))
    have e48 : ua.eval (.tmp 48) = v := f48.trans q48
    exact hopM_run (wanted_none rfl) (.int .i64 (b.length : Int)) (y_len _ rfl e48 (M.isb (k := 0) rfl) rfl) rfl (M.sub ⟨rfl, rfl, rfl, rfl, rfl, rfl, trivial⟩)
  · intro ua uw SV pV M0 hk hn hd
    have M : Mx none w uw _ := M0
    clear M0
    obtain ⟨s6, f49, q49⟩ := (show SV 6 = true ∧ ua.eval (.tmp 49) = pV 6 ∧ stE _ 6 (pV 6) from hd 49 (by decide))
    have e49 : ua.eval (.tmp 49) = .int .i64 (b.length : Int) := f49.trans q49
    exact hopM_run (wanted_none rfl) (.int .i64 ((min b.length 48 : Nat) : Int)) (y_min _ _ rfl e49 rfl (by split <;> omega)) rfl (M.sub ⟨rfl, rfl, rfl, rfl, rfl, rfl, trivial⟩)
  · intro ua uw SV pV M0 hk hn hd
    have M : Mx none w uw _ := M0
    clear M0
    obtain ⟨s7, f50, q50⟩ := (show SV 7 = true ∧ ua.eval (.tmp 50) = pV 7 ∧ stE _ 7 (pV 7) from hd 50 (by decide))
    have e50 : ua.eval (.tmp 50) = .int .i64 ((min b.length 48 : Nat) : Int) := f50.trans q50
    exact hopM_run (wanted_none rfl) (.int .i64 ((min b.length 48 + 1 : Nat) : Int)) (y_addI _ _ _ _ rfl e50 rfl (by omega) (by omega)) rfl (M.sub ⟨rfl, rfl, rfl, rfl, rfl, rfl, trivial⟩)
  · intro ua uw SV pV M0 hk hn hd
    have M : Mx none w uw _ := M0
    clear M0
    obtain ⟨s4, f47, q47⟩ := (show SV 4 = true ∧ ua.eval (.tmp 47) = pV 4 ∧ stE _ 4 (pV 4) from hd 47 (by decide))
    have e47 : ua.eval (.tmp 47) = .int .i64 (n.tdiv 3) := f47.trans q47
    obtain ⟨s8, f51, q51⟩ := (show SV 8 = true ∧ ua.eval (.tmp 51) = pV 8 ∧ stE _ 8 (pV 8) from hd 51 (by decide))
    have e51 : ua.eval (.tmp 51) = .int .i64 ((min b.length 48 + 1 : Nat) : Int) := f51.trans q51
    exact hopM_call (wanted_none rfl) rfl #[.int .i64 (n.tdiv 3), .int .i64 ((min b.length 48 + 1 : Nat) : Int)] (args2 e47 e51) (enters_of Try.func22 (by kernel_rfl) rfl) (((same_eq ((hK5 ▸ within5_any (n.tdiv 3) ((min b.length 48 + 1 : Nat) : Int) (by omega) (by omega) (tdiv_bnd hN (show (0 : Int) < 3 by decide)).1 (tdiv_bnd hN (show (0 : Int) < 3 by decide)).2 uw)))).mono fun e w2 h => ⟨_, h.1, rfl, (M.step h.2).sub ⟨rfl, rfl, rfl, rfl, rfl, rfl, trivial⟩⟩)
  · intro ua uw SV pV M0 hk hn hd
    have M : Mx none w uw _ := M0
    clear M0
    obtain ⟨s2, f45, q45⟩ := (show SV 2 = true ∧ ua.eval (.tmp 45) = pV 2 ∧ stE _ 2 (pV 2) from hd 45 (by decide))
    have e45 : ua.eval (.tmp 45) = v := f45.trans q45
    obtain ⟨s9, f52, q52⟩ := (show SV 9 = true ∧ ua.eval (.tmp 52) = pV 9 ∧ stE _ 9 (pV 9) from hd 52 (by decide))
    have e52 : ua.eval (.tmp 52) = .int .i64 (K5 : Int) := f52.trans q52
    exact hopM_exE (wanted_none rfl) (y_slTo _ _ rfl e45 (M.isb (k := 0) rfl) e52 (j := K5) rfl hK5b) fun v h => ⟨trivial, (M.partB 5 (k := 0) rfl h.1 h.2).sub ⟨rfl, rfl, rfl, rfl, rfl, rfl, trivial⟩⟩
  intro p36 a36 w36 M36 G36 y36
  obtain ⟨-, q1, -, -, -, -, -, -, -, -, q10, -⟩ := y36
  have r1 : p36 1 = .slice none 0 0 := q1
  replace M36 : Mx _ _ w36 [(0, bytR b v), (1, blkR g2 54 (recA ⟨0, "".toUTF8, [], 0, 0, [], 0, 0, 0⟩ ⟨.slice none 0 0, .slice none 0 0⟩)), (2, blkR g27 54 (recA ⟨1 + (n % 2), (nmB s), ([] ++ (b.take K2)), (((n.tdiv 2) % 4294967296)).toNat, (((n.tdiv 7) % 4294967296)).toNat, [], ((n.tdiv 11) % 6), ((n.tdiv 13) % 1000), ((n.tdiv 17) % 1099511627776)⟩ ⟨.slice A32 (([] ++ (b.take K2))).length c32, .slice none 0 0⟩)), (3, bytR (b.take K2) (.slice Ap30_3 ((b.take K2)).length cp30_3)), (4, ownR ([] ++ (b.take K2)) (.slice A32 (([] ++ (b.take K2))).length c32)), (5, condR true (bytR (b.take K5) (p36 10)))] := M36
  simp only [List.take_succ_cons, List.take_zero, layV, Nat.zero_add, Nat.reduceAdd, r1] at G36
  obtain ⟨Ap36_5, cp36_5, hp36_5⟩ := (M36.isb (k := 5) rfl).shape
  rw [hp36_5] at M36
  try rw [hp36_5] at G36
  simp only [List.drop_succ_cons, List.drop_zero]
  have M37 := M36.nilO 6
  clear M36
  refine wl_runM (wanted_none rfl) rfl G36 rfl (run_app M37 (k := 6) rfl _ _ rfl (G36.get rfl) (G36.get rfl) (M37.isb (k := 5) rfl) (by simp only [List.length_nil, List.length_take]; omega)) ?_
  intro v38 a38 w38 F38 M38
  clear G36 M37
  obtain ⟨A38, c38, rfl⟩ := (M38.isO (k := 6) rfl).shape
  refine rn rfl rfl F38 rfl (.pointer (some ⟨g27, 19, none⟩)) (y_fa (off := 19) rfl (F38.get rfl) (by kernel_rfl) rfl) fun a39 F39 => ?_
  refine wl_st (wanted_none rfl) rfl F39 M38 (k := 2) rfl _ _ _ rfl (F39.get rfl) (F39.get rfl) (#[.slice A38 (([] ++ (b.take K5))).length c38]) (recA ⟨1 + (n % 2), (nmB s), ([] ++ (b.take K2)), (((n.tdiv 2) % 4294967296)).toNat, (((n.tdiv 7) % 4294967296)).toNat, ([] ++ (b.take K5)), ((n.tdiv 11) % 6), ((n.tdiv 13) % 1000), ((n.tdiv 17) % 1099511627776)⟩ ⟨.slice A32 (([] ++ (b.take K2))).length c32, .slice A38 (([] ++ (b.take K5))).length c38⟩) rfl (Nat.le_of_ble_eq_true rfl) (one_slcB (M38.isO (k := 6) rfl)) (by kernel_rfl) (by kernel_rfl) ?_
  intro w40 M40
  clear M38
  refine hK35 _ _ (wp_seq_k fun K41 hK41 => ?_)
  refine wp_region_lit ?_
  refine rn rfl rfl F39 rfl (.agg (recA ⟨1 + (n % 2), (nmB s), ([] ++ (b.take K2)), (((n.tdiv 2) % 4294967296)).toNat, (((n.tdiv 7) % 4294967296)).toNat, ([] ++ (b.take K5)), ((n.tdiv 11) % 6), ((n.tdiv 13) % 1000), ((n.tdiv 17) % 1099511627776)⟩ ⟨.slice A32 (([] ++ (b.take K2))).length c32, .slice A38 (([] ++ (b.take K5))).length c38⟩)) (y_ldN _ _ rfl (F39.get rfl) (M40.blk (k := 2) rfl) (recA ⟨1 + (n % 2), (nmB s), ([] ++ (b.take K2)), (((n.tdiv 2) % 4294967296)).toNat, (((n.tdiv 7) % 4294967296)).toNat, ([] ++ (b.take K5)), ((n.tdiv 11) % 6), ((n.tdiv 13) % 1000), ((n.tdiv 17) % 1099511627776)⟩ ⟨.slice A32 (([] ++ (b.take K2))).length c32, .slice A38 (([] ++ (b.take K5))).length c38⟩) (y_all rfl) Try.underlying54 rfl (by kernel_rfl)) fun a42 F42 => ?_
  refine wl_st (wanted_none rfl) rfl F42 M40 (k := 1) rfl _ _ _ rfl (F42.get rfl) (F42.get rfl) (recA ⟨1 + (n % 2), (nmB s), ([] ++ (b.take K2)), (((n.tdiv 2) % 4294967296)).toNat, (((n.tdiv 7) % 4294967296)).toNat, ([] ++ (b.take K5)), ((n.tdiv 11) % 6), ((n.tdiv 13) % 1000), ((n.tdiv 17) % 1099511627776)⟩ ⟨.slice A32 (([] ++ (b.take K2))).length c32, .slice A38 (([] ++ (b.take K5))).length c38⟩) (recA ⟨1 + (n % 2), (nmB s), ([] ++ (b.take K2)), (((n.tdiv 2) % 4294967296)).toNat, (((n.tdiv 7) % 4294967296)).toNat, ([] ++ (b.take K5)), ((n.tdiv 11) % 6), ((n.tdiv 13) % 1000), ((n.tdiv 17) % 1099511627776)⟩ ⟨.slice A32 (([] ++ (b.take K2))).length c32, .slice A38 (([] ++ (b.take K5))).length c38⟩) rfl (Nat.le_of_ble_eq_true rfl) (recA_one (w := w40) ⟨(M40.isO (k := 4) rfl), (M40.isO (k := 6) rfl)⟩) (y_put0 rfl) (by kernel_rfl) ?_
  intro w43 M43
  clear M40
  refine hK41 _ _ (wp_ret ?_)
  try simp only [Exit.then, Exit.inBlock, Exit.jump]
  exact bodyPost_ret (results_cell_row rfl _ _ _ _ _ (0, 0) _ (F42.get (t := 6) rfl) (M43.blk (k := 1) rfl) Try.underlying54 rfl (by kernel_rfl)) F42.defers ⟨_, rfl, ⟨.slice A32 (([] ++ (b.take K2))).length c32, .slice A38 (([] ++ (b.take K5))).length c38⟩, (by rw [(show mkR n s b = (⟨1 + (n % 2), (nmB s), ((b.take K2)), (((n.tdiv 2) % 4294967296)).toNat, (((n.tdiv 7) % 4294967296)).toNat, ((b.take K5)), ((n.tdiv 11) % 6), ((n.tdiv 13) % 1000), ((n.tdiv 17) % 1099511627776)⟩ : RecN) from by unfold mkR; rw [hK2, hK5]; rfl)]; rfl), (by rw [(show mkR n s b = (⟨1 + (n % 2), (nmB s), ((b.take K2)), (((n.tdiv 2) % 4294967296)).toNat, (((n.tdiv 7) % 4294967296)).toNat, ((b.take K5)), ((n.tdiv 11) % 6), ((n.tdiv 13) % 1000), ((n.tdiv 17) % 1099511627776)⟩ : RecN) from by unfold mkR; rw [hK2, hK5]; rfl)]; exact ⟨M43.isO (k := 4) rfl, M43.isO (k := 6) rfl⟩), (fun g h => h.elim (fun h => M43.owns (k := 4) rfl g (bfp_ofp h)) (fun h => M43.owns (k := 6) rfl g (bfp_ofp h))), M43.below⟩
end Go.Proofs.Ytlbkogdmojlpmaa
namespace Go.Proofs.Ytlbkogdmojlpmaa
set_option linter.unusedVariables false
set_option maxRecDepth 20000
set_option linter.unusedSimpArgs false
open Go.ChangeShapes Go.WideShapes Go.ChangeAt Go.RowKit
theorem str_eqsT {s t : ByteArray} (h : s = t) : decide (s.toList = t.toList) = true := by subst h; exact decide_eq_true rfl
theorem str_eqsF {s t : ByteArray} (h : ¬ s = t) : decide (s.toList = t.toList) = false := decide_eq_false fun e => h (by
  rw [ByteArray.toList_eq, ByteArray.toList_eq] at e
  cases s; cases t
  congr 1
  exact Array.toList_inj.1 e)
noncomputable def eqR (r r2 : RecN) : Bool := decide (r.p = r2.p) && @decide (r.s = r2.s) (Classical.propDecidable _) && decide (r.l2 = r2.l2) && decide (r.a = r2.a) && decide (r.b = r2.b) && decide (r.l5 = r2.l5) && decide (r.t = r2.t) && decide (r.c = r2.c) && decide (r.z = r2.z)
theorem eqR_iff (r r2 : RecN) : eqR r r2 = true ↔ r = r2 := by
  unfold eqR
  simp only [Bool.and_eq_true, decide_eq_true_eq]
  constructor
  · rintro ⟨⟨⟨⟨⟨⟨⟨⟨h1, h2⟩, h3⟩, h4⟩, h5⟩, h6⟩, h7⟩, h8⟩, h9⟩
    cases r; cases r2
    simp_all
  · rintro rfl; simp
theorem eqR_self (r : RecN) : eqR r r = true := (eqR_iff r r).2 rfl
set_option maxRecDepth 100000 in
set_option maxHeartbeats 8000000 in
theorem recs_any (r r2 : RecN) (V V2 : RecV) (ho : RecOk r) (ho2 : RecOk r2) (w : World) (hm : RecIs w r V) (hm2 : RecIs w r2 V2) :
    Calls Try.prog 38 #[.agg (recA r V), .agg (recA r2 V2)] w fun e w' => e = .returned (.bool (eqR r r2)) ∧ Below w.heap.size w w' := by
  refine calls_fx (args := [.agg (recA r V), .agg (recA r2 V2)]) 70 Try.func38 rfl rfl rfl ?_
  intro fa F
  have M := Mx.start w
  replace M := M.argB 0 hm.h2 (fun g e => by cases e)
  replace M := M.argB 1 hm.h5 (fun g e => by cases e)
  replace M := M.argB 2 hm2.h2 (fun g e => by cases e)
  replace M := M.argB 3 hm2.h5 (fun g e => by cases e)
  refine wp_seq_k fun K1 hK1 => wp_region_lit ?_
  refine wl_alloc (wanted_none rfl) rfl F rfl M 4 (t := 54) (c := recA r V) (by unfold execOp; simp only [(F.get (t := 0) rfl)]; kernel_rfl) ?_
  intro g2 a2 w2 F2 M2
  clear F M
  refine wl_alloc (wanted_none rfl) rfl F2 rfl M2 5 (t := 54) (c := recA r2 V2) (by unfold execOp; simp only [(F2.get (t := 1) rfl)]; kernel_rfl) ?_
  intro g3 a3 w3 F3 M3
  clear F2 M2
  refine rm rfl F3 fun a4 F4 => ?_
  refine hK1 _ _ (wp_seq_k fun K5 hK5 => ?_)
  simp only [List.append_eq, List.cons_append, List.nil_append]
  refine wp_region_lit ?_
  refine exS 4 [(2, .pointer (some ⟨g2, 0, none⟩)), (3, .pointer (some ⟨g3, 0, none⟩)), (4, .bool false), (6, .int .i64 r.p), (8, .int .i64 r2.p)] [0, 1] (dcons (M3.blk (k := 4) rfl) (dcons (M3.blk (k := 5) rfl) dnil)) [g2, g3] F4 (by kernel_rfl) fun a6 F6 => ?_
  simp only [List.drop_succ_cons, List.drop_zero]
  by_cases h7 : r.p = r2.p
  rotate_left
  · refine rn rfl rfl F6 rfl (.bool false) (y_eqI _ _ _ _ rfl (F6.get rfl) (F6.get rfl) Try.underlying3 (y_beqF h7)) fun a56 F56 => ?_
    refine exS 61 [(4, .bool false)] [] dnil [] F56 (by kernel_rfl) fun a57 F57 => ?_
    simp only [List.drop_succ_cons, List.drop_zero]
    refine hK5 _ _ (wp_ret ?_)
    try simp only [Exit.then, Exit.inBlock, Exit.jump]
    exact bodyPost_ret (res1 rfl (F57.get (t := 4) rfl)) F57.defers ⟨by rw [show eqR r r2 = false from by unfold eqR; simp [h7]], M3.below⟩
  refine rn rfl rfl F6 rfl (.bool true) (y_eqI _ _ _ _ rfl (F6.get rfl) (F6.get rfl) Try.underlying3 (y_beqT h7)) fun a8 F8 => ?_
  refine exS 5 [(2, .pointer (some ⟨g2, 0, none⟩)), (3, .pointer (some ⟨g3, 0, none⟩)), (4, .bool false), (10, .bool true), (12, .string r.s), (14, .string r2.s)] [0, 1] (dcons (M3.blk (k := 4) rfl) (dcons (M3.blk (k := 5) rfl) dnil)) [g2, g3] F8 (by kernel_rfl) fun a9 F9 => ?_
  simp only [List.drop_succ_cons, List.drop_zero]
  by_cases h10 : r.s = r2.s
  rotate_left
  · refine wl_run (w' := w3) (wanted_yes rfl rfl rfl (F9.get rfl)) rfl F9 rfl (.bool false) (y_eqS _ _ _ rfl (F9.get rfl) (F9.get rfl) (str_eqsF h10)) fun a54 F54 => ?_
    refine exS 55 [(4, .bool false)] [] dnil [] F54 (by kernel_rfl) fun a55 F55 => ?_
    simp only [List.drop_succ_cons, List.drop_zero]
    refine hK5 _ _ (wp_ret ?_)
    try simp only [Exit.then, Exit.inBlock, Exit.jump]
    exact bodyPost_ret (res1 rfl (F55.get (t := 4) rfl)) F55.defers ⟨by rw [show eqR r r2 = false from by unfold eqR; simp [h7, h10]], M3.below⟩
  refine wl_run (w' := w3) (wanted_yes rfl rfl rfl (F9.get rfl)) rfl F9 rfl (.bool true) (y_eqS _ _ _ rfl (F9.get rfl) (F9.get rfl) (str_eqsT h10)) fun a11 F11 => ?_
  refine exS 4 [(2, .pointer (some ⟨g2, 0, none⟩)), (3, .pointer (some ⟨g3, 0, none⟩)), (4, .bool false), (17, .bool true), (19, V.v2)] [0] (dcons (M3.blk (k := 4) rfl) dnil) [g2] F11 (by kernel_rfl) fun a12 F12 => ?_
  simp only [List.drop_succ_cons, List.drop_zero]
  refine wl_run (w' := w3) (wanted_yes rfl rfl rfl (F12.get rfl)) rfl F12 rfl (.string (⟨(r.l2).toArray⟩)) (y_str _ rfl (F12.get rfl) (M3.isb (k := 0) rfl)) fun a13 F13 => ?_
  refine exA 2 [(21, .pointer (some ⟨g3, 2, none⟩)), (22, V2.v2)] [0] (dcons (M3.blk (k := 5) rfl) dnil) [g3] F13 (by kernel_rfl) (by kernel_rfl) fun a14 F14 => ?_
  simp only [List.drop_succ_cons, List.drop_zero]
  refine wl_run (w' := w3) (wanted_yes rfl rfl rfl (F14.get rfl)) rfl F14 rfl (.string (⟨(r2.l2).toArray⟩)) (y_str _ rfl (F14.get rfl) (M3.isb (k := 2) rfl)) fun a15 F15 => ?_
  by_cases h16 : r.l2 = r2.l2
  rotate_left
  · refine wl_run (w' := w3) (wanted_yes rfl rfl rfl (F15.get rfl)) rfl F15 rfl (.bool false) (y_eqS _ _ _ rfl (F15.get rfl) (F15.get rfl) (str_ne h16)) fun a52 F52 => ?_
    refine exS 46 [(4, .bool false)] [] dnil [] F52 (by kernel_rfl) fun a53 F53 => ?_
    simp only [List.drop_succ_cons, List.drop_zero]
    refine hK5 _ _ (wp_ret ?_)
    try simp only [Exit.then, Exit.inBlock, Exit.jump]
    exact bodyPost_ret (res1 rfl (F53.get (t := 4) rfl)) F53.defers ⟨by rw [show eqR r r2 = false from by unfold eqR; simp [h7, h10, h16]], M3.below⟩
  refine wl_run (w' := w3) (wanted_yes rfl rfl rfl (F15.get rfl)) rfl F15 rfl (.bool true) (y_eqS _ _ _ rfl (F15.get rfl) (F15.get rfl) (str_eq h16)) fun a17 F17 => ?_
  refine exS 6 [(2, .pointer (some ⟨g2, 0, none⟩)), (3, .pointer (some ⟨g3, 0, none⟩)), (4, .bool false), (26, .bool true), (28, numV r.a), (30, numV r2.a)] [0, 1] (dcons (M3.blk (k := 4) rfl) (dcons (M3.blk (k := 5) rfl) dnil)) [g2, g3] F17 (by kernel_rfl) fun a18 F18 => ?_
  simp only [List.drop_succ_cons, List.drop_zero]
  by_cases h19 : r.a = r2.a
  rotate_left
  · refine wl_run (w' := w3) (wanted_yes rfl rfl rfl (F18.get rfl)) rfl F18 rfl (.bool false) (y_eqA _ _ _ _ rfl (F18.get rfl) (F18.get rfl) (by kernel_rfl) (eqn_diff ho.a ho2.a h19 _)) fun a50 F50 => ?_
    refine exS 39 [(4, .bool false)] [] dnil [] F50 (by kernel_rfl) fun a51 F51 => ?_
    simp only [List.drop_succ_cons, List.drop_zero]
    refine hK5 _ _ (wp_ret ?_)
    try simp only [Exit.then, Exit.inBlock, Exit.jump]
    exact bodyPost_ret (res1 rfl (F51.get (t := 4) rfl)) F51.defers ⟨by rw [show eqR r r2 = false from by unfold eqR; simp [h7, h10, h16, h19]], M3.below⟩
  refine wl_run (w' := w3) (wanted_yes rfl rfl rfl (F18.get rfl)) rfl F18 rfl (.bool true) (y_eqA _ _ _ _ rfl (F18.get rfl) (F18.get rfl) (by kernel_rfl) (by rw [h19]; exact eqn_same _ _)) fun a20 F20 => ?_
  refine exS 6 [(2, .pointer (some ⟨g2, 0, none⟩)), (3, .pointer (some ⟨g3, 0, none⟩)), (4, .bool false), (33, .bool true), (35, numV r.b), (37, numV r2.b)] [0, 1] (dcons (M3.blk (k := 4) rfl) (dcons (M3.blk (k := 5) rfl) dnil)) [g2, g3] F20 (by kernel_rfl) fun a21 F21 => ?_
  simp only [List.drop_succ_cons, List.drop_zero]
  by_cases h22 : r.b = r2.b
  rotate_left
  · refine wl_run (w' := w3) (wanted_yes rfl rfl rfl (F21.get rfl)) rfl F21 rfl (.bool false) (y_eqA _ _ _ _ rfl (F21.get rfl) (F21.get rfl) (by kernel_rfl) (eqn_diff ho.b ho2.b h22 _)) fun a48 F48 => ?_
    refine exS 32 [(4, .bool false)] [] dnil [] F48 (by kernel_rfl) fun a49 F49 => ?_
    simp only [List.drop_succ_cons, List.drop_zero]
    refine hK5 _ _ (wp_ret ?_)
    try simp only [Exit.then, Exit.inBlock, Exit.jump]
    exact bodyPost_ret (res1 rfl (F49.get (t := 4) rfl)) F49.defers ⟨by rw [show eqR r r2 = false from by unfold eqR; simp [h7, h10, h16, h19, h22]], M3.below⟩
  refine wl_run (w' := w3) (wanted_yes rfl rfl rfl (F21.get rfl)) rfl F21 rfl (.bool true) (y_eqA _ _ _ _ rfl (F21.get rfl) (F21.get rfl) (by kernel_rfl) (by rw [h22]; exact eqn_same _ _)) fun a23 F23 => ?_
  refine exS 4 [(2, .pointer (some ⟨g2, 0, none⟩)), (3, .pointer (some ⟨g3, 0, none⟩)), (4, .bool false), (40, .bool true), (42, V.v5)] [0] (dcons (M3.blk (k := 4) rfl) dnil) [g2] F23 (by kernel_rfl) fun a24 F24 => ?_
  simp only [List.drop_succ_cons, List.drop_zero]
  refine wl_run (w' := w3) (wanted_yes rfl rfl rfl (F24.get rfl)) rfl F24 rfl (.string (⟨(r.l5).toArray⟩)) (y_str _ rfl (F24.get rfl) (M3.isb (k := 1) rfl)) fun a25 F25 => ?_
  refine exA 2 [(44, .pointer (some ⟨g3, 19, none⟩)), (45, V2.v5)] [0] (dcons (M3.blk (k := 5) rfl) dnil) [g3] F25 (by kernel_rfl) (by kernel_rfl) fun a26 F26 => ?_
  simp only [List.drop_succ_cons, List.drop_zero]
  refine wl_run (w' := w3) (wanted_yes rfl rfl rfl (F26.get rfl)) rfl F26 rfl (.string (⟨(r2.l5).toArray⟩)) (y_str _ rfl (F26.get rfl) (M3.isb (k := 3) rfl)) fun a27 F27 => ?_
  by_cases h28 : r.l5 = r2.l5
  rotate_left
  · refine wl_run (w' := w3) (wanted_yes rfl rfl rfl (F27.get rfl)) rfl F27 rfl (.bool false) (y_eqS _ _ _ rfl (F27.get rfl) (F27.get rfl) (str_ne h28)) fun a46 F46 => ?_
    refine exS 23 [(4, .bool false)] [] dnil [] F46 (by kernel_rfl) fun a47 F47 => ?_
    simp only [List.drop_succ_cons, List.drop_zero]
    refine hK5 _ _ (wp_ret ?_)
    try simp only [Exit.then, Exit.inBlock, Exit.jump]
    exact bodyPost_ret (res1 rfl (F47.get (t := 4) rfl)) F47.defers ⟨by rw [show eqR r r2 = false from by unfold eqR; simp [h7, h10, h16, h19, h22, h28]], M3.below⟩
  refine wl_run (w' := w3) (wanted_yes rfl rfl rfl (F27.get rfl)) rfl F27 rfl (.bool true) (y_eqS _ _ _ rfl (F27.get rfl) (F27.get rfl) (str_eq h28)) fun a29 F29 => ?_
  refine exS 6 [(2, .pointer (some ⟨g2, 0, none⟩)), (3, .pointer (some ⟨g3, 0, none⟩)), (4, .bool false), (49, .bool true), (51, .int .i64 r.t), (53, .int .i64 r2.t)] [0, 1] (dcons (M3.blk (k := 4) rfl) (dcons (M3.blk (k := 5) rfl) dnil)) [g2, g3] F29 (by kernel_rfl) fun a30 F30 => ?_
  simp only [List.drop_succ_cons, List.drop_zero]
  by_cases h31 : r.t = r2.t
  rotate_left
  · refine wl_run (w' := w3) (wanted_yes rfl rfl rfl (F30.get rfl)) rfl F30 rfl (.bool false) (y_eqI _ _ _ _ rfl (F30.get rfl) (F30.get rfl) Try.underlying3 (y_beqF h31)) fun a44 F44 => ?_
    refine exS 16 [(4, .bool false)] [] dnil [] F44 (by kernel_rfl) fun a45 F45 => ?_
    simp only [List.drop_succ_cons, List.drop_zero]
    refine hK5 _ _ (wp_ret ?_)
    try simp only [Exit.then, Exit.inBlock, Exit.jump]
    exact bodyPost_ret (res1 rfl (F45.get (t := 4) rfl)) F45.defers ⟨by rw [show eqR r r2 = false from by unfold eqR; simp [h7, h10, h16, h19, h22, h28, h31]], M3.below⟩
  refine wl_run (w' := w3) (wanted_yes rfl rfl rfl (F30.get rfl)) rfl F30 rfl (.bool true) (y_eqI _ _ _ _ rfl (F30.get rfl) (F30.get rfl) Try.underlying3 (y_beqT h31)) fun a32 F32 => ?_
  refine exS 6 [(2, .pointer (some ⟨g2, 0, none⟩)), (3, .pointer (some ⟨g3, 0, none⟩)), (4, .bool false), (56, .bool true), (58, .int .i64 r.c), (60, .int .i64 r2.c)] [0, 1] (dcons (M3.blk (k := 4) rfl) (dcons (M3.blk (k := 5) rfl) dnil)) [g2, g3] F32 (by kernel_rfl) fun a33 F33 => ?_
  simp only [List.drop_succ_cons, List.drop_zero]
  by_cases h34 : r.c = r2.c
  rotate_left
  · refine wl_run (w' := w3) (wanted_yes rfl rfl rfl (F33.get rfl)) rfl F33 rfl (.bool false) (y_eqI _ _ _ _ rfl (F33.get rfl) (F33.get rfl) Try.underlying3 (y_beqF h34)) fun a42 F42 => ?_
    refine exS 9 [(4, .bool false)] [] dnil [] F42 (by kernel_rfl) fun a43 F43 => ?_
    simp only [List.drop_succ_cons, List.drop_zero]
    refine hK5 _ _ (wp_ret ?_)
    try simp only [Exit.then, Exit.inBlock, Exit.jump]
    exact bodyPost_ret (res1 rfl (F43.get (t := 4) rfl)) F43.defers ⟨by rw [show eqR r r2 = false from by unfold eqR; simp [h7, h10, h16, h19, h22, h28, h31, h34]], M3.below⟩
  refine wl_run (w' := w3) (wanted_yes rfl rfl rfl (F33.get rfl)) rfl F33 rfl (.bool true) (y_eqI _ _ _ _ rfl (F33.get rfl) (F33.get rfl) Try.underlying3 (y_beqT h34)) fun a35 F35 => ?_
  refine exS 6 [(4, .bool false), (63, .bool true), (65, .int .i64 r.z), (67, .int .i64 r2.z)] [0, 1] (dcons (M3.blk (k := 4) rfl) (dcons (M3.blk (k := 5) rfl) dnil)) [g2, g3] F35 (by kernel_rfl) fun a36 F36 => ?_
  simp only [List.drop_succ_cons, List.drop_zero]
  by_cases h37 : r.z = r2.z
  · refine wl_run (w' := w3) (wanted_yes rfl rfl rfl (F36.get rfl)) rfl F36 rfl (.bool true) (y_eqI _ _ _ _ rfl (F36.get rfl) (F36.get rfl) Try.underlying3 (y_beqT h37)) fun a38 F38 => ?_
    refine exS 2 [(4, .bool true)] [] dnil [] F38 (by kernel_rfl) fun a39 F39 => ?_
    simp only [List.drop_succ_cons, List.drop_zero]
    refine hK5 _ _ (wp_ret ?_)
    try simp only [Exit.then, Exit.inBlock, Exit.jump]
    exact bodyPost_ret (res1 rfl (F39.get (t := 4) rfl)) F39.defers ⟨by rw [show eqR r r2 = true from by unfold eqR; simp [h7, h10, h16, h19, h22, h28, h31, h34, h37]], M3.below⟩
  refine wl_run (w' := w3) (wanted_yes rfl rfl rfl (F36.get rfl)) rfl F36 rfl (.bool false) (y_eqI _ _ _ _ rfl (F36.get rfl) (F36.get rfl) Try.underlying3 (y_beqF h37)) fun a40 F40 => ?_
  refine exS 2 [(4, .bool false)] [] dnil [] F40 (by kernel_rfl) fun a41 F41 => ?_
  simp only [List.drop_succ_cons, List.drop_zero]
  refine hK5 _ _ (wp_ret ?_)
  try simp only [Exit.then, Exit.inBlock, Exit.jump]
  exact bodyPost_ret (res1 rfl (F41.get (t := 4) rfl)) F41.defers ⟨by rw [show eqR r r2 = false from by unfold eqR; simp [h7, h10, h16, h19, h22, h28, h31, h34, h37]], M3.below⟩
end Go.Proofs.Ytlbkogdmojlpmaa
