/- sentinellaw3.SpongeParts: the walk. -/
import Derived.Test.YtajombnckgehbaaSReg
namespace Go.Proofs.Ytajombnckgehbaa
set_option linter.unusedVariables false
set_option linter.unusedSimpArgs false
open Go.ChangeShapes Go.WideShapes Go.ChangeAt Go.RowKit Go.Shelf
attribute [local go_sem] eq16_same
set_option maxRecDepth 100000 in
set_option maxHeartbeats 16000000 in
theorem SpongeParts_walk (A0 : Option Addr) (n0 cap0 : Nat) (l0 : List UInt8) (hn0 : l0.length = n0) (hc0 : n0 ≤ cap0) (hm0 : cap0 ≤ maxLen) (hz0 : A0 = none → cap0 = 0)
    (A1 : Option Addr) (n1 cap1 : Nat) (l1 : List UInt8) (hn1 : l1.length = n1) (hc1 : n1 ≤ cap1) (hm1 : cap1 ≤ maxLen) (hz1 : A1 = none → cap1 = 0)
    (a2 : Int) (hk2 : -9223372036854775808 ≤ a2) (hl2 : a2 < 9223372036854775808)
    (a3 : Int) (hk3 : -9223372036854775808 ≤ a3) (hl3 : a3 < 9223372036854775808) (w : World) (hr0 : Rd w A0 l0) (hr1 : Rd w A1 l1) :
    Calls Try.prog 10 #[.slice A0 n0 cap0, .slice A1 n1 cap1, .int .i64 a2, .int .i64 a3] w fun e w' => e = .returned (.bool true) ∧ Below w.heap.size w w' := by
  go_enter Try.func10, Try.ntmps10
  go_wp2_with fail
  refine (known_any _).mono ?_
  rintro e w1 ⟨rfl, b1⟩
  by_cases g0 : 60 < n0
  · go_wp2
    go_ret
    exact ⟨rfl, b1⟩
  by_cases g1 : 100 < n1
  · go_wp2
    go_ret
    exact ⟨rfl, b1⟩
  have i0 := (hr0.step b1).isB' hn0 hc0 hm0 hz0
  have i1 := (hr1.step b1).isB' hn1 hc1 hm1 hz1
  obtain ⟨J, hJ⟩ : ∃ J : Nat, Hid (a2 % ((n1 : Int) + 1) = (J : Int)) := ⟨(a2 % ((n1 : Int) + 1)).toNat, hid (by have := Int.emod_nonneg a2 (show (n1 : Int) + 1 ≠ 0 by omega); omega)⟩
  obtain ⟨I, hI⟩ : ∃ I : Nat, Hid (a3 % ((n1 : Int) + 1) = (I : Int)) := ⟨(a3 % ((n1 : Int) + 1)).toNat, hid (by have := Int.emod_nonneg a3 (show (n1 : Int) + 1 ≠ 0 by omega); omega)⟩
  have hJn : J ≤ n1 := by have := Int.emod_lt_of_pos a2 (show (0 : Int) < (n1 : Int) + 1 by omega); have := hJ.out; omega
  have hIn : I ≤ n1 := by have := Int.emod_lt_of_pos a3 (show (0 : Int) < (n1 : Int) + 1 by omega); have := hI.out; omega
  unfold maxLen at hm1
  go_wp2_with fail
  refine (within_any a2 ((n1 : Int) + 1) (by omega) (by omega) hk2 hl2 _).mono ?_
  rintro e w2 ⟨rfl, rfl⟩
  rw [hJ.out]
  go_wp2_with fail
  refine (within_any a3 ((n1 : Int) + 1) (by omega) (by omega) hk3 hl3 _).mono ?_
  rintro e w2 ⟨rfl, rfl⟩
  rw [hI.out]
  obtain ⟨F, hF⟩ : ∃ F, Hid (macW l0 [(l1).take J, (l1).drop J] = F) := ⟨_, hid rfl⟩
  obtain ⟨G, hG⟩ : ∃ G, Hid (macW l0 [(l1).take I, (l1).drop I] = G) := ⟨_, hid rfl⟩
  obtain ⟨K, hK⟩ : ∃ K, Hid (macW l0 [l1] = K) := ⟨_, hid rfl⟩
  obtain ⟨M, hM⟩ : ∃ M, Hid (macW l0 [l1, []] = M) := ⟨_, hid rfl⟩
  clear hJ hI hr0 hr1
  go_upto_region 6 with (fail)
  refine wp_region_stT [StK.bytes (l0), StK.bytes (l1), StK.eq (.int .i64 (J : Int)), StK.bytes ((l1).take J), StK.bytes (l1), StK.eq (.int .i64 (J : Int)), StK.bytes ((l1).drop J), StK.parts ([(l1).take J, (l1).drop J]), StK.eq (.agg (arr16 (outF F))), StK.new w1.heap.size (#[Value.int .u8 0, .int .u8 0, .int .u8 0, .int .u8 0, .int .u8 0, .int .u8 0, .int .u8 0, .int .u8 0, .int .u8 0, .int .u8 0, .int .u8 0, .int .u8 0, .int .u8 0, .int .u8 0, .int .u8 0, .int .u8 0]) 35 (by decide)] 10 97 rfl (by kernel_rfl) (by kernel_rfl) ⟨?_, ?_, ?_, ?_, ?_, ?_, ?_, ?_, ?_, ?_, trivial⟩ ?_
  · intro a w hb hd
    have e0 : IsB w (l0) (a.eval (.tmp 0)) := by rw [show a.eval (.tmp 0) = .slice A0 n0 cap0 from hd 0 (by decide)]; exact (i0).step hb
    exact hop_runK (F := (StK.bytes (l0)).F) (wanted_none rfl) _ (run_mv _ (.inl rfl) rfl) e0
  · intro a w hb hd
    have e1 : IsB w (l1) (a.eval (.tmp 1)) := by rw [show a.eval (.tmp 1) = .slice A1 n1 cap1 from hd 1 (by decide)]; exact (i1).step hb
    exact hop_runK (F := (StK.bytes (l1)).F) (wanted_none rfl) _ (run_mv _ (.inl rfl) rfl) e1
  · intro a w hb hd
    have e9 : a.eval (.tmp 9) = .int .i64 (J : Int) := hd 9 (by decide)
    exact hop_runK (F := (StK.eq (.int .i64 (J : Int))).F) (wanted_none rfl) _ (run_mv _ (.inl rfl) e9) rfl
  · intro a w hb hd
    have e34 : IsB w (l1) (a.eval (.tmp 34)) := hd 34 (by decide)
    have e35 : a.eval (.tmp 35) = .int .i64 (J : Int) := hd 35 (by decide)
    exact hop_slTo (wanted_none rfl) _ _ rfl e34 (K := J) e35 (by first | rfl | omega) (by omega)
  · intro a w hb hd
    have e1 : IsB w (l1) (a.eval (.tmp 1)) := by rw [show a.eval (.tmp 1) = .slice A1 n1 cap1 from hd 1 (by decide)]; exact (i1).step hb
    exact hop_runK (F := (StK.bytes (l1)).F) (wanted_none rfl) _ (run_mv _ (.inl rfl) rfl) e1
  · intro a w hb hd
    have e9 : a.eval (.tmp 9) = .int .i64 (J : Int) := hd 9 (by decide)
    exact hop_runK (F := (StK.eq (.int .i64 (J : Int))).F) (wanted_none rfl) _ (run_mv _ (.inl rfl) e9) rfl
  · intro a w hb hd
    have e37 : IsB w (l1) (a.eval (.tmp 37)) := hd 37 (by decide)
    have e38 : a.eval (.tmp 38) = .int .i64 (J : Int) := hd 38 (by decide)
    exact hop_slFrom (wanted_none rfl) _ _ rfl e37 (K := J) e38 (by first | rfl | omega) (by omega)
  · intro a w hb hd
    have e36 : IsB w ((l1).take J) (a.eval (.tmp 36)) := hd 36 (by decide)
    have e39 : IsB w ((l1).drop J) (a.eval (.tmp 39)) := hd 39 (by decide)
    exact hop_parts2 (wanted_none rfl) hb.size (.tmp 36) (.tmp 39) rfl e36 e39
  · intro a w hb hd
    have e33 : IsB w (l0) (a.eval (.tmp 33)) := hd 33 (by decide)
    have e40 : IsP w ([(l1).take J, (l1).drop J]) (a.eval (.tmp 40)) := hd 40 (by decide)
    exact hop_callK (F := (StK.eq (.agg (arr16 (outF F)))).F) (wanted_none rfl) hb.size rfl #[a.eval (.tmp 33), a.eval (.tmp 40)] (by first | (simp only [List.map_toArray, List.map_cons, List.map_nil]; done) | (simp only [List.map_toArray, List.map_cons, List.map_nil]; rfl)) (enters_of Try.func24 (by kernel_rfl) rfl) (by exact call_eq (by have := mac_b e33 e40; rw [hF.out] at this; exact this))
  · intro a w hb hd
    exact hop_new (wanted_none rfl) hb.size hb.size (by decide) (sum_newB rfl)
  intro pw2 w2 bw2 hp
  obtain ⟨-, -, -, -, -, -, -, -, q8, q9, -⟩ := hp
  have e8 : pw2 8 = .agg (arr16 (outF F)) := q8 (by decide)
  obtain ⟨g11, e9, hg11, c11⟩ := q9 (by decide)
  simp only [List.take_succ_cons, List.take_zero, List.drop_succ_cons, List.drop_zero, layAll, Act.put, List.setIfInBounds_toArray, List.set_cons_zero, List.set_cons_succ, Nat.zero_add, Nat.reduceAdd, e8, show pw2 9 = .pointer (some ⟨g11, 0, none⟩) from e9]
  clear q8 e8 e9
  go_wp2_with (refine wpList_store_blk rfl _ (.tmp 11) _ rfl _ rfl _ rfl (arr16_one _) _ c11 rfl size35 ?_; intro w3 g3 c3)
  have B3 : Below w1.heap.size w1 w3 := below_of_grown bw2 g3 bw2.size hg11
  have j0 := i0.step B3
  have j1 := i1.step B3
  clear c11 g3 bw2
  go_upto_region 7 with (fail)
  refine wp_region_stT [StK.bytes (l0), StK.bytes (l1), StK.eq (.int .i64 (I : Int)), StK.bytes ((l1).take I), StK.bytes (l1), StK.eq (.int .i64 (I : Int)), StK.bytes ((l1).drop I), StK.parts ([(l1).take I, (l1).drop I]), StK.eq (.agg (arr16 (outF G))), StK.new w3.heap.size (#[Value.int .u8 0, .int .u8 0, .int .u8 0, .int .u8 0, .int .u8 0, .int .u8 0, .int .u8 0, .int .u8 0, .int .u8 0, .int .u8 0, .int .u8 0, .int .u8 0, .int .u8 0, .int .u8 0, .int .u8 0, .int .u8 0]) 35 (by decide)] 10 97 rfl (by kernel_rfl) (by kernel_rfl) ⟨?_, ?_, ?_, ?_, ?_, ?_, ?_, ?_, ?_, ?_, trivial⟩ ?_
  · intro a w hb hd
    have e0 : IsB w (l0) (a.eval (.tmp 0)) := by rw [show a.eval (.tmp 0) = .slice A0 n0 cap0 from hd 0 (by decide)]; exact (j0).step hb
    exact hop_runK (F := (StK.bytes (l0)).F) (wanted_none rfl) _ (run_mv _ (.inl rfl) rfl) e0
  · intro a w hb hd
    have e1 : IsB w (l1) (a.eval (.tmp 1)) := by rw [show a.eval (.tmp 1) = .slice A1 n1 cap1 from hd 1 (by decide)]; exact (j1).step hb
    exact hop_runK (F := (StK.bytes (l1)).F) (wanted_none rfl) _ (run_mv _ (.inl rfl) rfl) e1
  · intro a w hb hd
    have e10 : a.eval (.tmp 10) = .int .i64 (I : Int) := hd 10 (by decide)
    exact hop_runK (F := (StK.eq (.int .i64 (I : Int))).F) (wanted_none rfl) _ (run_mv _ (.inl rfl) e10) rfl
  · intro a w hb hd
    have e43 : IsB w (l1) (a.eval (.tmp 43)) := hd 43 (by decide)
    have e44 : a.eval (.tmp 44) = .int .i64 (I : Int) := hd 44 (by decide)
    exact hop_slTo (wanted_none rfl) _ _ rfl e43 (K := I) e44 (by first | rfl | omega) (by omega)
  · intro a w hb hd
    have e1 : IsB w (l1) (a.eval (.tmp 1)) := by rw [show a.eval (.tmp 1) = .slice A1 n1 cap1 from hd 1 (by decide)]; exact (j1).step hb
    exact hop_runK (F := (StK.bytes (l1)).F) (wanted_none rfl) _ (run_mv _ (.inl rfl) rfl) e1
  · intro a w hb hd
    have e10 : a.eval (.tmp 10) = .int .i64 (I : Int) := hd 10 (by decide)
    exact hop_runK (F := (StK.eq (.int .i64 (I : Int))).F) (wanted_none rfl) _ (run_mv _ (.inl rfl) e10) rfl
  · intro a w hb hd
    have e46 : IsB w (l1) (a.eval (.tmp 46)) := hd 46 (by decide)
    have e47 : a.eval (.tmp 47) = .int .i64 (I : Int) := hd 47 (by decide)
    exact hop_slFrom (wanted_none rfl) _ _ rfl e46 (K := I) e47 (by first | rfl | omega) (by omega)
  · intro a w hb hd
    have e45 : IsB w ((l1).take I) (a.eval (.tmp 45)) := hd 45 (by decide)
    have e48 : IsB w ((l1).drop I) (a.eval (.tmp 48)) := hd 48 (by decide)
    exact hop_parts2 (wanted_none rfl) hb.size (.tmp 45) (.tmp 48) rfl e45 e48
  · intro a w hb hd
    have e42 : IsB w (l0) (a.eval (.tmp 42)) := hd 42 (by decide)
    have e49 : IsP w ([(l1).take I, (l1).drop I]) (a.eval (.tmp 49)) := hd 49 (by decide)
    exact hop_callK (F := (StK.eq (.agg (arr16 (outF G)))).F) (wanted_none rfl) hb.size rfl #[a.eval (.tmp 42), a.eval (.tmp 49)] (by first | (simp only [List.map_toArray, List.map_cons, List.map_nil]; done) | (simp only [List.map_toArray, List.map_cons, List.map_nil]; rfl)) (enters_of Try.func24 (by kernel_rfl) rfl) (by exact call_eq (by have := mac_b e42 e49; rw [hG.out] at this; exact this))
  · intro a w hb hd
    exact hop_new (wanted_none rfl) hb.size hb.size (by decide) (sum_newB rfl)
  intro pw4 w4 bw4 hp
  obtain ⟨-, -, -, -, -, -, -, -, q8, q9, -⟩ := hp
  have e8 : pw4 8 = .agg (arr16 (outF G)) := q8 (by decide)
  obtain ⟨g12, e9, hg12, c12⟩ := q9 (by decide)
  simp only [List.take_succ_cons, List.take_zero, List.drop_succ_cons, List.drop_zero, layAll, Act.put, List.setIfInBounds_toArray, List.set_cons_zero, List.set_cons_succ, Nat.zero_add, Nat.reduceAdd, e8, show pw4 9 = .pointer (some ⟨g12, 0, none⟩) from e9]
  clear q8 e8 e9
  go_wp2_with (refine wpList_store_blk rfl _ (.tmp 12) _ rfl _ rfl _ rfl (arr16_one _) _ c12 rfl size35 ?_; intro w5 g5 c5)
  have B5 : Below w3.heap.size w3 w5 := below_of_grown bw4 g5 bw4.size hg12
  have c35 := c3.step B5
  have k0 := j0.step B5
  have k1 := j1.step B5
  have D5 := step_trans b1 (step_trans B3 B5)
  clear c12 g5 bw4 j0 j1 i0 i1 c3 B3 B5
  go_upto_region 8 with (fail)
  refine wp_region_stT [StK.eq (.agg (arr16 (outF F))), StK.bytes (l0), StK.bytes (l1), StK.eq (.int .i64 (J : Int)), StK.bytes ((l1).take J), StK.bytes (l1), StK.eq (.int .i64 (J : Int)), StK.bytes ((l1).drop J), StK.parts ([(l1).take J, (l1).drop J]), StK.eq (.agg (arr16 (outF F))), StK.eq (.bool true), StK.eq (.bool true), StK.eq (.agg (arr16 (outF G))), StK.bytes (l0), StK.bytes (l1), StK.eq (.int .i64 (I : Int)), StK.bytes ((l1).take I), StK.bytes (l1), StK.eq (.int .i64 (I : Int)), StK.bytes ((l1).drop I), StK.parts ([(l1).take I, (l1).drop I]), StK.eq (.agg (arr16 (outF G))), StK.eq (.bool true), StK.eq (.bool true), StK.eq (.bool true), StK.bytes (l0), StK.bytes (l1), StK.parts ([l1]), StK.eq (.agg (arr16 (outF K))), StK.bytes (l0), StK.bytes (l1), StK.parts ([l1]), StK.eq (.agg (arr16 (outF K))), StK.eq (.bool true), StK.eq (.bool true), StK.eq (.bool true), StK.bytes (l0), StK.bytes (l1), StK.parts ([l1, []]), StK.eq (.agg (arr16 (outF M))), StK.bytes (l0), StK.bytes (l1), StK.parts ([l1, []]), StK.eq (.agg (arr16 (outF M))), StK.eq (.bool true), StK.eq (.bool true), StK.eq (.bool true)] 47 97 rfl (by kernel_rfl) (by kernel_rfl) ⟨?_, ?_, ?_, ?_, ?_, ?_, ?_, ?_, ?_, ?_, ?_, ?_, ?_, ?_, ?_, ?_, ?_, ?_, ?_, ?_, ?_, ?_, ?_, ?_, ?_, ?_, ?_, ?_, ?_, ?_, ?_, ?_, ?_, ?_, ?_, ?_, ?_, ?_, ?_, ?_, ?_, ?_, ?_, ?_, ?_, ?_, ?_, trivial⟩ ?_
  · intro a w hb hd
    have e11 : a.eval (.tmp 11) = .pointer (some ⟨g11, 0, none⟩) := hd 11 (by decide)
    exact hop_runK (F := (StK.eq (.agg (arr16 (outF F)))).F) (wanted_none rfl) _ (run_ldS _ rfl e11 ((c35).step hb)) rfl
  · intro a w hb hd
    have e0 : IsB w (l0) (a.eval (.tmp 0)) := by rw [show a.eval (.tmp 0) = .slice A0 n0 cap0 from hd 0 (by decide)]; exact (k0).step hb
    exact hop_runK (F := (StK.bytes (l0)).F) (wanted_none rfl) _ (run_mv _ (.inl rfl) rfl) e0
  · intro a w hb hd
    have e1 : IsB w (l1) (a.eval (.tmp 1)) := by rw [show a.eval (.tmp 1) = .slice A1 n1 cap1 from hd 1 (by decide)]; exact (k1).step hb
    exact hop_runK (F := (StK.bytes (l1)).F) (wanted_none rfl) _ (run_mv _ (.inl rfl) rfl) e1
  · intro a w hb hd
    have e9 : a.eval (.tmp 9) = .int .i64 (J : Int) := hd 9 (by decide)
    exact hop_runK (F := (StK.eq (.int .i64 (J : Int))).F) (wanted_none rfl) _ (run_mv _ (.inl rfl) e9) rfl
  · intro a w hb hd
    have e53 : IsB w (l1) (a.eval (.tmp 53)) := hd 53 (by decide)
    have e54 : a.eval (.tmp 54) = .int .i64 (J : Int) := hd 54 (by decide)
    exact hop_slTo (wanted_none rfl) _ _ rfl e53 (K := J) e54 (by first | rfl | omega) (by omega)
  · intro a w hb hd
    have e1 : IsB w (l1) (a.eval (.tmp 1)) := by rw [show a.eval (.tmp 1) = .slice A1 n1 cap1 from hd 1 (by decide)]; exact (k1).step hb
    exact hop_runK (F := (StK.bytes (l1)).F) (wanted_none rfl) _ (run_mv _ (.inl rfl) rfl) e1
  · intro a w hb hd
    have e9 : a.eval (.tmp 9) = .int .i64 (J : Int) := hd 9 (by decide)
    exact hop_runK (F := (StK.eq (.int .i64 (J : Int))).F) (wanted_none rfl) _ (run_mv _ (.inl rfl) e9) rfl
  · intro a w hb hd
    have e56 : IsB w (l1) (a.eval (.tmp 56)) := hd 56 (by decide)
    have e57 : a.eval (.tmp 57) = .int .i64 (J : Int) := hd 57 (by decide)
    exact hop_slFrom (wanted_none rfl) _ _ rfl e56 (K := J) e57 (by first | rfl | omega) (by omega)
  · intro a w hb hd
    have e55 : IsB w ((l1).take J) (a.eval (.tmp 55)) := hd 55 (by decide)
    have e58 : IsB w ((l1).drop J) (a.eval (.tmp 58)) := hd 58 (by decide)
    exact hop_parts2 (wanted_none rfl) hb.size (.tmp 55) (.tmp 58) rfl e55 e58
  · intro a w hb hd
    have e52 : IsB w (l0) (a.eval (.tmp 52)) := hd 52 (by decide)
    have e59 : IsP w ([(l1).take J, (l1).drop J]) (a.eval (.tmp 59)) := hd 59 (by decide)
    exact hop_callK (F := (StK.eq (.agg (arr16 (outF F)))).F) (wanted_none rfl) hb.size rfl #[a.eval (.tmp 52), a.eval (.tmp 59)] (by first | (simp only [List.map_toArray, List.map_cons, List.map_nil]; done) | (simp only [List.map_toArray, List.map_cons, List.map_nil]; rfl)) (enters_of Try.func25 (by kernel_rfl) rfl) (by exact call_eq (by have := rmac_b e52 e59 (by omega) (by simp) (by simp only [List.mem_cons, List.not_mem_nil, or_false, forall_eq_or_imp, forall_eq, List.length_take, List.length_drop, List.length_nil]; omega) (by simp only [cat, List.length_append, eightL_len, List.length_take, List.length_drop, List.length_nil]; omega); rw [hF.out] at this; exact this))
  · intro a w hb hd
    have e51 : a.eval (.tmp 51) = .agg (arr16 (outF F)) := hd 51 (by decide)
    have e60 : a.eval (.tmp 60) = .agg (arr16 (outF F)) := hd 60 (by decide)
    exact hop_runK (F := (StK.eq (.bool true)).F) (wanted_none rfl) _ (run_eq16 _ _ rfl (outF F) e51 e60) rfl
  · intro a w hb hd
    have e61 : a.eval (.tmp 61) = .bool true := hd 61 (by decide)
    exact hop_runK (F := (StK.eq (.bool true)).F) (wanted_none rfl) _ (run_mv _ (.inl rfl) e61) rfl
  · intro a w hb hd
    have eg : a.eval (.tmp 62) = .bool true := hd 62 (by decide)
    have e12 : a.eval (.tmp 12) = .pointer (some ⟨g12, 0, none⟩) := hd 12 (by decide)
    exact hop_runK (F := (StK.eq (.agg (arr16 (outF G)))).F) (wanted_yes rfl rfl rfl eg) _ (run_ldS _ rfl e12 ((c5).step hb)) rfl
  · intro a w hb hd
    have eg : a.eval (.tmp 62) = .bool true := hd 62 (by decide)
    have e0 : IsB w (l0) (a.eval (.tmp 0)) := by rw [show a.eval (.tmp 0) = .slice A0 n0 cap0 from hd 0 (by decide)]; exact (k0).step hb
    exact hop_runK (F := (StK.bytes (l0)).F) (wanted_yes rfl rfl rfl eg) _ (run_mv _ (.inl rfl) rfl) e0
  · intro a w hb hd
    have eg : a.eval (.tmp 62) = .bool true := hd 62 (by decide)
    have e1 : IsB w (l1) (a.eval (.tmp 1)) := by rw [show a.eval (.tmp 1) = .slice A1 n1 cap1 from hd 1 (by decide)]; exact (k1).step hb
    exact hop_runK (F := (StK.bytes (l1)).F) (wanted_yes rfl rfl rfl eg) _ (run_mv _ (.inl rfl) rfl) e1
  · intro a w hb hd
    have eg : a.eval (.tmp 62) = .bool true := hd 62 (by decide)
    have e10 : a.eval (.tmp 10) = .int .i64 (I : Int) := hd 10 (by decide)
    exact hop_runK (F := (StK.eq (.int .i64 (I : Int))).F) (wanted_yes rfl rfl rfl eg) _ (run_mv _ (.inl rfl) e10) rfl
  · intro a w hb hd
    have eg : a.eval (.tmp 62) = .bool true := hd 62 (by decide)
    have e65 : IsB w (l1) (a.eval (.tmp 65)) := hd 65 (by decide)
    have e66 : a.eval (.tmp 66) = .int .i64 (I : Int) := hd 66 (by decide)
    exact hop_slTo (wanted_yes rfl rfl rfl eg) _ _ rfl e65 (K := I) e66 (by first | rfl | omega) (by omega)
  · intro a w hb hd
    have eg : a.eval (.tmp 62) = .bool true := hd 62 (by decide)
    have e1 : IsB w (l1) (a.eval (.tmp 1)) := by rw [show a.eval (.tmp 1) = .slice A1 n1 cap1 from hd 1 (by decide)]; exact (k1).step hb
    exact hop_runK (F := (StK.bytes (l1)).F) (wanted_yes rfl rfl rfl eg) _ (run_mv _ (.inl rfl) rfl) e1
  · intro a w hb hd
    have eg : a.eval (.tmp 62) = .bool true := hd 62 (by decide)
    have e10 : a.eval (.tmp 10) = .int .i64 (I : Int) := hd 10 (by decide)
    exact hop_runK (F := (StK.eq (.int .i64 (I : Int))).F) (wanted_yes rfl rfl rfl eg) _ (run_mv _ (.inl rfl) e10) rfl
  · intro a w hb hd
    have eg : a.eval (.tmp 62) = .bool true := hd 62 (by decide)
    have e68 : IsB w (l1) (a.eval (.tmp 68)) := hd 68 (by decide)
    have e69 : a.eval (.tmp 69) = .int .i64 (I : Int) := hd 69 (by decide)
    exact hop_slFrom (wanted_yes rfl rfl rfl eg) _ _ rfl e68 (K := I) e69 (by first | rfl | omega) (by omega)
  · intro a w hb hd
    have eg : a.eval (.tmp 62) = .bool true := hd 62 (by decide)
    have e67 : IsB w ((l1).take I) (a.eval (.tmp 67)) := hd 67 (by decide)
    have e70 : IsB w ((l1).drop I) (a.eval (.tmp 70)) := hd 70 (by decide)
    exact hop_parts2 (wanted_yes rfl rfl rfl eg) hb.size (.tmp 67) (.tmp 70) rfl e67 e70
  · intro a w hb hd
    have eg : a.eval (.tmp 62) = .bool true := hd 62 (by decide)
    have e64 : IsB w (l0) (a.eval (.tmp 64)) := hd 64 (by decide)
    have e71 : IsP w ([(l1).take I, (l1).drop I]) (a.eval (.tmp 71)) := hd 71 (by decide)
    exact hop_callK (F := (StK.eq (.agg (arr16 (outF G)))).F) (wanted_yes rfl rfl rfl eg) hb.size rfl #[a.eval (.tmp 64), a.eval (.tmp 71)] (by first | (simp only [List.map_toArray, List.map_cons, List.map_nil]; done) | (simp only [List.map_toArray, List.map_cons, List.map_nil]; rfl)) (enters_of Try.func25 (by kernel_rfl) rfl) (by exact call_eq (by have := rmac_b e64 e71 (by omega) (by simp) (by simp only [List.mem_cons, List.not_mem_nil, or_false, forall_eq_or_imp, forall_eq, List.length_take, List.length_drop, List.length_nil]; omega) (by simp only [cat, List.length_append, eightL_len, List.length_take, List.length_drop, List.length_nil]; omega); rw [hG.out] at this; exact this))
  · intro a w hb hd
    have eg : a.eval (.tmp 62) = .bool true := hd 62 (by decide)
    have e63 : a.eval (.tmp 63) = .agg (arr16 (outF G)) := hd 63 (by decide)
    have e72 : a.eval (.tmp 72) = .agg (arr16 (outF G)) := hd 72 (by decide)
    exact hop_runK (F := (StK.eq (.bool true)).F) (wanted_yes rfl rfl rfl eg) _ (run_eq16 _ _ rfl (outF G) e63 e72) rfl
  · intro a w hb hd
    have e62 : a.eval (.tmp 62) = .bool true := hd 62 (by decide)
    have e73 : a.eval (.tmp 73) = .bool true := hd 73 (by decide)
    exact hop_runK (F := (StK.eq (.bool true)).F) (wanted_none rfl) _ (run_pick_t rfl e62 e73) rfl
  · intro a w hb hd
    have e74 : a.eval (.tmp 74) = .bool true := hd 74 (by decide)
    exact hop_runK (F := (StK.eq (.bool true)).F) (wanted_none rfl) _ (run_mv _ (.inl rfl) e74) rfl
  · intro a w hb hd
    have eg : a.eval (.tmp 75) = .bool true := hd 75 (by decide)
    have e0 : IsB w (l0) (a.eval (.tmp 0)) := by rw [show a.eval (.tmp 0) = .slice A0 n0 cap0 from hd 0 (by decide)]; exact (k0).step hb
    exact hop_runK (F := (StK.bytes (l0)).F) (wanted_yes rfl rfl rfl eg) _ (run_mv _ (.inl rfl) rfl) e0
  · intro a w hb hd
    have eg : a.eval (.tmp 75) = .bool true := hd 75 (by decide)
    have e1 : IsB w (l1) (a.eval (.tmp 1)) := by rw [show a.eval (.tmp 1) = .slice A1 n1 cap1 from hd 1 (by decide)]; exact (k1).step hb
    exact hop_runK (F := (StK.bytes (l1)).F) (wanted_yes rfl rfl rfl eg) _ (run_mv _ (.inl rfl) rfl) e1
  · intro a w hb hd
    have eg : a.eval (.tmp 75) = .bool true := hd 75 (by decide)
    have e77 : IsB w (l1) (a.eval (.tmp 77)) := hd 77 (by decide)
    exact hop_parts1 (wanted_yes rfl rfl rfl eg) hb.size (.tmp 77) rfl e77
  · intro a w hb hd
    have eg : a.eval (.tmp 75) = .bool true := hd 75 (by decide)
    have e76 : IsB w (l0) (a.eval (.tmp 76)) := hd 76 (by decide)
    have e78 : IsP w ([l1]) (a.eval (.tmp 78)) := hd 78 (by decide)
    exact hop_callK (F := (StK.eq (.agg (arr16 (outF K)))).F) (wanted_yes rfl rfl rfl eg) hb.size rfl #[a.eval (.tmp 76), a.eval (.tmp 78)] (by first | (simp only [List.map_toArray, List.map_cons, List.map_nil]; done) | (simp only [List.map_toArray, List.map_cons, List.map_nil]; rfl)) (enters_of Try.func24 (by kernel_rfl) rfl) (by exact call_eq (by have := mac_b e76 e78; rw [hK.out] at this; exact this))
  · intro a w hb hd
    have eg : a.eval (.tmp 75) = .bool true := hd 75 (by decide)
    have e0 : IsB w (l0) (a.eval (.tmp 0)) := by rw [show a.eval (.tmp 0) = .slice A0 n0 cap0 from hd 0 (by decide)]; exact (k0).step hb
    exact hop_runK (F := (StK.bytes (l0)).F) (wanted_yes rfl rfl rfl eg) _ (run_mv _ (.inl rfl) rfl) e0
  · intro a w hb hd
    have eg : a.eval (.tmp 75) = .bool true := hd 75 (by decide)
    have e1 : IsB w (l1) (a.eval (.tmp 1)) := by rw [show a.eval (.tmp 1) = .slice A1 n1 cap1 from hd 1 (by decide)]; exact (k1).step hb
    exact hop_runK (F := (StK.bytes (l1)).F) (wanted_yes rfl rfl rfl eg) _ (run_mv _ (.inl rfl) rfl) e1
  · intro a w hb hd
    have eg : a.eval (.tmp 75) = .bool true := hd 75 (by decide)
    have e81 : IsB w (l1) (a.eval (.tmp 81)) := hd 81 (by decide)
    exact hop_parts1 (wanted_yes rfl rfl rfl eg) hb.size (.tmp 81) rfl e81
  · intro a w hb hd
    have eg : a.eval (.tmp 75) = .bool true := hd 75 (by decide)
    have e80 : IsB w (l0) (a.eval (.tmp 80)) := hd 80 (by decide)
    have e82 : IsP w ([l1]) (a.eval (.tmp 82)) := hd 82 (by decide)
    exact hop_callK (F := (StK.eq (.agg (arr16 (outF K)))).F) (wanted_yes rfl rfl rfl eg) hb.size rfl #[a.eval (.tmp 80), a.eval (.tmp 82)] (by first | (simp only [List.map_toArray, List.map_cons, List.map_nil]; done) | (simp only [List.map_toArray, List.map_cons, List.map_nil]; rfl)) (enters_of Try.func25 (by kernel_rfl) rfl) (by exact call_eq (by have := rmac_b e80 e82 (by omega) (by simp) (by simp only [List.mem_cons, List.not_mem_nil, or_false, forall_eq_or_imp, forall_eq, List.length_take, List.length_drop, List.length_nil]; omega) (by simp only [cat, List.length_append, eightL_len, List.length_take, List.length_drop, List.length_nil]; omega); rw [hK.out] at this; exact this))
  · intro a w hb hd
    have eg : a.eval (.tmp 75) = .bool true := hd 75 (by decide)
    have e79 : a.eval (.tmp 79) = .agg (arr16 (outF K)) := hd 79 (by decide)
    have e83 : a.eval (.tmp 83) = .agg (arr16 (outF K)) := hd 83 (by decide)
    exact hop_runK (F := (StK.eq (.bool true)).F) (wanted_yes rfl rfl rfl eg) _ (run_eq16 _ _ rfl (outF K) e79 e83) rfl
  · intro a w hb hd
    have e75 : a.eval (.tmp 75) = .bool true := hd 75 (by decide)
    have e84 : a.eval (.tmp 84) = .bool true := hd 84 (by decide)
    exact hop_runK (F := (StK.eq (.bool true)).F) (wanted_none rfl) _ (run_pick_t rfl e75 e84) rfl
  · intro a w hb hd
    have e85 : a.eval (.tmp 85) = .bool true := hd 85 (by decide)
    exact hop_runK (F := (StK.eq (.bool true)).F) (wanted_none rfl) _ (run_mv _ (.inl rfl) e85) rfl
  · intro a w hb hd
    have eg : a.eval (.tmp 86) = .bool true := hd 86 (by decide)
    have e0 : IsB w (l0) (a.eval (.tmp 0)) := by rw [show a.eval (.tmp 0) = .slice A0 n0 cap0 from hd 0 (by decide)]; exact (k0).step hb
    exact hop_runK (F := (StK.bytes (l0)).F) (wanted_yes rfl rfl rfl eg) _ (run_mv _ (.inl rfl) rfl) e0
  · intro a w hb hd
    have eg : a.eval (.tmp 86) = .bool true := hd 86 (by decide)
    have e1 : IsB w (l1) (a.eval (.tmp 1)) := by rw [show a.eval (.tmp 1) = .slice A1 n1 cap1 from hd 1 (by decide)]; exact (k1).step hb
    exact hop_runK (F := (StK.bytes (l1)).F) (wanted_yes rfl rfl rfl eg) _ (run_mv _ (.inl rfl) rfl) e1
  · intro a w hb hd
    have eg : a.eval (.tmp 86) = .bool true := hd 86 (by decide)
    have e88 : IsB w (l1) (a.eval (.tmp 88)) := hd 88 (by decide)
    exact hop_parts2 (wanted_yes rfl rfl rfl eg) hb.size (.tmp 88) (.const (.slice none 0 0)) rfl e88 (IsB.nil w)
  · intro a w hb hd
    have eg : a.eval (.tmp 86) = .bool true := hd 86 (by decide)
    have e87 : IsB w (l0) (a.eval (.tmp 87)) := hd 87 (by decide)
    have e89 : IsP w ([l1, []]) (a.eval (.tmp 89)) := hd 89 (by decide)
    exact hop_callK (F := (StK.eq (.agg (arr16 (outF M)))).F) (wanted_yes rfl rfl rfl eg) hb.size rfl #[a.eval (.tmp 87), a.eval (.tmp 89)] (by first | (simp only [List.map_toArray, List.map_cons, List.map_nil]; done) | (simp only [List.map_toArray, List.map_cons, List.map_nil]; rfl)) (enters_of Try.func24 (by kernel_rfl) rfl) (by exact call_eq (by have := mac_b e87 e89; rw [hM.out] at this; exact this))
  · intro a w hb hd
    have eg : a.eval (.tmp 86) = .bool true := hd 86 (by decide)
    have e0 : IsB w (l0) (a.eval (.tmp 0)) := by rw [show a.eval (.tmp 0) = .slice A0 n0 cap0 from hd 0 (by decide)]; exact (k0).step hb
    exact hop_runK (F := (StK.bytes (l0)).F) (wanted_yes rfl rfl rfl eg) _ (run_mv _ (.inl rfl) rfl) e0
  · intro a w hb hd
    have eg : a.eval (.tmp 86) = .bool true := hd 86 (by decide)
    have e1 : IsB w (l1) (a.eval (.tmp 1)) := by rw [show a.eval (.tmp 1) = .slice A1 n1 cap1 from hd 1 (by decide)]; exact (k1).step hb
    exact hop_runK (F := (StK.bytes (l1)).F) (wanted_yes rfl rfl rfl eg) _ (run_mv _ (.inl rfl) rfl) e1
  · intro a w hb hd
    have eg : a.eval (.tmp 86) = .bool true := hd 86 (by decide)
    have e92 : IsB w (l1) (a.eval (.tmp 92)) := hd 92 (by decide)
    exact hop_parts2 (wanted_yes rfl rfl rfl eg) hb.size (.tmp 92) (.const (.slice none 0 0)) rfl e92 (IsB.nil w)
  · intro a w hb hd
    have eg : a.eval (.tmp 86) = .bool true := hd 86 (by decide)
    have e91 : IsB w (l0) (a.eval (.tmp 91)) := hd 91 (by decide)
    have e93 : IsP w ([l1, []]) (a.eval (.tmp 93)) := hd 93 (by decide)
    exact hop_callK (F := (StK.eq (.agg (arr16 (outF M)))).F) (wanted_yes rfl rfl rfl eg) hb.size rfl #[a.eval (.tmp 91), a.eval (.tmp 93)] (by first | (simp only [List.map_toArray, List.map_cons, List.map_nil]; done) | (simp only [List.map_toArray, List.map_cons, List.map_nil]; rfl)) (enters_of Try.func25 (by kernel_rfl) rfl) (by exact call_eq (by have := rmac_b e91 e93 (by omega) (by simp) (by simp only [List.mem_cons, List.not_mem_nil, or_false, forall_eq_or_imp, forall_eq, List.length_take, List.length_drop, List.length_nil]; omega) (by simp only [cat, List.length_append, eightL_len, List.length_take, List.length_drop, List.length_nil]; omega); rw [hM.out] at this; exact this))
  · intro a w hb hd
    have eg : a.eval (.tmp 86) = .bool true := hd 86 (by decide)
    have e90 : a.eval (.tmp 90) = .agg (arr16 (outF M)) := hd 90 (by decide)
    have e94 : a.eval (.tmp 94) = .agg (arr16 (outF M)) := hd 94 (by decide)
    exact hop_runK (F := (StK.eq (.bool true)).F) (wanted_yes rfl rfl rfl eg) _ (run_eq16 _ _ rfl (outF M) e90 e94) rfl
  · intro a w hb hd
    have e86 : a.eval (.tmp 86) = .bool true := hd 86 (by decide)
    have e95 : a.eval (.tmp 95) = .bool true := hd 95 (by decide)
    exact hop_runK (F := (StK.eq (.bool true)).F) (wanted_none rfl) _ (run_pick_t rfl e86 e95) rfl
  · intro a w hb hd
    have e96 : a.eval (.tmp 96) = .bool true := hd 96 (by decide)
    exact hop_runK (F := (StK.eq (.bool true)).F) (wanted_none rfl) _ (run_mv _ (.inr rfl) e96) rfl
  intro pw6 w6 bw6 hp
  obtain ⟨-, -, -, -, -, -, -, -, -, -, -, -, -, -, -, -, -, -, -, -, -, -, -, -, -, -, -, -, -, -, -, -, -, -, -, -, -, -, -, -, -, -, -, -, -, -, q46, -⟩ := hp
  have e46 : pw6 46 = .bool true := q46 (by decide)
  simp only [List.take_succ_cons, List.take_zero, List.drop_succ_cons, List.drop_zero, layAll, Act.put, List.setIfInBounds_toArray, List.set_cons_zero, List.set_cons_succ, Nat.zero_add, Nat.reduceAdd, e46]
  clear q46 e46
  go_wp2
  go_ret
  exact ⟨rfl, step_trans D5 bw6⟩
end Go.Proofs.Ytajombnckgehbaa
