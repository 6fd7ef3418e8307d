/- sentinellaw3.known. -/
import Derived.Test.YtajombnckgehbaaSRelK
import Derived.Lib.SmallJoins
namespace Go.Proofs.Ytajombnckgehbaa
set_option linter.unusedVariables false
set_option linter.unusedSimpArgs false
open Go.ChangeShapes Go.WideShapes Go.ChangeAt Go.RowKit Go.Shelf

theorem isB_nil (w : World) : IsB w [] (.slice none 0 0) := ⟨none, 0, rfl, Nat.le_refl _, by unfold maxLen; omega, fun _ => rfl, fun h => absurd h (by simp)⟩
theorem rd_mark (zs : List UInt8) (t : TypeId) (fr : Nat × Nat) (w : World) : Rd (w.alloc (.cells (bvs zs) t fr)) (some ⟨w.heap.size, 0, none⟩) zs := fun hp => by
  have h3 := heap_alloc_new w (.cells (bvs zs) t fr)
  refine ⟨_, rfl, heap_lt h3, fun j b hj => ?_⟩
  rw [addr_add, Nat.zero_add]
  simp only [World.cell?, h3]
  simp [bvs, hj]
theorem feed_nil (s : W8) : feed s [] = (s, []) := feed_lt (by simp)
theorem of_nil {F : W8} (hF : sumW (initW []) [] = F) (w : World) : Calls Try.prog 26 #[.slice none 0 0] w fun e w' => ∃ v, e = .returned v ∧ Below w.heap.size w w' ∧ v = .agg (arr16 (outF F)) := by
  refine (of_any none [] 0 0 rfl (Nat.le_refl _) (by unfold maxLen; omega) w (fun h => absurd h (by simp))).mono fun e w' h => ⟨_, h.1, h.2, ?_⟩
  have e : macW [] [] = F := by unfold macW; simp only [cat, feed_nil]; exact hF
  rw [e]
theorem raw_abc {G : W8} (hG : sumW (initW []) [97, 98, 99] = G) {w : World} {v : Value} (h : IsB w [97, 98, 99] v) : Calls Try.prog 23 #[.slice none 0 0, v] w fun e w' => ∃ v, e = .returned v ∧ Below w.heap.size w w' ∧ v = .agg (arr16 (outF G)) := by
  obtain ⟨A, c, rfl, h1, h2, h3, h4⟩ := h
  refine (rraw_any none [] 0 0 rfl (fun _ => rfl) (by omega) A [97, 98, 99] 3 c rfl h3 (by omega) w (fun h => absurd h (by simp)) h4).mono fun e w' h => ⟨_, h.1, h.2, ?_⟩
  rw [hG]
set_option maxHeartbeats 16000000 in
set_option maxRecDepth 100000 in
theorem known_any (w : World) : Calls Try.prog 15 #[] w fun e w' => e = .returned (.bool true) ∧ Below w.heap.size w w' := by
  have kc : ∀ w : World, (convert 29 29 (.slice (some ⟨w.heap.size, 0, none⟩) 3 3)).run Try.prog (w.alloc (.cells #[Value.int .u8 97, .int .u8 98, .int .u8 99] 5)) = .ok (.slice (some ⟨w.heap.size, 0, none⟩) 3 3) (w.alloc (.cells #[Value.int .u8 97, .int .u8 98, .int .u8 99] 5 (3, 4))) :=
    fun w => Lib.run_convert_bytes_const w _ _ _ 3 3 Try.underlying29 Try.underlying5
  go_enter Try.func15, Try.ntmps15
  go_wp2_with fail
  refine (new_any none [] 0 0 rfl (Nat.le_refl _) (by unfold maxLen; omega) (fun _ => rfl) w (fun h => absurd h (by simp))).mono ?_
  rintro e w1 ⟨p, rfl, hp, S1, b1⟩
  go_wp2_with fail
  refine (sum_any p (initW []) [] w1 S1).mono ?_
  rintro e w2 ⟨rfl, b2⟩
  obtain ⟨F, hF⟩ : ∃ F, Hid (sumW (initW []) [] = F) := ⟨_, hid rfl⟩
  rw [hF.out]
  have hp1 := S1.lt
  have S2 := S1.of_block (b2.block p hp1)
  have B2 := step_trans b1 b2
  have z2 := Blk.new w2 35 #[Value.int .u8 0, .int .u8 0, .int .u8 0, .int .u8 0, .int .u8 0, .int .u8 0, .int .u8 0, .int .u8 0, .int .u8 0, .int .u8 0, .int .u8 0, .int .u8 0, .int .u8 0, .int .u8 0, .int .u8 0, .int .u8 0]
  have a2 := step_alloc w2 (.cells #[Value.int .u8 0, .int .u8 0, .int .u8 0, .int .u8 0, .int .u8 0, .int .u8 0, .int .u8 0, .int .u8 0, .int .u8 0, .int .u8 0, .int .u8 0, .int .u8 0, .int .u8 0, .int .u8 0, .int .u8 0, .int .u8 0] 35)
  have S2a := S2.of_block (a2.block p S2.lt)
  have hp2 := S2.lt
  clear S1 b1 b2
  go_wp2_with (refine wpList_store_blk rfl _ (.tmp 2) _ rfl _ rfl _ rfl (arr16_one _) _ z2 rfl size35 ?_; intro w3 g3 c3; have S3 := S2a.of_block (g3.block p (Nat.lt_of_lt_of_le hp2 a2.size) (fun e => by cases e; omega)); have B3 : Below w.heap.size w w3 := below_of_grown (step_trans B2 a2) g3 (Nat.le_trans B2.size a2.size) B2.size)
  have a3 := step_alloc w3 (.cells #[Value.int .u8 97, .int .u8 98, .int .u8 99] 5 (3, 4))
  have r3 : Rd (w3.alloc (.cells #[Value.int .u8 97, .int .u8 98, .int .u8 99] 5 (3, 4))) (some ⟨w3.heap.size, 0, none⟩) [97, 98, 99] := rd_mark [97, 98, 99] _ _ w3
  have hp3 := S3.lt
  refine (write_any p (initW []) [] (some ⟨w3.heap.size, 0, none⟩) [97, 98, 99] 3 3 rfl (Nat.le_refl _) (by unfold maxLen; omega) (fun h => by cases h) _ (S3.of_block (a3.block p hp3)) (Src.of_rd r3 (fun b o e => by cases e; omega))).mono ?_
  rintro e w4 ⟨rfl, g4, S4⟩
  have hf4 : feed (initW []) ([] ++ [97, 98, 99]) = (initW [], [97, 98, 99]) := feed_lt (by simp)
  rw [hf4] at S4
  dsimp only at S4
  have z4 : Blk w4 w2.heap.size 35 (arr16 (outF F)) := (c3.step a3).grown g4 (fun e => by cases e; omega)
  have B4 : Below w.heap.size w w4 := below_of_grown (step_trans B3 a3) g4 (Nat.le_trans B3.size a3.size) hp
  obtain ⟨G, hG⟩ : ∃ G, Hid (sumW (initW []) [97, 98, 99] = G) := ⟨_, hid rfl⟩
  obtain ⟨M, hM⟩ : ∃ M, Hid (mixW zeroW = M) := ⟨_, hid rfl⟩
  clear S2 S2a S3 z2 a2 B2 B3 a3 r3 g3 c3 g4 hf4 kc
  go_upto_region 6 with (fail)
  refine wp_region_stK [StK.eq (.agg (arr16 (outF F))), StK.eq (.agg (arr16 (outF F))), StK.eq (.bool true), StK.eq (.bool true), StK.eq (.pointer (some ⟨p, 0, none⟩)), StK.eq (.agg (arr16 (outF G))), StK.lit w4.heap.size [97, 98, 99], StK.lit w4.heap.size [97, 98, 99], StK.eq (.agg (arr16 (outF G))), StK.eq (.bool true), StK.eq (.bool true), StK.eq (.bool true), StK.lit w4.heap.size [97], StK.lit w4.heap.size [97], StK.lit w4.heap.size [97], StK.lit w4.heap.size [97], StK.eq (.bool true), StK.eq ((.bool true)), StK.eq ((.bool true)), StK.lit w4.heap.size [97], StK.lit w4.heap.size [97], StK.eq (.bool false), StK.eq (.bool true), StK.eq (.bool true), StK.eq (.bool true), StK.eq (.agg (arrW zeroW)), StK.eq (.agg (arrW M)), StK.eq (.agg (arrW zeroW)), StK.eq (.agg (arrW M)), StK.eq (.bool true), StK.eq (.bool true), StK.eq (.bool true), StK.bytes (streamL [] 20), StK.eq (.int .i64 20), StK.eq (.bool true), StK.eq (.bool true), StK.eq (.bool true)] 48 rfl (by kernel_rfl) (by kernel_rfl) ⟨?_, ?_, ?_, ?_, ?_, ?_, ?_, ?_, ?_, ?_, ?_, ?_, ?_, ?_, ?_, ?_, ?_, ?_, ?_, ?_, ?_, ?_, ?_, ?_, ?_, ?_, ?_, ?_, ?_, ?_, ?_, ?_, ?_, ?_, ?_, ?_, ?_, trivial⟩ ?_
  · intro a w hb hd
    exact hop_callK (F := (StK.eq (.agg (arr16 (outF F)))).F) (wanted_none rfl) hb.size rfl #[.slice none 0 0] (by first | (simp only [List.map_toArray, List.map_cons, List.map_nil]; rfl) | simp []) (enters_of Try.func26 (by kernel_rfl) rfl) (of_nil hF.out w)
  · intro a w hb hd
    have e2 : a.eval (.tmp 2) = _ := hd 2 (by decide)
    exact hop_runK (F := (StK.eq (.agg (arr16 (outF F)))).F) (wanted_none rfl) _ (run_ldS _ rfl e2 (z4.step hb)) rfl
  · intro a w hb hd
    have e12 : a.eval (.tmp 12) = (.agg (arr16 (outF F))) := hd 12 (by decide)
    have e13 : a.eval (.tmp 13) = (.agg (arr16 (outF F))) := hd 13 (by decide)
    exact hop_runK (F := (StK.eq (.bool true)).F) (wanted_none rfl) _ (run_eq16 _ _ rfl (outF F) e12 e13) rfl
  · intro a w hb hd
    have e14 : a.eval (.tmp 14) = .bool true := hd 14 (by decide)
    exact hop_runK (F := (StK.eq (.bool true)).F) (wanted_none rfl) _ (run_mv _ (.inl rfl) e14) rfl
  · intro a w hb hd
    have eg : a.eval (.tmp 15) = .bool true := hd 15 (by decide)
    have e1 : a.eval (.tmp 1) = _ := hd 1 (by decide)
    exact hop_runK (F := (StK.eq (.pointer (some ⟨p, 0, none⟩))).F) (wanted_yes rfl rfl rfl eg) _ (run_mv _ (.inl rfl) e1) rfl
  · intro a w hb hd
    have eg : a.eval (.tmp 15) = .bool true := hd 15 (by decide)
    have e16 : a.eval (.tmp 16) = .pointer (some ⟨p, 0, none⟩) := hd 16 (by decide)
    exact hop_callK (F := (StK.eq (.agg (arr16 (outF G)))).F) (wanted_yes rfl rfl rfl eg) hb.size rfl #[.pointer (some ⟨p, 0, none⟩)] (by first | (simp only [List.map_toArray, List.map_cons, List.map_nil, e16]; rfl) | simp [e16]) (enters_of Try.func22 (by kernel_rfl) rfl) ((sum_any p _ _ w (S4.of_block (hb.block p S4.lt))).mono fun e w' h => ⟨_, h.1, h.2, by rw [hG.out]; rfl⟩)
  · intro a w hb hd
    have eg : a.eval (.tmp 15) = .bool true := hd 15 (by decide)
    exact hop_lit (wanted_yes rfl rfl rfl eg) hb.size [97, 98, 99] (by decide) (by decide) _ rfl (by simp only [List.map_toArray, List.map_cons, List.map_nil]; kernel_rfl)
  · intro a w hb hd
    have eg : a.eval (.tmp 15) = .bool true := hd 15 (by decide)
    have e18 : LitB w4.heap.size w [97, 98, 99] (a.eval (.tmp 18)) := hd 18 (by decide)
    exact hop_convK (wanted_yes rfl rfl rfl eg) _ rfl e18
  · intro a w hb hd
    have eg : a.eval (.tmp 15) = .bool true := hd 15 (by decide)
    have e19 : IsB w [97, 98, 99] (a.eval (.tmp 19)) := LitB.isB (hd 19 (by decide) : LitB w4.heap.size w [97, 98, 99] (a.eval (.tmp 19)))
    have HG := hG.out
    exact hop_callK (F := (StK.eq (.agg (arr16 (outF G)))).F) (wanted_yes rfl rfl rfl eg) hb.size rfl #[.slice none 0 0, a.eval (.tmp 19)] (by first | (simp only [List.map_toArray, List.map_cons, List.map_nil]; done) | (simp only [List.map_toArray, List.map_cons, List.map_nil]; rfl)) (enters_of Try.func23 (by kernel_rfl) rfl) (raw_abc HG e19)
  · intro a w hb hd
    have eg : a.eval (.tmp 15) = .bool true := hd 15 (by decide)
    have e17 : a.eval (.tmp 17) = (.agg (arr16 (outF G))) := hd 17 (by decide)
    have e20 : a.eval (.tmp 20) = (.agg (arr16 (outF G))) := hd 20 (by decide)
    exact hop_runK (F := (StK.eq (.bool true)).F) (wanted_yes rfl rfl rfl eg) _ (run_eq16 _ _ rfl (outF G) e17 e20) rfl
  · intro a w hb hd
    have e15 : a.eval (.tmp 15) = .bool true := hd 15 (by decide)
    have e21 : a.eval (.tmp 21) = .bool true := hd 21 (by decide)
    exact hop_runK (F := (StK.eq (.bool true)).F) (wanted_none rfl) _ (run_pick_t rfl e15 e21) rfl
  · intro a w hb hd
    have e22 : a.eval (.tmp 22) = .bool true := hd 22 (by decide)
    exact hop_runK (F := (StK.eq (.bool true)).F) (wanted_none rfl) _ (run_mv _ (.inl rfl) e22) rfl
  · intro a w hb hd
    have eg : a.eval (.tmp 23) = .bool true := hd 23 (by decide)
    exact hop_lit (wanted_yes rfl rfl rfl eg) hb.size [97] (by decide) (by decide) _ rfl (by simp only [List.map_toArray, List.map_cons, List.map_nil]; kernel_rfl)
  · intro a w hb hd
    have eg : a.eval (.tmp 23) = .bool true := hd 23 (by decide)
    have e24 : LitB w4.heap.size w [97] (a.eval (.tmp 24)) := hd 24 (by decide)
    exact hop_convK (wanted_yes rfl rfl rfl eg) _ rfl e24
  · intro a w hb hd
    have eg : a.eval (.tmp 23) = .bool true := hd 23 (by decide)
    exact hop_lit (wanted_yes rfl rfl rfl eg) hb.size [97] (by decide) (by decide) _ rfl (by simp only [List.map_toArray, List.map_cons, List.map_nil]; kernel_rfl)
  · intro a w hb hd
    have eg : a.eval (.tmp 23) = .bool true := hd 23 (by decide)
    have e26 : LitB w4.heap.size w [97] (a.eval (.tmp 26)) := hd 26 (by decide)
    exact hop_convK (wanted_yes rfl rfl rfl eg) _ rfl e26
  · intro a w hb hd
    have eg : a.eval (.tmp 23) = .bool true := hd 23 (by decide)
    have e25 : IsB w [97] (a.eval (.tmp 25)) := LitB.isB (hd 25 (by decide) : LitB w4.heap.size w [97] (a.eval (.tmp 25)))
    have e27 : IsB w [97] (a.eval (.tmp 27)) := LitB.isB (hd 27 (by decide) : LitB w4.heap.size w [97] (a.eval (.tmp 27)))
    exact hop_callK (F := (StK.eq (.bool true)).F) (wanted_yes rfl rfl rfl eg) hb.size rfl #[a.eval (.tmp 25), a.eval (.tmp 27)] (by first | (simp only [List.map_toArray, List.map_cons, List.map_nil]; done) | (simp only [List.map_toArray, List.map_cons, List.map_nil]; rfl)) (enters_of Try.func32 (by kernel_rfl) rfl) ((same_bytes e25 e27).mono fun e w' h => ⟨_, h.1, h.2, rfl⟩)
  · intro a w hb hd
    have e23 : a.eval (.tmp 23) = .bool true := hd 23 (by decide)
    have e28 : a.eval (.tmp 28) = (.bool true) := hd 28 (by decide)
    exact hop_runK (F := (StK.eq ((.bool true))).F) (wanted_none rfl) _ (run_pick_t rfl e23 e28) rfl
  · intro a w hb hd
    have e29 : a.eval (.tmp 29) = (.bool true) := hd 29 (by decide)
    exact hop_runK (F := (StK.eq ((.bool true))).F) (wanted_none rfl) _ (run_mv _ (.inl rfl) e29) rfl
  · intro a w hb hd
    have eg : a.eval (.tmp 30) = .bool true := hd 30 (by decide)
    exact hop_lit (wanted_yes rfl rfl rfl eg) hb.size [97] (by decide) (by decide) _ rfl (by simp only [List.map_toArray, List.map_cons, List.map_nil]; kernel_rfl)
  · intro a w hb hd
    have eg : a.eval (.tmp 30) = .bool true := hd 30 (by decide)
    have e31 : LitB w4.heap.size w [97] (a.eval (.tmp 31)) := hd 31 (by decide)
    exact hop_convK (wanted_yes rfl rfl rfl eg) _ rfl e31
  · intro a w hb hd
    have eg : a.eval (.tmp 30) = .bool true := hd 30 (by decide)
    have e32 : IsB w [97] (a.eval (.tmp 32)) := LitB.isB (hd 32 (by decide) : LitB w4.heap.size w [97] (a.eval (.tmp 32)))
    exact hop_callK (F := (StK.eq (.bool false)).F) (wanted_yes rfl rfl rfl eg) hb.size rfl #[a.eval (.tmp 32), .slice none 0 0] (by first | (simp only [List.map_toArray, List.map_cons, List.map_nil]; done) | (simp only [List.map_toArray, List.map_cons, List.map_nil]; rfl)) (enters_of Try.func32 (by kernel_rfl) rfl) ((same_bytes e32 (isB_nil w)).mono fun e w' h => ⟨_, h.1, h.2, rfl⟩)
  · intro a w hb hd
    have eg : a.eval (.tmp 30) = .bool true := hd 30 (by decide)
    have e33 : a.eval (.tmp 33) = (.bool false) := hd 33 (by decide)
    exact hop_runK (F := (StK.eq (.bool true)).F) (wanted_yes rfl rfl rfl eg) _ (run_not _ _ rfl e33) rfl
  · intro a w hb hd
    have e30 : a.eval (.tmp 30) = (.bool true) := hd 30 (by decide)
    have e34 : a.eval (.tmp 34) = .bool true := hd 34 (by decide)
    exact hop_runK (F := (StK.eq (.bool true)).F) (wanted_none rfl) _ (run_pick_t rfl e30 e34) rfl
  · intro a w hb hd
    have e35 : a.eval (.tmp 35) = .bool true := hd 35 (by decide)
    exact hop_runK (F := (StK.eq (.bool true)).F) (wanted_none rfl) _ (run_mv _ (.inl rfl) e35) rfl
  · intro a w hb hd
    have eg : a.eval (.tmp 36) = .bool true := hd 36 (by decide)
    exact hop_runK (F := (StK.eq (.agg (arrW zeroW))).F) (wanted_yes rfl rfl rfl eg) _ (by unfold execOp; kernel_rfl) rfl
  · intro a w hb hd
    have eg : a.eval (.tmp 36) = .bool true := hd 36 (by decide)
    have e37 : a.eval (.tmp 37) = (.agg (arrW zeroW)) := hd 37 (by decide)
    exact hop_callK (F := (StK.eq (.agg (arrW M))).F) (wanted_yes rfl rfl rfl eg) hb.size rfl #[.agg (arrW zeroW)] (by first | (simp only [List.map_toArray, List.map_cons, List.map_nil, e37]; rfl) | simp [e37]) (enters_of Try.func16 (by kernel_rfl) rfl) ((mix_any zeroW zeroW_ok w).mono fun e w' h => ⟨_, h.1, h.2, by rw [hM.out]; rfl⟩)
  · intro a w hb hd
    have eg : a.eval (.tmp 36) = .bool true := hd 36 (by decide)
    exact hop_runK (F := (StK.eq (.agg (arrW zeroW))).F) (wanted_yes rfl rfl rfl eg) _ (by unfold execOp; kernel_rfl) rfl
  · intro a w hb hd
    have eg : a.eval (.tmp 36) = .bool true := hd 36 (by decide)
    have e39 : a.eval (.tmp 39) = (.agg (arrW zeroW)) := hd 39 (by decide)
    exact hop_callK (F := (StK.eq (.agg (arrW M))).F) (wanted_yes rfl rfl rfl eg) hb.size rfl #[.agg (arrW zeroW)] (by first | (simp only [List.map_toArray, List.map_cons, List.map_nil, e39]; rfl) | simp [e39]) (enters_of Try.func17 (by kernel_rfl) rfl) ((rmix_any zeroW zeroW_ok w).mono fun e w' h => ⟨_, h.1, h.2, by rw [hM.out]; rfl⟩)
  · intro a w hb hd
    have eg : a.eval (.tmp 36) = .bool true := hd 36 (by decide)
    have e38 : a.eval (.tmp 38) = (.agg (arrW M)) := hd 38 (by decide)
    have e40 : a.eval (.tmp 40) = (.agg (arrW M)) := hd 40 (by decide)
    exact hop_runK (F := (StK.eq (.bool true)).F) (wanted_yes rfl rfl rfl eg) _ (run_eqW _ _ rfl M e38 e40) rfl
  · intro a w hb hd
    have e36 : a.eval (.tmp 36) = .bool true := hd 36 (by decide)
    have e41 : a.eval (.tmp 41) = .bool true := hd 41 (by decide)
    exact hop_runK (F := (StK.eq (.bool true)).F) (wanted_none rfl) _ (run_pick_t rfl e36 e41) rfl
  · intro a w hb hd
    have e42 : a.eval (.tmp 42) = .bool true := hd 42 (by decide)
    exact hop_runK (F := (StK.eq (.bool true)).F) (wanted_none rfl) _ (run_mv _ (.inl rfl) e42) rfl
  · intro a w hb hd
    have eg : a.eval (.tmp 43) = .bool true := hd 43 (by decide)
    exact hop_callK (F := (StK.bytes (streamL [] 20)).F) (wanted_yes rfl rfl rfl eg) hb.size rfl #[.slice none 0 0, .int .i64 20] (by first | (simp only [List.map_toArray, List.map_cons, List.map_nil]; rfl) | simp []) (enters_of Try.func28 (by kernel_rfl) rfl) ((stream_any none [] 0 0 rfl (by omega) (by unfold maxLen; omega) (fun _ => rfl) 20 (by omega) w (fun h => absurd h (by simp))).mono fun e w' ⟨v, h1, h2, h3⟩ => ⟨v, h1, h3, h2⟩)
  · intro a w hb hd
    have eg : a.eval (.tmp 43) = .bool true := hd 43 (by decide)
    have e44 : IsB w (streamL [] 20) (a.eval (.tmp 44)) := hd 44 (by decide)
    exact hop_runK (F := (StK.eq (.int .i64 20)).F) (wanted_yes rfl rfl rfl eg) _ (run_lenZ _ rfl e44 (by rw [streamL_len]; rfl)) rfl
  · intro a w hb hd
    have eg : a.eval (.tmp 43) = .bool true := hd 43 (by decide)
    have e45 : a.eval (.tmp 45) = .int .i64 20 := hd 45 (by decide)
    exact hop_runK (F := (StK.eq (.bool true)).F) (wanted_yes rfl rfl rfl eg) _ (by unfold execOp; simp only [e45]; kernel_rfl) rfl
  · intro a w hb hd
    have e43 : a.eval (.tmp 43) = .bool true := hd 43 (by decide)
    have e46 : a.eval (.tmp 46) = .bool true := hd 46 (by decide)
    exact hop_runK (F := (StK.eq (.bool true)).F) (wanted_none rfl) _ (run_pick_t rfl e43 e46) rfl
  · intro a w hb hd
    have e47 : a.eval (.tmp 47) = .bool true := hd 47 (by decide)
    exact hop_runK (F := (StK.eq (.bool true)).F) (wanted_none rfl) _ (run_mv _ (.inr rfl) e47) rfl
  intro pwz wz bwz hp
  obtain ⟨-, -, -, -, -, -, -, -, -, -, -, -, -, -, -, -, -, -, -, -, -, -, -, -, -, -, -, -, -, -, -, -, -, -, -, -, q36, -⟩ := hp
  have e36 : pwz 36 = .bool true := q36 (by decide)
  simp only [layAll, Act.put, List.setIfInBounds_toArray, List.set_cons_zero, List.set_cons_succ, Nat.zero_add, Nat.reduceAdd, e36]
  clear q36 e36
  go_wp2
  go_ret
  exact ⟨rfl, B4.trans (bwz.mono B4.size)⟩
end Go.Proofs.Ytajombnckgehbaa
