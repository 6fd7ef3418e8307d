/- sentinellaw9.GuardLives: the walk. -/
import Derived.Test.YtffoekgopooeaaaGdEq
namespace Go.Proofs.Ytffoekgopooeaaa
set_option linter.unusedVariables false
set_option linter.unusedSimpArgs false
open Go.ChangeShapes Go.WideShapes Go.ChangeAt Go.RowKit Go.Shelf
theorem live_eq {s s2 : ByteArray} {id ch en er p n a rev channel now era : Int} {b : Bool} (h : liveB s s2 id ch en er rev channel now era = b) (w : World) :
    Calls Try.prog 31 #[.agg (tokA4 s id ch en er), .agg (recA p s2 n a rev), .int .i64 channel, .int .i64 now, .int .i64 era] w fun e w' => e = .returned (.bool b) ∧ Below w.heap.size w w' := by
  subst h; exact live_any s s2 id ch en er p n a rev channel now era w
theorem rlive_eq {s s2 : ByteArray} {id ch en er p n a rev channel now era : Int} {b : Bool} (h : liveB s s2 id ch en er rev channel now era = b) (w : World) :
    Calls Try.prog 33 #[.agg (tokA4 s id ch en er), .agg (recA p s2 n a rev), .int .i64 channel, .int .i64 now, .int .i64 era] w fun e w' => e = .returned (.bool b) ∧ Below w.heap.size w w' := by
  subst h; exact rlive_any s s2 id ch en er p n a rev channel now era w
set_option maxRecDepth 100000 in
set_option maxHeartbeats 16000000 in
theorem GuardLives_walk (a0 : Int) (hk0 : -9223372036854775808 ≤ a0) (hl0 : a0 < 9223372036854775808)
    (a1 : ByteArray) (hS1 : a1.size ≤ maxLen)
    (a2 : ByteArray) (hS2 : a2.size ≤ maxLen)
    (a3 : Int) (hk3 : -9223372036854775808 ≤ a3) (hl3 : a3 < 9223372036854775808)
    (a4 : Int) (hk4 : -9223372036854775808 ≤ a4) (hl4 : a4 < 9223372036854775808)
    (a5 : Int) (hk5 : -9223372036854775808 ≤ a5) (hl5 : a5 < 9223372036854775808)
    (a6 : Int) (hk6 : -9223372036854775808 ≤ a6) (hl6 : a6 < 9223372036854775808) (w : World)  :
    Calls Try.prog 8 #[.int .i64 a0, .string a1, .string a2, .int .i64 a3, .int .i64 a4, .int .i64 a5, .int .i64 a6] w fun e w' => e = .returned (.bool true) ∧ Below w.heap.size w w' := by
  go_enter Try.func8, Try.ntmps8
  go_wp2_with fail
  refine (known_any _).mono ?_
  rintro e w1 ⟨rfl, b1⟩
  by_cases g1 : 40 < a1.size
  · go_wp2
    go_ret
    exact ⟨rfl, b1⟩
  by_cases g2 : 40 < a2.size
  · go_wp2
    go_ret
    exact ⟨rfl, b1⟩
  go_wp2_with fail
  obtain ⟨nm, N0, N1, N2, N3, -, NMO, -, nb, HT⟩ := token_pack a0 hk0 hl0 a1 (by omega)
  have nmo := hid NMO
  have ns : Hid (nm.size ≤ 255) := hid (by have := NMO.2.1; omega)
  have m0 : Hid ((N0 : Int) < 9223372036854775808) := hid (by omega)
  have m1 : Hid ((N1 : Int) < 9223372036854775808) := hid (by omega)
  have m2 : Hid ((N2 : Int) < 9223372036854775808) := hid (by omega)
  have m3 : Hid ((N3 : Int) < 9223372036854775808) := hid (by omega)
  have NB := hid nb
  clear NMO nb
  refine (HT.out _).mono ?_
  rintro e w2 ⟨rfl, b2⟩
  have B2 := step_trans b1 b2
  have z2 := Blk.new w2 41 (tokA4 ⟨#[]⟩ 0 0 0 0)
  obtain ⟨E, hE⟩ : ∃ E : Int, Hid ((N2 : Int) - 1 = E) := ⟨_, hid rfl⟩
  obtain ⟨X, hX⟩ : ∃ X : Int, Hid ((if (N2 : Int) < a4 then a4 else (N2 : Int)) = X) := ⟨_, hid rfl⟩
  obtain ⟨V, hV⟩ : ∃ V : Int, Hid (a6 % 1125899906842624 = V) := ⟨_, hid rfl⟩
  obtain ⟨Mn, hMn⟩ : ∃ V : Int, Hid (a4 % 6000 = V) := ⟨_, hid rfl⟩
  obtain ⟨no, hno⟩ : ∃ V : ByteArray, Hid (nameS a2 = V) := ⟨_, hid rfl⟩
  have EB : Hid (-9223372036854775808 ≤ E ∧ E < 9223372036854775808) := hid (by have := hE.out; have := m2.out; omega)
  have L1 : Hid (liveB nm nm N0 N1 N2 N3 N0 N1 E N3 = true) := hid (by have := hE.out; simp [liveB]; omega)
  have L2 : Hid (liveB nm nm N0 N1 N2 N3 N0 N1 N2 N3 = false) := hid (by simp [liveB])
  have L3 : Hid (liveB nm nm N0 N1 N2 N3 N0 N1 X N3 = false) := hid (by have := hX.out; simp only [liveB]; have : ¬ X < (N2 : Int) := (by split at this <;> omega); simp [this])
  obtain ⟨G1, hG1⟩ : ∃ b, Hid (decide (V ≤ (N0 : Int)) = b) := ⟨_, hid rfl⟩
  obtain ⟨G2, hG2⟩ : ∃ b, Hid (decide (Mn < (N2 : Int)) = b) := ⟨_, hid rfl⟩
  have L4 : Hid (liveB nm nm N0 N1 N2 N3 V N1 Mn N3 = (G2 && G1)) := hid (by rw [← hG1.out, ← hG2.out]; simp [liveB])
  obtain ⟨L5, hL5⟩ : ∃ b, Hid (liveB nm no N0 N1 N2 N3 V a3 Mn a5 = b) := ⟨_, hid rfl⟩
  obtain ⟨C1, hC1⟩ : ∃ b, Hid ((a3 == (N1 : Int)) = b) := ⟨_, hid rfl⟩
  obtain ⟨C2, hC2⟩ : ∃ b, Hid ((a5 == (N3 : Int)) = b) := ⟨_, hid rfl⟩
  have L6 : Hid (liveB nm nm N0 N1 N2 N3 N0 a3 E N3 = C1) := hid (by
    have := hE.out; have h : E < (N2 : Int) := by omega
    rw [← hC1.out]; simp [liveB, h]; exact Bool.eq_iff_iff.2 (by simp; exact eq_comm))
  have L7 : Hid (liveB nm nm N0 N1 N2 N3 N0 N1 E a5 = C2) := hid (by
    have := hE.out; have h : E < (N2 : Int) := by omega
    rw [← hC2.out]; simp [liveB, h]; exact Bool.eq_iff_iff.2 (by simp; exact eq_comm))
  clear b1 b2 HT
  go_upto_region 6 with (refine wpList_store_blk rfl _ (.tmp 15) _ rfl _ rfl _ rfl (by simp [tokA4, Value.oneCell']) _ z2 rfl size_tok ?_; intro w3 g3 c3)
  have B3 := step_trans B2 (step_new g3)
  have k0 := c3.cell (k := 0) (v := .string nm) rfl
  have k1 := c3.cell (k := 1) (v := .int .i64 (N0 : Int)) rfl
  have z3 := Blk.new w3 28 #[.int .i64 0, .string ⟨#[]⟩, .slice none 0 0, .int .u32 0, .int .u32 0, .int .u32 0, .int .u32 0, .int .u32 0, .int .u32 0, .int .u32 0, .int .u32 0, .int .u32 0, .int .u32 0, .int .u32 0, .int .u32 0, .int .u32 0, .int .u32 0, .int .u32 0, .int .u32 0, .slice none 0 0, .int .i64 0, .int .i64 0, .int .i64 0]
  go_upto_region 7 with (refine wpList_store_blk rfl _ (.tmp 16) _ rfl _ rfl _ rfl (by simp [recA, Value.oneCell']) _ z3 rfl size_rec ?_; intro w4 g4 d4)
  have B4 := step_trans B3 (step_new g4)
  have c4 := c3.step (step_new g4)
  obtain ⟨g, hg⟩ : ∃ g, g = w2.heap.size := ⟨_, rfl⟩
  rw [← hg] at c4 ⊢
  obtain ⟨p, hp⟩ : ∃ p, p = w3.heap.size := ⟨_, rfl⟩
  rw [← hp] at d4 ⊢
  clear k0 k1 z2 z3 g3 g4 c3 B2 B3 hg hp
  refine wp_region_stU ((StK.eq (.agg #[.string nm, .int .i64 (N0 : Int), .int .i64 (N1 : Int), .int .i64 (N2 : Int), .int .i64 (N3 : Int)])) :: (StK.eq (.agg #[.int .i64 0, .string nm, .slice none 0 0, .int .u32 0, .int .u32 0, .int .u32 0, .int .u32 0, .int .u32 0, .int .u32 0, .int .u32 0, .int .u32 0, .int .u32 0, .int .u32 0, .int .u32 0, .int .u32 0, .int .u32 0, .int .u32 0, .int .u32 0, .int .u32 0, .slice none 0 0, .int .i64 0, .int .i64 0, .int .i64 (N0 : Int)])) :: (StK.eq (.pointer (some ⟨g, 2, none⟩))) :: (StK.eq (.int .i64 (N1 : Int))) :: (StK.eq (.pointer (some ⟨g, 3, none⟩))) :: (StK.eq (.int .i64 (N2 : Int))) :: (StK.eq (.int .i64 E)) :: (StK.eq (.pointer (some ⟨g, 4, none⟩))) :: (StK.eq (.int .i64 (N3 : Int))) :: (StK.eq (.bool true)) :: (StK.eq (.bool false)) :: (StK.eq (.bool false)) :: (StK.eq (.agg #[.string nm, .int .i64 (N0 : Int), .int .i64 (N1 : Int), .int .i64 (N2 : Int), .int .i64 (N3 : Int)])) :: (StK.eq (.agg #[.int .i64 0, .string nm, .slice none 0 0, .int .u32 0, .int .u32 0, .int .u32 0, .int .u32 0, .int .u32 0, .int .u32 0, .int .u32 0, .int .u32 0, .int .u32 0, .int .u32 0, .int .u32 0, .int .u32 0, .int .u32 0, .int .u32 0, .int .u32 0, .int .u32 0, .slice none 0 0, .int .i64 0, .int .i64 0, .int .i64 (N0 : Int)])) :: (StK.eq (.pointer (some ⟨g, 2, none⟩))) :: (StK.eq (.int .i64 (N1 : Int))) :: (StK.eq (.pointer (some ⟨g, 3, none⟩))) :: (StK.eq (.int .i64 (N2 : Int))) :: (StK.eq (.pointer (some ⟨g, 4, none⟩))) :: (StK.eq (.int .i64 (N3 : Int))) :: (StK.eq (.bool false)) :: (StK.eq (.bool false)) :: (StK.eq (.bool false)) :: (StK.eq (.agg #[.string nm, .int .i64 (N0 : Int), .int .i64 (N1 : Int), .int .i64 (N2 : Int), .int .i64 (N3 : Int)])) :: (StK.eq (.agg #[.int .i64 0, .string nm, .slice none 0 0, .int .u32 0, .int .u32 0, .int .u32 0, .int .u32 0, .int .u32 0, .int .u32 0, .int .u32 0, .int .u32 0, .int .u32 0, .int .u32 0, .int .u32 0, .int .u32 0, .int .u32 0, .int .u32 0, .int .u32 0, .int .u32 0, .slice none 0 0, .int .i64 0, .int .i64 0, .int .i64 (N0 : Int)])) :: (StK.eq (.pointer (some ⟨g, 2, none⟩))) :: (StK.eq (.int .i64 (N1 : Int))) :: (StK.eq (.pointer (some ⟨g, 3, none⟩))) :: (StK.eq (.int .i64 (N2 : Int))) :: (StK.eq (.int .i64 a4)) :: (StK.eq (.int .i64 X)) :: (StK.eq (.pointer (some ⟨g, 4, none⟩))) :: (StK.eq (.int .i64 (N3 : Int))) :: (StK.eq (.bool false)) :: (StK.eq (.bool false)) :: []) 35 146 rfl (by kernel_rfl) (by decide) ⟨?_, ?_, ?_, ?_, ?_, ?_, ?_, ?_, ?_, ?_, ?_, ?_, ?_, ?_, ?_, ?_, ?_, ?_, ?_, ?_, ?_, ?_, ?_, ?_, ?_, ?_, ?_, ?_, ?_, ?_, ?_, ?_, ?_, ?_, ?_, trivial⟩ ?_
  · intro a w hb hd
    have e15 : a.eval (.tmp 15) = .pointer (some ⟨g, 0, none⟩) := hd 15 (by decide)
    exact hop_runK (F := (StK.eq (.agg #[.string nm, .int .i64 (N0 : Int), .int .i64 (N1 : Int), .int .i64 (N2 : Int), .int .i64 (N3 : Int)])).F) (wanted_none rfl) _ (run_ldAll _ _ rfl e15 (c4.step hb) Try.underlying41 rfl (by kernel_rfl)) rfl
  · intro a w hb hd
    have e16 : a.eval (.tmp 16) = .pointer (some ⟨p, 0, none⟩) := hd 16 (by decide)
    exact hop_runK (F := (StK.eq (.agg #[.int .i64 0, .string nm, .slice none 0 0, .int .u32 0, .int .u32 0, .int .u32 0, .int .u32 0, .int .u32 0, .int .u32 0, .int .u32 0, .int .u32 0, .int .u32 0, .int .u32 0, .int .u32 0, .int .u32 0, .int .u32 0, .int .u32 0, .int .u32 0, .int .u32 0, .slice none 0 0, .int .i64 0, .int .i64 0, .int .i64 (N0 : Int)])).F) (wanted_none rfl) _ (run_ldAll _ _ rfl e16 (d4.step hb) Try.underlying28 rfl (by kernel_rfl)) rfl
  · intro a w hb hd
    have e15 : a.eval (.tmp 15) = .pointer (some ⟨g, 0, none⟩) := hd 15 (by decide)
    exact hop_runK (F := (StK.eq (.pointer (some ⟨g, 2, none⟩))).F) (wanted_none rfl) _ (by unfold execOp; simp only [e15]; kernel_rfl) rfl
  · intro a w hb hd
    have e39 : a.eval (.tmp 39) = .pointer (some ⟨g, 2, none⟩) := hd 39 (by decide)
    exact hop_runK (F := (StK.eq (.int .i64 (N1 : Int))).F) (wanted_none rfl) _ (run_ldCell _ _ rfl e39 Try.underlying3 rfl ((c4.step hb).cell (k := 2) rfl)) rfl
  · intro a w hb hd
    have e15 : a.eval (.tmp 15) = .pointer (some ⟨g, 0, none⟩) := hd 15 (by decide)
    exact hop_runK (F := (StK.eq (.pointer (some ⟨g, 3, none⟩))).F) (wanted_none rfl) _ (by unfold execOp; simp only [e15]; kernel_rfl) rfl
  · intro a w hb hd
    have e41 : a.eval (.tmp 41) = .pointer (some ⟨g, 3, none⟩) := hd 41 (by decide)
    exact hop_runK (F := (StK.eq (.int .i64 (N2 : Int))).F) (wanted_none rfl) _ (run_ldCell _ _ rfl e41 Try.underlying3 rfl ((c4.step hb).cell (k := 3) rfl)) rfl
  · intro a w hb hd
    have e42 : a.eval (.tmp 42) = .int .i64 (N2 : Int) := hd 42 (by decide)
    exact hop_runK (F := (StK.eq (.int .i64 E)).F) (wanted_none rfl) _ (run_subI _ _ rfl e42 rfl hE.out EB.out.1 EB.out.2) rfl
  · intro a w hb hd
    have e15 : a.eval (.tmp 15) = .pointer (some ⟨g, 0, none⟩) := hd 15 (by decide)
    exact hop_runK (F := (StK.eq (.pointer (some ⟨g, 4, none⟩))).F) (wanted_none rfl) _ (by unfold execOp; simp only [e15]; kernel_rfl) rfl
  · intro a w hb hd
    have e44 : a.eval (.tmp 44) = .pointer (some ⟨g, 4, none⟩) := hd 44 (by decide)
    exact hop_runK (F := (StK.eq (.int .i64 (N3 : Int))).F) (wanted_none rfl) _ (run_ldCell _ _ rfl e44 Try.underlying3 rfl ((c4.step hb).cell (k := 4) rfl)) rfl
  · intro a w hb hd
    have e37 : a.eval (.tmp 37) = .agg #[.string nm, .int .i64 (N0 : Int), .int .i64 (N1 : Int), .int .i64 (N2 : Int), .int .i64 (N3 : Int)] := hd 37 (by decide)
    have e38 : a.eval (.tmp 38) = .agg #[.int .i64 0, .string nm, .slice none 0 0, .int .u32 0, .int .u32 0, .int .u32 0, .int .u32 0, .int .u32 0, .int .u32 0, .int .u32 0, .int .u32 0, .int .u32 0, .int .u32 0, .int .u32 0, .int .u32 0, .int .u32 0, .int .u32 0, .int .u32 0, .int .u32 0, .slice none 0 0, .int .i64 0, .int .i64 0, .int .i64 (N0 : Int)] := hd 38 (by decide)
    have e40 : a.eval (.tmp 40) = .int .i64 (N1 : Int) := hd 40 (by decide)
    have e43 : a.eval (.tmp 43) = .int .i64 E := hd 43 (by decide)
    have e45 : a.eval (.tmp 45) = .int .i64 (N3 : Int) := hd 45 (by decide)
    exact hop_callK (F := (StK.eq (.bool true)).F) (wanted_none rfl) hb.size rfl #[a.eval (.tmp 37), a.eval (.tmp 38), a.eval (.tmp 40), a.eval (.tmp 43), a.eval (.tmp 45)] (by first | (simp only [List.map_toArray, List.map_cons, List.map_nil]; done) | (simp only [List.map_toArray, List.map_cons, List.map_nil]; rfl)) (enters_of Try.func31 (by kernel_rfl) rfl) (by rw [e37]; rw [e38]; rw [e40]; rw [e43]; rw [e45]; exact call_eq (live_eq L1.out w))
  · intro a w hb hd
    have e46 : a.eval (.tmp 46) = .bool true := hd 46 (by decide)
    exact hop_runK (F := (StK.eq (.bool false)).F) (wanted_none rfl) _ (run_not _ _ rfl e46) rfl
  · intro a w hb hd
    have e47 : a.eval (.tmp 47) = .bool false := hd 47 (by decide)
    exact hop_runK (F := (StK.eq (.bool false)).F) (wanted_none rfl) _ (run_mv _ (.inl rfl) e47) rfl
  · intro a w hb hd
    have eg : a.eval (.tmp 48) = .bool false := hd 48 (by decide)
    have e15 : a.eval (.tmp 15) = .pointer (some ⟨g, 0, none⟩) := hd 15 (by decide)
    exact hop_runK (F := (StK.eq (.agg #[.string nm, .int .i64 (N0 : Int), .int .i64 (N1 : Int), .int .i64 (N2 : Int), .int .i64 (N3 : Int)])).F) (wanted_yes rfl rfl rfl eg) _ (run_ldAll _ _ rfl e15 (c4.step hb) Try.underlying41 rfl (by kernel_rfl)) rfl
  · intro a w hb hd
    have eg : a.eval (.tmp 48) = .bool false := hd 48 (by decide)
    have e16 : a.eval (.tmp 16) = .pointer (some ⟨p, 0, none⟩) := hd 16 (by decide)
    exact hop_runK (F := (StK.eq (.agg #[.int .i64 0, .string nm, .slice none 0 0, .int .u32 0, .int .u32 0, .int .u32 0, .int .u32 0, .int .u32 0, .int .u32 0, .int .u32 0, .int .u32 0, .int .u32 0, .int .u32 0, .int .u32 0, .int .u32 0, .int .u32 0, .int .u32 0, .int .u32 0, .int .u32 0, .slice none 0 0, .int .i64 0, .int .i64 0, .int .i64 (N0 : Int)])).F) (wanted_yes rfl rfl rfl eg) _ (run_ldAll _ _ rfl e16 (d4.step hb) Try.underlying28 rfl (by kernel_rfl)) rfl
  · intro a w hb hd
    have eg : a.eval (.tmp 48) = .bool false := hd 48 (by decide)
    have e15 : a.eval (.tmp 15) = .pointer (some ⟨g, 0, none⟩) := hd 15 (by decide)
    exact hop_runK (F := (StK.eq (.pointer (some ⟨g, 2, none⟩))).F) (wanted_yes rfl rfl rfl eg) _ (by unfold execOp; simp only [e15]; kernel_rfl) rfl
  · intro a w hb hd
    have eg : a.eval (.tmp 48) = .bool false := hd 48 (by decide)
    have e51 : a.eval (.tmp 51) = .pointer (some ⟨g, 2, none⟩) := hd 51 (by decide)
    exact hop_runK (F := (StK.eq (.int .i64 (N1 : Int))).F) (wanted_yes rfl rfl rfl eg) _ (run_ldCell _ _ rfl e51 Try.underlying3 rfl ((c4.step hb).cell (k := 2) rfl)) rfl
  · intro a w hb hd
    have eg : a.eval (.tmp 48) = .bool false := hd 48 (by decide)
    have e15 : a.eval (.tmp 15) = .pointer (some ⟨g, 0, none⟩) := hd 15 (by decide)
    exact hop_runK (F := (StK.eq (.pointer (some ⟨g, 3, none⟩))).F) (wanted_yes rfl rfl rfl eg) _ (by unfold execOp; simp only [e15]; kernel_rfl) rfl
  · intro a w hb hd
    have eg : a.eval (.tmp 48) = .bool false := hd 48 (by decide)
    have e53 : a.eval (.tmp 53) = .pointer (some ⟨g, 3, none⟩) := hd 53 (by decide)
    exact hop_runK (F := (StK.eq (.int .i64 (N2 : Int))).F) (wanted_yes rfl rfl rfl eg) _ (run_ldCell _ _ rfl e53 Try.underlying3 rfl ((c4.step hb).cell (k := 3) rfl)) rfl
  · intro a w hb hd
    have eg : a.eval (.tmp 48) = .bool false := hd 48 (by decide)
    have e15 : a.eval (.tmp 15) = .pointer (some ⟨g, 0, none⟩) := hd 15 (by decide)
    exact hop_runK (F := (StK.eq (.pointer (some ⟨g, 4, none⟩))).F) (wanted_yes rfl rfl rfl eg) _ (by unfold execOp; simp only [e15]; kernel_rfl) rfl
  · intro a w hb hd
    have eg : a.eval (.tmp 48) = .bool false := hd 48 (by decide)
    have e55 : a.eval (.tmp 55) = .pointer (some ⟨g, 4, none⟩) := hd 55 (by decide)
    exact hop_runK (F := (StK.eq (.int .i64 (N3 : Int))).F) (wanted_yes rfl rfl rfl eg) _ (run_ldCell _ _ rfl e55 Try.underlying3 rfl ((c4.step hb).cell (k := 4) rfl)) rfl
  · intro a w hb hd
    have eg : a.eval (.tmp 48) = .bool false := hd 48 (by decide)
    have e49 : a.eval (.tmp 49) = .agg #[.string nm, .int .i64 (N0 : Int), .int .i64 (N1 : Int), .int .i64 (N2 : Int), .int .i64 (N3 : Int)] := hd 49 (by decide)
    have e50 : a.eval (.tmp 50) = .agg #[.int .i64 0, .string nm, .slice none 0 0, .int .u32 0, .int .u32 0, .int .u32 0, .int .u32 0, .int .u32 0, .int .u32 0, .int .u32 0, .int .u32 0, .int .u32 0, .int .u32 0, .int .u32 0, .int .u32 0, .int .u32 0, .int .u32 0, .int .u32 0, .int .u32 0, .slice none 0 0, .int .i64 0, .int .i64 0, .int .i64 (N0 : Int)] := hd 50 (by decide)
    have e52 : a.eval (.tmp 52) = .int .i64 (N1 : Int) := hd 52 (by decide)
    have e54 : a.eval (.tmp 54) = .int .i64 (N2 : Int) := hd 54 (by decide)
    have e56 : a.eval (.tmp 56) = .int .i64 (N3 : Int) := hd 56 (by decide)
    exact hop_callK (F := (StK.eq (.bool false)).F) (wanted_yes rfl rfl rfl eg) hb.size rfl #[a.eval (.tmp 49), a.eval (.tmp 50), a.eval (.tmp 52), a.eval (.tmp 54), a.eval (.tmp 56)] (by first | (simp only [List.map_toArray, List.map_cons, List.map_nil]; done) | (simp only [List.map_toArray, List.map_cons, List.map_nil]; rfl)) (enters_of Try.func31 (by kernel_rfl) rfl) (by rw [e49]; rw [e50]; rw [e52]; rw [e54]; rw [e56]; exact call_eq (live_eq L2.out w))
  · intro a w hb hd
    have e48 : a.eval (.tmp 48) = .bool false := hd 48 (by decide)
    have e57 : a.eval (.tmp 57) = .bool false := hd 57 (by decide)
    exact hop_runK (F := (StK.eq (.bool false)).F) (wanted_none rfl) (.bool false) (run_pick_f rfl e48 e57) rfl
  · intro a w hb hd
    have e58 : a.eval (.tmp 58) = .bool false := hd 58 (by decide)
    exact hop_runK (F := (StK.eq (.bool false)).F) (wanted_none rfl) _ (run_mv _ (.inl rfl) e58) rfl
  · intro a w hb hd
    have eg : a.eval (.tmp 59) = .bool false := hd 59 (by decide)
    have e15 : a.eval (.tmp 15) = .pointer (some ⟨g, 0, none⟩) := hd 15 (by decide)
    exact hop_runK (F := (StK.eq (.agg #[.string nm, .int .i64 (N0 : Int), .int .i64 (N1 : Int), .int .i64 (N2 : Int), .int .i64 (N3 : Int)])).F) (wanted_yes rfl rfl rfl eg) _ (run_ldAll _ _ rfl e15 (c4.step hb) Try.underlying41 rfl (by kernel_rfl)) rfl
  · intro a w hb hd
    have eg : a.eval (.tmp 59) = .bool false := hd 59 (by decide)
    have e16 : a.eval (.tmp 16) = .pointer (some ⟨p, 0, none⟩) := hd 16 (by decide)
    exact hop_runK (F := (StK.eq (.agg #[.int .i64 0, .string nm, .slice none 0 0, .int .u32 0, .int .u32 0, .int .u32 0, .int .u32 0, .int .u32 0, .int .u32 0, .int .u32 0, .int .u32 0, .int .u32 0, .int .u32 0, .int .u32 0, .int .u32 0, .int .u32 0, .int .u32 0, .int .u32 0, .int .u32 0, .slice none 0 0, .int .i64 0, .int .i64 0, .int .i64 (N0 : Int)])).F) (wanted_yes rfl rfl rfl eg) _ (run_ldAll _ _ rfl e16 (d4.step hb) Try.underlying28 rfl (by kernel_rfl)) rfl
  · intro a w hb hd
    have eg : a.eval (.tmp 59) = .bool false := hd 59 (by decide)
    have e15 : a.eval (.tmp 15) = .pointer (some ⟨g, 0, none⟩) := hd 15 (by decide)
    exact hop_runK (F := (StK.eq (.pointer (some ⟨g, 2, none⟩))).F) (wanted_yes rfl rfl rfl eg) _ (by unfold execOp; simp only [e15]; kernel_rfl) rfl
  · intro a w hb hd
    have eg : a.eval (.tmp 59) = .bool false := hd 59 (by decide)
    have e62 : a.eval (.tmp 62) = .pointer (some ⟨g, 2, none⟩) := hd 62 (by decide)
    exact hop_runK (F := (StK.eq (.int .i64 (N1 : Int))).F) (wanted_yes rfl rfl rfl eg) _ (run_ldCell _ _ rfl e62 Try.underlying3 rfl ((c4.step hb).cell (k := 2) rfl)) rfl
  · intro a w hb hd
    have eg : a.eval (.tmp 59) = .bool false := hd 59 (by decide)
    have e15 : a.eval (.tmp 15) = .pointer (some ⟨g, 0, none⟩) := hd 15 (by decide)
    exact hop_runK (F := (StK.eq (.pointer (some ⟨g, 3, none⟩))).F) (wanted_yes rfl rfl rfl eg) _ (by unfold execOp; simp only [e15]; kernel_rfl) rfl
  · intro a w hb hd
    have eg : a.eval (.tmp 59) = .bool false := hd 59 (by decide)
    have e64 : a.eval (.tmp 64) = .pointer (some ⟨g, 3, none⟩) := hd 64 (by decide)
    exact hop_runK (F := (StK.eq (.int .i64 (N2 : Int))).F) (wanted_yes rfl rfl rfl eg) _ (run_ldCell _ _ rfl e64 Try.underlying3 rfl ((c4.step hb).cell (k := 3) rfl)) rfl
  · intro a w hb hd
    have eg : a.eval (.tmp 59) = .bool false := hd 59 (by decide)
    have e4 : a.eval (.tmp 4) = .int .i64 a4 := hd 4 (by decide)
    exact hop_runK (F := (StK.eq (.int .i64 a4)).F) (wanted_yes rfl rfl rfl eg) _ (run_mv _ (.inl rfl) e4) rfl
  · intro a w hb hd
    have eg : a.eval (.tmp 59) = .bool false := hd 59 (by decide)
    have e65 : a.eval (.tmp 65) = .int .i64 (N2 : Int) := hd 65 (by decide)
    have e66 : a.eval (.tmp 66) = .int .i64 a4 := hd 66 (by decide)
    exact hop_runK (F := (StK.eq (.int .i64 X)).F) (wanted_yes rfl rfl rfl eg) _ (run_maxI _ _ _ rfl e65 e66 hX.out) rfl
  · intro a w hb hd
    have eg : a.eval (.tmp 59) = .bool false := hd 59 (by decide)
    have e15 : a.eval (.tmp 15) = .pointer (some ⟨g, 0, none⟩) := hd 15 (by decide)
    exact hop_runK (F := (StK.eq (.pointer (some ⟨g, 4, none⟩))).F) (wanted_yes rfl rfl rfl eg) _ (by unfold execOp; simp only [e15]; kernel_rfl) rfl
  · intro a w hb hd
    have eg : a.eval (.tmp 59) = .bool false := hd 59 (by decide)
    have e68 : a.eval (.tmp 68) = .pointer (some ⟨g, 4, none⟩) := hd 68 (by decide)
    exact hop_runK (F := (StK.eq (.int .i64 (N3 : Int))).F) (wanted_yes rfl rfl rfl eg) _ (run_ldCell _ _ rfl e68 Try.underlying3 rfl ((c4.step hb).cell (k := 4) rfl)) rfl
  · intro a w hb hd
    have eg : a.eval (.tmp 59) = .bool false := hd 59 (by decide)
    have e60 : a.eval (.tmp 60) = .agg #[.string nm, .int .i64 (N0 : Int), .int .i64 (N1 : Int), .int .i64 (N2 : Int), .int .i64 (N3 : Int)] := hd 60 (by decide)
    have e61 : a.eval (.tmp 61) = .agg #[.int .i64 0, .string nm, .slice none 0 0, .int .u32 0, .int .u32 0, .int .u32 0, .int .u32 0, .int .u32 0, .int .u32 0, .int .u32 0, .int .u32 0, .int .u32 0, .int .u32 0, .int .u32 0, .int .u32 0, .int .u32 0, .int .u32 0, .int .u32 0, .int .u32 0, .slice none 0 0, .int .i64 0, .int .i64 0, .int .i64 (N0 : Int)] := hd 61 (by decide)
    have e63 : a.eval (.tmp 63) = .int .i64 (N1 : Int) := hd 63 (by decide)
    have e67 : a.eval (.tmp 67) = .int .i64 X := hd 67 (by decide)
    have e69 : a.eval (.tmp 69) = .int .i64 (N3 : Int) := hd 69 (by decide)
    exact hop_callK (F := (StK.eq (.bool false)).F) (wanted_yes rfl rfl rfl eg) hb.size rfl #[a.eval (.tmp 60), a.eval (.tmp 61), a.eval (.tmp 63), a.eval (.tmp 67), a.eval (.tmp 69)] (by first | (simp only [List.map_toArray, List.map_cons, List.map_nil]; done) | (simp only [List.map_toArray, List.map_cons, List.map_nil]; rfl)) (enters_of Try.func31 (by kernel_rfl) rfl) (by rw [e60]; rw [e61]; rw [e63]; rw [e67]; rw [e69]; exact call_eq (live_eq L3.out w))
  · intro a w hb hd
    have e59 : a.eval (.tmp 59) = .bool false := hd 59 (by decide)
    have e70 : a.eval (.tmp 70) = .bool false := hd 70 (by decide)
    exact hop_runK (F := (StK.eq (.bool false)).F) (wanted_none rfl) (.bool false) (run_pick_f rfl e59 e70) rfl
  intro pw5 w5 bw5 hp
  obtain ⟨-, -, -, -, -, -, -, -, -, -, -, -, -, -, -, -, -, -, -, -, -, -, -, -, -, -, -, -, -, -, -, -, -, -, q34, -⟩ := hp
  have e34 : pw5 34 = .bool false := q34 (by decide)
  simp only [List.take_succ_cons, List.take_zero, List.drop_succ_cons, List.drop_zero, layAll, Act.put, List.setIfInBounds_toArray, List.set_cons_zero, List.set_cons_succ, Nat.zero_add, Nat.reduceAdd, e34]
  clear q34 e34
  have B5 := step_trans B4 bw5
  have c5 := c4.step bw5
  have d5 := d4.step bw5
  have z5 := Blk.new w5 28 #[.int .i64 0, .string ⟨#[]⟩, .slice none 0 0, .int .u32 0, .int .u32 0, .int .u32 0, .int .u32 0, .int .u32 0, .int .u32 0, .int .u32 0, .int .u32 0, .int .u32 0, .int .u32 0, .int .u32 0, .int .u32 0, .int .u32 0, .int .u32 0, .int .u32 0, .int .u32 0, .slice none 0 0, .int .i64 0, .int .i64 0, .int .i64 0]
  clear c4 d4 B4 bw5
  go_wp2_with (first | (refine wpList_load_blk rfl _ (.tmp 16) rfl _ rfl _ _ _ d5 Try.underlying28 rfl size_rec ?_) | (refine wpList_store_blk rfl _ (.tmp 17) _ rfl _ rfl _ rfl (by simp [recA, Value.oneCell']) _ z5 rfl size_rec ?_; intro w6 g6 e6))
  have B6 := step_trans B5 (step_new g6)
  have c6 := c5.step (step_new g6)
  have d6 := d5.step (step_new g6)
  refine (within_eq hV.out (by omega) (by omega) hk6 hl6 _).mono ?_
  rintro e w7 ⟨rfl, b7⟩
  have B7 := step_trans B6 b7
  have c7 := c6.step b7
  have d7 := d6.step b7
  have e7 := e6.step b7
  obtain ⟨q, hq⟩ : ∃ q, q = w5.heap.size := ⟨_, rfl⟩
  have hqg : g ≠ q := by rw [hq]; exact Nat.ne_of_lt c5.lt
  have hqp : p ≠ q := by rw [hq]; exact Nat.ne_of_lt d5.lt
  have hqw : w.heap.size ≤ q := by rw [hq]; exact B5.size
  rw [← hq] at e7 ⊢
  have HQG := hid hqg
  have HQP := hid hqp
  clear c5 d5 z5 g6 c6 d6 e6 b7 B5 B6 hqg hqp hq
  have k22 := e7.cell (k := 22) (v := .int .i64 (N0 : Int)) rfl
  have f22 := e7.frozen 22
  have e8 := e7.set 22 (.int .i64 V) (c' := #[.int .i64 0, .string nm, .slice none 0 0, .int .u32 0, .int .u32 0, .int .u32 0, .int .u32 0, .int .u32 0, .int .u32 0, .int .u32 0, .int .u32 0, .int .u32 0, .int .u32 0, .int .u32 0, .int .u32 0, .int .u32 0, .int .u32 0, .int .u32 0, .int .u32 0, .slice none 0 0, .int .i64 0, .int .i64 0, .int .i64 V]) rfl
  have c8 := c7.far (a := ⟨q, 22, none⟩) (.int .i64 V) HQG.out
  have d8 := d7.far (a := ⟨q, 22, none⟩) (.int .i64 V) HQP.out
  have B8 := B7.setCell (p := ⟨q, 22, none⟩) hqw (.int .i64 V)
  go_wp2_with fail
  generalize World.setCell w7 _ _ = w8 at *
  clear k22 f22 e7 c7 d7 B7
  refine (within_eq hMn.out (by omega) (by omega) hk4 hl4 _).mono ?_
  rintro e w9 ⟨rfl, b9⟩
  have B9 := step_trans B8 b9
  have c9 := c8.step b9
  have d9 := d8.step b9
  have e9 := e8.step b9
  clear b9 c8 d8 e8 B8
  go_upto_region 12 with (fail)
  cases G1
  · rw [Bool.and_false] at L4
    refine wp_region_stT [StK.eq (.agg #[.string nm, .int .i64 (N0 : Int), .int .i64 (N1 : Int), .int .i64 (N2 : Int), .int .i64 (N3 : Int)]), StK.eq (.agg #[.int .i64 0, .string nm, .slice none 0 0, .int .u32 0, .int .u32 0, .int .u32 0, .int .u32 0, .int .u32 0, .int .u32 0, .int .u32 0, .int .u32 0, .int .u32 0, .int .u32 0, .int .u32 0, .int .u32 0, .int .u32 0, .int .u32 0, .int .u32 0, .int .u32 0, .slice none 0 0, .int .i64 0, .int .i64 0, .int .i64 V]), StK.eq (.pointer (some ⟨g, 2, none⟩)), StK.eq (.int .i64 (N1 : Int)), StK.eq (.int .i64 Mn), StK.eq (.pointer (some ⟨g, 4, none⟩)), StK.eq (.int .i64 (N3 : Int)), StK.eq (.bool false), StK.eq (.pointer (some ⟨g, 1, none⟩)), StK.eq (.int .i64 (N0 : Int)), StK.eq (.pointer (some ⟨q, 22, none⟩)), StK.eq (.int .i64 V), StK.eq (.bool false), StK.eq (.bool false), StK.any, StK.any, StK.any, StK.any, StK.eq (.bool false), StK.eq (.bool false)] 20 146 rfl (by kernel_rfl) (by kernel_rfl) ⟨?_, ?_, ?_, ?_, ?_, ?_, ?_, ?_, ?_, ?_, ?_, ?_, ?_, ?_, ?_, ?_, ?_, ?_, ?_, ?_, trivial⟩ ?_
    · intro a w hb hd
      have e15 : a.eval (.tmp 15) = .pointer (some ⟨g, 0, none⟩) := hd 15 (by decide)
      exact hop_runK (F := (StK.eq (.agg #[.string nm, .int .i64 (N0 : Int), .int .i64 (N1 : Int), .int .i64 (N2 : Int), .int .i64 (N3 : Int)])).F) (wanted_none rfl) _ (run_ldAll _ _ rfl e15 (c9.step hb) Try.underlying41 rfl (by kernel_rfl)) rfl
    · intro a w hb hd
      have e17 : a.eval (.tmp 17) = .pointer (some ⟨q, 0, none⟩) := hd 17 (by decide)
      exact hop_runK (F := (StK.eq (.agg #[.int .i64 0, .string nm, .slice none 0 0, .int .u32 0, .int .u32 0, .int .u32 0, .int .u32 0, .int .u32 0, .int .u32 0, .int .u32 0, .int .u32 0, .int .u32 0, .int .u32 0, .int .u32 0, .int .u32 0, .int .u32 0, .int .u32 0, .int .u32 0, .int .u32 0, .slice none 0 0, .int .i64 0, .int .i64 0, .int .i64 V])).F) (wanted_none rfl) _ (run_ldAll _ _ rfl e17 (e9.step hb) Try.underlying28 rfl (by kernel_rfl)) rfl
    · intro a w hb hd
      have e15 : a.eval (.tmp 15) = .pointer (some ⟨g, 0, none⟩) := hd 15 (by decide)
      exact hop_runK (F := (StK.eq (.pointer (some ⟨g, 2, none⟩))).F) (wanted_none rfl) _ (by unfold execOp; simp only [e15]; kernel_rfl) rfl
    · intro a w hb hd
      have e80 : a.eval (.tmp 80) = .pointer (some ⟨g, 2, none⟩) := hd 80 (by decide)
      exact hop_runK (F := (StK.eq (.int .i64 (N1 : Int))).F) (wanted_none rfl) _ (run_ldCell _ _ rfl e80 Try.underlying3 rfl ((c9.step hb).cell (k := 2) rfl)) rfl
    · intro a w hb hd
      have e18 : a.eval (.tmp 18) = .int .i64 Mn := hd 18 (by decide)
      exact hop_runK (F := (StK.eq (.int .i64 Mn)).F) (wanted_none rfl) _ (run_mv _ (.inl rfl) e18) rfl
    · intro a w hb hd
      have e15 : a.eval (.tmp 15) = .pointer (some ⟨g, 0, none⟩) := hd 15 (by decide)
      exact hop_runK (F := (StK.eq (.pointer (some ⟨g, 4, none⟩))).F) (wanted_none rfl) _ (by unfold execOp; simp only [e15]; kernel_rfl) rfl
    · intro a w hb hd
      have e83 : a.eval (.tmp 83) = .pointer (some ⟨g, 4, none⟩) := hd 83 (by decide)
      exact hop_runK (F := (StK.eq (.int .i64 (N3 : Int))).F) (wanted_none rfl) _ (run_ldCell _ _ rfl e83 Try.underlying3 rfl ((c9.step hb).cell (k := 4) rfl)) rfl
    · intro a w hb hd
      have e78 : a.eval (.tmp 78) = .agg #[.string nm, .int .i64 (N0 : Int), .int .i64 (N1 : Int), .int .i64 (N2 : Int), .int .i64 (N3 : Int)] := hd 78 (by decide)
      have e79 : a.eval (.tmp 79) = .agg #[.int .i64 0, .string nm, .slice none 0 0, .int .u32 0, .int .u32 0, .int .u32 0, .int .u32 0, .int .u32 0, .int .u32 0, .int .u32 0, .int .u32 0, .int .u32 0, .int .u32 0, .int .u32 0, .int .u32 0, .int .u32 0, .int .u32 0, .int .u32 0, .int .u32 0, .slice none 0 0, .int .i64 0, .int .i64 0, .int .i64 V] := hd 79 (by decide)
      have e81 : a.eval (.tmp 81) = .int .i64 (N1 : Int) := hd 81 (by decide)
      have e82 : a.eval (.tmp 82) = .int .i64 Mn := hd 82 (by decide)
      have e84 : a.eval (.tmp 84) = .int .i64 (N3 : Int) := hd 84 (by decide)
      exact hop_callK (F := (StK.eq (.bool false)).F) (wanted_none rfl) hb.size rfl #[a.eval (.tmp 78), a.eval (.tmp 79), a.eval (.tmp 81), a.eval (.tmp 82), a.eval (.tmp 84)] (by first | (simp only [List.map_toArray, List.map_cons, List.map_nil]; done) | (simp only [List.map_toArray, List.map_cons, List.map_nil]; rfl)) (enters_of Try.func31 (by kernel_rfl) rfl) (by rw [e78]; rw [e79]; rw [e81]; rw [e82]; rw [e84]; exact call_eq (live_eq L4.out w))
    · intro a w hb hd
      have e15 : a.eval (.tmp 15) = .pointer (some ⟨g, 0, none⟩) := hd 15 (by decide)
      exact hop_runK (F := (StK.eq (.pointer (some ⟨g, 1, none⟩))).F) (wanted_none rfl) _ (by unfold execOp; simp only [e15]; kernel_rfl) rfl
    · intro a w hb hd
      have e86 : a.eval (.tmp 86) = .pointer (some ⟨g, 1, none⟩) := hd 86 (by decide)
      exact hop_runK (F := (StK.eq (.int .i64 (N0 : Int))).F) (wanted_none rfl) _ (run_ldCell _ _ rfl e86 Try.underlying3 rfl ((c9.step hb).cell (k := 1) rfl)) rfl
    · intro a w hb hd
      have e17 : a.eval (.tmp 17) = .pointer (some ⟨q, 0, none⟩) := hd 17 (by decide)
      exact hop_runK (F := (StK.eq (.pointer (some ⟨q, 22, none⟩))).F) (wanted_none rfl) _ (by unfold execOp; simp only [e17]; kernel_rfl) rfl
    · intro a w hb hd
      have e88 : a.eval (.tmp 88) = .pointer (some ⟨q, 22, none⟩) := hd 88 (by decide)
      exact hop_runK (F := (StK.eq (.int .i64 V)).F) (wanted_none rfl) _ (run_ldCell _ _ rfl e88 Try.underlying3 rfl ((e9.step hb).cell (k := 22) rfl)) rfl
    · intro a w hb hd
      have e87 : a.eval (.tmp 87) = .int .i64 (N0 : Int) := hd 87 (by decide)
      have e89 : a.eval (.tmp 89) = .int .i64 V := hd 89 (by decide)
      exact hop_runK (F := (StK.eq (.bool false)).F) (wanted_none rfl) _ (run_geI _ _ rfl e87 e89 (hG1.out)) rfl
    · intro a w hb hd
      have e90 : a.eval (.tmp 90) = .bool false := hd 90 (by decide)
      exact hop_runK (F := (StK.eq (.bool false)).F) (wanted_none rfl) _ (run_mv _ (.inl rfl) e90) rfl
    · intro a w hb hd
      have eg : a.eval (.tmp 91) = .bool false := hd 91 (by decide)
      exact hop_skipK (F := StK.any.F) rfl rfl rfl eg trivial
    · intro a w hb hd
      have eg : a.eval (.tmp 91) = .bool false := hd 91 (by decide)
      exact hop_skipK (F := StK.any.F) rfl rfl rfl eg trivial
    · intro a w hb hd
      have eg : a.eval (.tmp 91) = .bool false := hd 91 (by decide)
      exact hop_skipK (F := StK.any.F) rfl rfl rfl eg trivial
    · intro a w hb hd
      have eg : a.eval (.tmp 91) = .bool false := hd 91 (by decide)
      exact hop_skipK (F := StK.any.F) rfl rfl rfl eg trivial
    · intro a w hb hd
      have e91 : a.eval (.tmp 91) = .bool false := hd 91 (by decide)
      exact hop_runK (F := (StK.eq (.bool false)).F) (wanted_none rfl) (.bool false) (run_pick_f rfl e91 rfl) rfl
    · intro a w hb hd
      have e85 : a.eval (.tmp 85) = .bool false := hd 85 (by decide)
      have e96 : a.eval (.tmp 96) = .bool false := hd 96 (by decide)
      exact hop_runK (F := (StK.eq (.bool false)).F) (wanted_none rfl) _ (run_neBool _ _ rfl e85 e96 (rfl)) rfl
    intro pw10 w10 bw10 hp
    obtain ⟨-, -, -, -, -, -, -, -, -, -, -, -, -, -, -, -, -, -, -, q19, -⟩ := hp
    have e19 : pw10 19 = .bool false := q19 (by decide)
    simp only [List.take_succ_cons, List.take_zero, List.drop_succ_cons, List.drop_zero, layAll, Act.put, List.setIfInBounds_toArray, List.set_cons_zero, List.set_cons_succ, Nat.zero_add, Nat.reduceAdd, e19]
    clear q19 e19
    have B10 := step_trans B9 bw10
    have c10 := c9.step bw10
    have d10 := d9.step bw10
    have e10 := e9.step bw10
    clear c9 d9 e9 B9 bw10
    go_wp2_with fail
    refine (name5_any a2 (by omega) _).mono ?_
    rw [hno.out]
    rintro e w11 ⟨rfl, b11⟩
    have B11 := step_trans B10 b11
    have c11 := c10.step b11
    have d11 := d10.step b11
    have e11 := e10.step b11
    have k1 := e11.cell (k := 1) (v := .string nm) rfl
    have f1 := e11.frozen 1
    have e12 := e11.set 1 (.string no) (c' := #[.int .i64 0, .string no, .slice none 0 0, .int .u32 0, .int .u32 0, .int .u32 0, .int .u32 0, .int .u32 0, .int .u32 0, .int .u32 0, .int .u32 0, .int .u32 0, .int .u32 0, .int .u32 0, .int .u32 0, .int .u32 0, .int .u32 0, .int .u32 0, .int .u32 0, .slice none 0 0, .int .i64 0, .int .i64 0, .int .i64 V]) rfl
    have c12 := c11.far (a := ⟨q, 1, none⟩) (.string no) HQG.out
    have d12 := d11.far (a := ⟨q, 1, none⟩) (.string no) HQP.out
    have B12 := B11.setCell (p := ⟨q, 1, none⟩) hqw (.string no)
    clear c10 d10 e10 B10 b11
    go_upto_region 15 with (fail)
    generalize World.setCell w11 _ _ = w12 at *
    clear k1 f1 e11 c11 d11 B11
    refine wp_region_stT ((StK.eq (.agg #[.string nm, .int .i64 (N0 : Int), .int .i64 (N1 : Int), .int .i64 (N2 : Int), .int .i64 (N3 : Int)])) :: (StK.eq (.agg #[.int .i64 0, .string no, .slice none 0 0, .int .u32 0, .int .u32 0, .int .u32 0, .int .u32 0, .int .u32 0, .int .u32 0, .int .u32 0, .int .u32 0, .int .u32 0, .int .u32 0, .int .u32 0, .int .u32 0, .int .u32 0, .int .u32 0, .int .u32 0, .int .u32 0, .slice none 0 0, .int .i64 0, .int .i64 0, .int .i64 V])) :: (StK.eq (.int .i64 a3)) :: (StK.eq (.int .i64 Mn)) :: (StK.eq (.int .i64 a5)) :: (StK.eq (.bool L5)) :: (StK.eq (.agg #[.string nm, .int .i64 (N0 : Int), .int .i64 (N1 : Int), .int .i64 (N2 : Int), .int .i64 (N3 : Int)])) :: (StK.eq (.agg #[.int .i64 0, .string no, .slice none 0 0, .int .u32 0, .int .u32 0, .int .u32 0, .int .u32 0, .int .u32 0, .int .u32 0, .int .u32 0, .int .u32 0, .int .u32 0, .int .u32 0, .int .u32 0, .int .u32 0, .int .u32 0, .int .u32 0, .int .u32 0, .int .u32 0, .slice none 0 0, .int .i64 0, .int .i64 0, .int .i64 V])) :: (StK.eq (.int .i64 a3)) :: (StK.eq (.int .i64 Mn)) :: (StK.eq (.int .i64 a5)) :: (StK.eq (.bool L5)) :: (StK.eq (.bool true)) :: (StK.eq (.bool true)) :: (StK.eq (.agg #[.string nm, .int .i64 (N0 : Int), .int .i64 (N1 : Int), .int .i64 (N2 : Int), .int .i64 (N3 : Int)])) :: (StK.eq (.agg #[.int .i64 0, .string nm, .slice none 0 0, .int .u32 0, .int .u32 0, .int .u32 0, .int .u32 0, .int .u32 0, .int .u32 0, .int .u32 0, .int .u32 0, .int .u32 0, .int .u32 0, .int .u32 0, .int .u32 0, .int .u32 0, .int .u32 0, .int .u32 0, .int .u32 0, .slice none 0 0, .int .i64 0, .int .i64 0, .int .i64 (N0 : Int)])) :: (StK.eq (.int .i64 a3)) :: (StK.eq (.pointer (some ⟨g, 3, none⟩))) :: (StK.eq (.int .i64 (N2 : Int))) :: (StK.eq (.int .i64 E)) :: (StK.eq (.pointer (some ⟨g, 4, none⟩))) :: (StK.eq (.int .i64 (N3 : Int))) :: (StK.eq (.bool C1)) :: (StK.eq (.int .i64 a3)) :: (StK.eq (.pointer (some ⟨g, 2, none⟩))) :: (StK.eq (.int .i64 (N1 : Int))) :: (StK.eq (.bool C1)) :: (StK.eq (.bool true)) :: (StK.eq (.bool true)) :: (StK.eq (.bool true)) :: (StK.eq (.agg #[.string nm, .int .i64 (N0 : Int), .int .i64 (N1 : Int), .int .i64 (N2 : Int), .int .i64 (N3 : Int)])) :: (StK.eq (.agg #[.int .i64 0, .string nm, .slice none 0 0, .int .u32 0, .int .u32 0, .int .u32 0, .int .u32 0, .int .u32 0, .int .u32 0, .int .u32 0, .int .u32 0, .int .u32 0, .int .u32 0, .int .u32 0, .int .u32 0, .int .u32 0, .int .u32 0, .int .u32 0, .int .u32 0, .slice none 0 0, .int .i64 0, .int .i64 0, .int .i64 (N0 : Int)])) :: (StK.eq (.pointer (some ⟨g, 2, none⟩))) :: (StK.eq (.int .i64 (N1 : Int))) :: (StK.eq (.pointer (some ⟨g, 3, none⟩))) :: (StK.eq (.int .i64 (N2 : Int))) :: (StK.eq (.int .i64 E)) :: (StK.eq (.int .i64 a5)) :: (StK.eq (.bool C2)) :: (StK.eq (.int .i64 a5)) :: (StK.eq (.pointer (some ⟨g, 4, none⟩))) :: (StK.eq (.int .i64 (N3 : Int))) :: (StK.eq (.bool C2)) :: (StK.eq (.bool true)) :: (StK.eq (.bool true)) :: (StK.eq (.bool true)) :: []) 46 146 rfl (by kernel_rfl) (by kernel_rfl) ⟨?_, ?_, ?_, ?_, ?_, ?_, ?_, ?_, ?_, ?_, ?_, ?_, ?_, ?_, ?_, ?_, ?_, ?_, ?_, ?_, ?_, ?_, ?_, ?_, ?_, ?_, ?_, ?_, ?_, ?_, ?_, ?_, ?_, ?_, ?_, ?_, ?_, ?_, ?_, ?_, ?_, ?_, ?_, ?_, ?_, ?_, trivial⟩ ?_
    · intro a w hb hd
      have e15 : a.eval (.tmp 15) = .pointer (some ⟨g, 0, none⟩) := hd 15 (by decide)
      exact hop_runK (F := (StK.eq (.agg #[.string nm, .int .i64 (N0 : Int), .int .i64 (N1 : Int), .int .i64 (N2 : Int), .int .i64 (N3 : Int)])).F) (wanted_none rfl) _ (run_ldAll _ _ rfl e15 (c12.step hb) Try.underlying41 rfl (by kernel_rfl)) rfl
    · intro a w hb hd
      have e17 : a.eval (.tmp 17) = .pointer (some ⟨q, 0, none⟩) := hd 17 (by decide)
      exact hop_runK (F := (StK.eq (.agg #[.int .i64 0, .string no, .slice none 0 0, .int .u32 0, .int .u32 0, .int .u32 0, .int .u32 0, .int .u32 0, .int .u32 0, .int .u32 0, .int .u32 0, .int .u32 0, .int .u32 0, .int .u32 0, .int .u32 0, .int .u32 0, .int .u32 0, .int .u32 0, .int .u32 0, .slice none 0 0, .int .i64 0, .int .i64 0, .int .i64 V])).F) (wanted_none rfl) _ (run_ldAll _ _ rfl e17 (e12.step hb) Try.underlying28 rfl (by kernel_rfl)) rfl
    · intro a w hb hd
      have e3 : a.eval (.tmp 3) = .int .i64 a3 := hd 3 (by decide)
      exact hop_runK (F := (StK.eq (.int .i64 a3)).F) (wanted_none rfl) _ (run_mv _ (.inl rfl) e3) rfl
    · intro a w hb hd
      have e18 : a.eval (.tmp 18) = .int .i64 Mn := hd 18 (by decide)
      exact hop_runK (F := (StK.eq (.int .i64 Mn)).F) (wanted_none rfl) _ (run_mv _ (.inl rfl) e18) rfl
    · intro a w hb hd
      have e5 : a.eval (.tmp 5) = .int .i64 a5 := hd 5 (by decide)
      exact hop_runK (F := (StK.eq (.int .i64 a5)).F) (wanted_none rfl) _ (run_mv _ (.inl rfl) e5) rfl
    · intro a w hb hd
      have e101 : a.eval (.tmp 101) = .agg #[.string nm, .int .i64 (N0 : Int), .int .i64 (N1 : Int), .int .i64 (N2 : Int), .int .i64 (N3 : Int)] := hd 101 (by decide)
      have e102 : a.eval (.tmp 102) = .agg #[.int .i64 0, .string no, .slice none 0 0, .int .u32 0, .int .u32 0, .int .u32 0, .int .u32 0, .int .u32 0, .int .u32 0, .int .u32 0, .int .u32 0, .int .u32 0, .int .u32 0, .int .u32 0, .int .u32 0, .int .u32 0, .int .u32 0, .int .u32 0, .int .u32 0, .slice none 0 0, .int .i64 0, .int .i64 0, .int .i64 V] := hd 102 (by decide)
      have e103 : a.eval (.tmp 103) = .int .i64 a3 := hd 103 (by decide)
      have e104 : a.eval (.tmp 104) = .int .i64 Mn := hd 104 (by decide)
      have e105 : a.eval (.tmp 105) = .int .i64 a5 := hd 105 (by decide)
      exact hop_callK (F := (StK.eq (.bool L5)).F) (wanted_none rfl) hb.size rfl #[a.eval (.tmp 101), a.eval (.tmp 102), a.eval (.tmp 103), a.eval (.tmp 104), a.eval (.tmp 105)] (by first | (simp only [List.map_toArray, List.map_cons, List.map_nil]; done) | (simp only [List.map_toArray, List.map_cons, List.map_nil]; rfl)) (enters_of Try.func31 (by kernel_rfl) rfl) (by rw [e101]; rw [e102]; rw [e103]; rw [e104]; rw [e105]; exact call_eq (live_eq hL5.out w))
    · intro a w hb hd
      have e15 : a.eval (.tmp 15) = .pointer (some ⟨g, 0, none⟩) := hd 15 (by decide)
      exact hop_runK (F := (StK.eq (.agg #[.string nm, .int .i64 (N0 : Int), .int .i64 (N1 : Int), .int .i64 (N2 : Int), .int .i64 (N3 : Int)])).F) (wanted_none rfl) _ (run_ldAll _ _ rfl e15 (c12.step hb) Try.underlying41 rfl (by kernel_rfl)) rfl
    · intro a w hb hd
      have e17 : a.eval (.tmp 17) = .pointer (some ⟨q, 0, none⟩) := hd 17 (by decide)
      exact hop_runK (F := (StK.eq (.agg #[.int .i64 0, .string no, .slice none 0 0, .int .u32 0, .int .u32 0, .int .u32 0, .int .u32 0, .int .u32 0, .int .u32 0, .int .u32 0, .int .u32 0, .int .u32 0, .int .u32 0, .int .u32 0, .int .u32 0, .int .u32 0, .int .u32 0, .int .u32 0, .int .u32 0, .slice none 0 0, .int .i64 0, .int .i64 0, .int .i64 V])).F) (wanted_none rfl) _ (run_ldAll _ _ rfl e17 (e12.step hb) Try.underlying28 rfl (by kernel_rfl)) rfl
    · intro a w hb hd
      have e3 : a.eval (.tmp 3) = .int .i64 a3 := hd 3 (by decide)
      exact hop_runK (F := (StK.eq (.int .i64 a3)).F) (wanted_none rfl) _ (run_mv _ (.inl rfl) e3) rfl
    · intro a w hb hd
      have e18 : a.eval (.tmp 18) = .int .i64 Mn := hd 18 (by decide)
      exact hop_runK (F := (StK.eq (.int .i64 Mn)).F) (wanted_none rfl) _ (run_mv _ (.inl rfl) e18) rfl
    · intro a w hb hd
      have e5 : a.eval (.tmp 5) = .int .i64 a5 := hd 5 (by decide)
      exact hop_runK (F := (StK.eq (.int .i64 a5)).F) (wanted_none rfl) _ (run_mv _ (.inl rfl) e5) rfl
    · intro a w hb hd
      have e107 : a.eval (.tmp 107) = .agg #[.string nm, .int .i64 (N0 : Int), .int .i64 (N1 : Int), .int .i64 (N2 : Int), .int .i64 (N3 : Int)] := hd 107 (by decide)
      have e108 : a.eval (.tmp 108) = .agg #[.int .i64 0, .string no, .slice none 0 0, .int .u32 0, .int .u32 0, .int .u32 0, .int .u32 0, .int .u32 0, .int .u32 0, .int .u32 0, .int .u32 0, .int .u32 0, .int .u32 0, .int .u32 0, .int .u32 0, .int .u32 0, .int .u32 0, .int .u32 0, .int .u32 0, .slice none 0 0, .int .i64 0, .int .i64 0, .int .i64 V] := hd 108 (by decide)
      have e109 : a.eval (.tmp 109) = .int .i64 a3 := hd 109 (by decide)
      have e110 : a.eval (.tmp 110) = .int .i64 Mn := hd 110 (by decide)
      have e111 : a.eval (.tmp 111) = .int .i64 a5 := hd 111 (by decide)
      exact hop_callK (F := (StK.eq (.bool L5)).F) (wanted_none rfl) hb.size rfl #[a.eval (.tmp 107), a.eval (.tmp 108), a.eval (.tmp 109), a.eval (.tmp 110), a.eval (.tmp 111)] (by first | (simp only [List.map_toArray, List.map_cons, List.map_nil]; done) | (simp only [List.map_toArray, List.map_cons, List.map_nil]; rfl)) (enters_of Try.func33 (by kernel_rfl) rfl) (by rw [e107]; rw [e108]; rw [e109]; rw [e110]; rw [e111]; exact call_eq (rlive_eq hL5.out w))
    · intro a w hb hd
      have e106 : a.eval (.tmp 106) = .bool L5 := hd 106 (by decide)
      have e112 : a.eval (.tmp 112) = .bool L5 := hd 112 (by decide)
      exact hop_runK (F := (StK.eq (.bool true)).F) (wanted_none rfl) _ (run_eqBool _ _ rfl e106 e112 (by cases L5 <;> rfl)) rfl
    · intro a w hb hd
      have e113 : a.eval (.tmp 113) = .bool true := hd 113 (by decide)
      exact hop_runK (F := (StK.eq (.bool true)).F) (wanted_none rfl) _ (run_mv _ (.inl rfl) e113) rfl
    · intro a w hb hd
      have eg : a.eval (.tmp 114) = .bool true := hd 114 (by decide)
      have e15 : a.eval (.tmp 15) = .pointer (some ⟨g, 0, none⟩) := hd 15 (by decide)
      exact hop_runK (F := (StK.eq (.agg #[.string nm, .int .i64 (N0 : Int), .int .i64 (N1 : Int), .int .i64 (N2 : Int), .int .i64 (N3 : Int)])).F) (wanted_yes rfl rfl rfl eg) _ (run_ldAll _ _ rfl e15 (c12.step hb) Try.underlying41 rfl (by kernel_rfl)) rfl
    · intro a w hb hd
      have eg : a.eval (.tmp 114) = .bool true := hd 114 (by decide)
      have e16 : a.eval (.tmp 16) = .pointer (some ⟨p, 0, none⟩) := hd 16 (by decide)
      exact hop_runK (F := (StK.eq (.agg #[.int .i64 0, .string nm, .slice none 0 0, .int .u32 0, .int .u32 0, .int .u32 0, .int .u32 0, .int .u32 0, .int .u32 0, .int .u32 0, .int .u32 0, .int .u32 0, .int .u32 0, .int .u32 0, .int .u32 0, .int .u32 0, .int .u32 0, .int .u32 0, .int .u32 0, .slice none 0 0, .int .i64 0, .int .i64 0, .int .i64 (N0 : Int)])).F) (wanted_yes rfl rfl rfl eg) _ (run_ldAll _ _ rfl e16 (d12.step hb) Try.underlying28 rfl (by kernel_rfl)) rfl
    · intro a w hb hd
      have eg : a.eval (.tmp 114) = .bool true := hd 114 (by decide)
      have e3 : a.eval (.tmp 3) = .int .i64 a3 := hd 3 (by decide)
      exact hop_runK (F := (StK.eq (.int .i64 a3)).F) (wanted_yes rfl rfl rfl eg) _ (run_mv _ (.inl rfl) e3) rfl
    · intro a w hb hd
      have eg : a.eval (.tmp 114) = .bool true := hd 114 (by decide)
      have e15 : a.eval (.tmp 15) = .pointer (some ⟨g, 0, none⟩) := hd 15 (by decide)
      exact hop_runK (F := (StK.eq (.pointer (some ⟨g, 3, none⟩))).F) (wanted_yes rfl rfl rfl eg) _ (by unfold execOp; simp only [e15]; kernel_rfl) rfl
    · intro a w hb hd
      have eg : a.eval (.tmp 114) = .bool true := hd 114 (by decide)
      have e118 : a.eval (.tmp 118) = .pointer (some ⟨g, 3, none⟩) := hd 118 (by decide)
      exact hop_runK (F := (StK.eq (.int .i64 (N2 : Int))).F) (wanted_yes rfl rfl rfl eg) _ (run_ldCell _ _ rfl e118 Try.underlying3 rfl ((c12.step hb).cell (k := 3) rfl)) rfl
    · intro a w hb hd
      have eg : a.eval (.tmp 114) = .bool true := hd 114 (by decide)
      have e119 : a.eval (.tmp 119) = .int .i64 (N2 : Int) := hd 119 (by decide)
      exact hop_runK (F := (StK.eq (.int .i64 E)).F) (wanted_yes rfl rfl rfl eg) _ (run_subI _ _ rfl e119 rfl hE.out EB.out.1 EB.out.2) rfl
    · intro a w hb hd
      have eg : a.eval (.tmp 114) = .bool true := hd 114 (by decide)
      have e15 : a.eval (.tmp 15) = .pointer (some ⟨g, 0, none⟩) := hd 15 (by decide)
      exact hop_runK (F := (StK.eq (.pointer (some ⟨g, 4, none⟩))).F) (wanted_yes rfl rfl rfl eg) _ (by unfold execOp; simp only [e15]; kernel_rfl) rfl
    · intro a w hb hd
      have eg : a.eval (.tmp 114) = .bool true := hd 114 (by decide)
      have e121 : a.eval (.tmp 121) = .pointer (some ⟨g, 4, none⟩) := hd 121 (by decide)
      exact hop_runK (F := (StK.eq (.int .i64 (N3 : Int))).F) (wanted_yes rfl rfl rfl eg) _ (run_ldCell _ _ rfl e121 Try.underlying3 rfl ((c12.step hb).cell (k := 4) rfl)) rfl
    · intro a w hb hd
      have eg : a.eval (.tmp 114) = .bool true := hd 114 (by decide)
      have e115 : a.eval (.tmp 115) = .agg #[.string nm, .int .i64 (N0 : Int), .int .i64 (N1 : Int), .int .i64 (N2 : Int), .int .i64 (N3 : Int)] := hd 115 (by decide)
      have e116 : a.eval (.tmp 116) = .agg #[.int .i64 0, .string nm, .slice none 0 0, .int .u32 0, .int .u32 0, .int .u32 0, .int .u32 0, .int .u32 0, .int .u32 0, .int .u32 0, .int .u32 0, .int .u32 0, .int .u32 0, .int .u32 0, .int .u32 0, .int .u32 0, .int .u32 0, .int .u32 0, .int .u32 0, .slice none 0 0, .int .i64 0, .int .i64 0, .int .i64 (N0 : Int)] := hd 116 (by decide)
      have e117 : a.eval (.tmp 117) = .int .i64 a3 := hd 117 (by decide)
      have e120 : a.eval (.tmp 120) = .int .i64 E := hd 120 (by decide)
      have e122 : a.eval (.tmp 122) = .int .i64 (N3 : Int) := hd 122 (by decide)
      exact hop_callK (F := (StK.eq (.bool C1)).F) (wanted_yes rfl rfl rfl eg) hb.size rfl #[a.eval (.tmp 115), a.eval (.tmp 116), a.eval (.tmp 117), a.eval (.tmp 120), a.eval (.tmp 122)] (by first | (simp only [List.map_toArray, List.map_cons, List.map_nil]; done) | (simp only [List.map_toArray, List.map_cons, List.map_nil]; rfl)) (enters_of Try.func31 (by kernel_rfl) rfl) (by rw [e115]; rw [e116]; rw [e117]; rw [e120]; rw [e122]; exact call_eq (live_eq L6.out w))
    · intro a w hb hd
      have eg : a.eval (.tmp 114) = .bool true := hd 114 (by decide)
      have e3 : a.eval (.tmp 3) = .int .i64 a3 := hd 3 (by decide)
      exact hop_runK (F := (StK.eq (.int .i64 a3)).F) (wanted_yes rfl rfl rfl eg) _ (run_mv _ (.inl rfl) e3) rfl
    · intro a w hb hd
      have eg : a.eval (.tmp 114) = .bool true := hd 114 (by decide)
      have e15 : a.eval (.tmp 15) = .pointer (some ⟨g, 0, none⟩) := hd 15 (by decide)
      exact hop_runK (F := (StK.eq (.pointer (some ⟨g, 2, none⟩))).F) (wanted_yes rfl rfl rfl eg) _ (by unfold execOp; simp only [e15]; kernel_rfl) rfl
    · intro a w hb hd
      have eg : a.eval (.tmp 114) = .bool true := hd 114 (by decide)
      have e125 : a.eval (.tmp 125) = .pointer (some ⟨g, 2, none⟩) := hd 125 (by decide)
      exact hop_runK (F := (StK.eq (.int .i64 (N1 : Int))).F) (wanted_yes rfl rfl rfl eg) _ (run_ldCell _ _ rfl e125 Try.underlying3 rfl ((c12.step hb).cell (k := 2) rfl)) rfl
    · intro a w hb hd
      have eg : a.eval (.tmp 114) = .bool true := hd 114 (by decide)
      have e124 : a.eval (.tmp 124) = .int .i64 a3 := hd 124 (by decide)
      have e126 : a.eval (.tmp 126) = .int .i64 (N1 : Int) := hd 126 (by decide)
      exact hop_runK (F := (StK.eq (.bool C1)).F) (wanted_yes rfl rfl rfl eg) _ (run_eqI _ _ rfl e124 e126 (hC1.out)) rfl
    · intro a w hb hd
      have eg : a.eval (.tmp 114) = .bool true := hd 114 (by decide)
      have e123 : a.eval (.tmp 123) = .bool C1 := hd 123 (by decide)
      have e127 : a.eval (.tmp 127) = .bool C1 := hd 127 (by decide)
      exact hop_runK (F := (StK.eq (.bool true)).F) (wanted_yes rfl rfl rfl eg) _ (run_eqBool _ _ rfl e123 e127 (by cases C1 <;> rfl)) rfl
    · intro a w hb hd
      have e114 : a.eval (.tmp 114) = .bool true := hd 114 (by decide)
      have e128 : a.eval (.tmp 128) = .bool true := hd 128 (by decide)
      exact hop_runK (F := (StK.eq (.bool true)).F) (wanted_none rfl) (.bool true) (run_pick_t rfl e114 e128) rfl
    · intro a w hb hd
      have e129 : a.eval (.tmp 129) = .bool true := hd 129 (by decide)
      exact hop_runK (F := (StK.eq (.bool true)).F) (wanted_none rfl) _ (run_mv _ (.inl rfl) e129) rfl
    · intro a w hb hd
      have eg : a.eval (.tmp 130) = .bool true := hd 130 (by decide)
      have e15 : a.eval (.tmp 15) = .pointer (some ⟨g, 0, none⟩) := hd 15 (by decide)
      exact hop_runK (F := (StK.eq (.agg #[.string nm, .int .i64 (N0 : Int), .int .i64 (N1 : Int), .int .i64 (N2 : Int), .int .i64 (N3 : Int)])).F) (wanted_yes rfl rfl rfl eg) _ (run_ldAll _ _ rfl e15 (c12.step hb) Try.underlying41 rfl (by kernel_rfl)) rfl
    · intro a w hb hd
      have eg : a.eval (.tmp 130) = .bool true := hd 130 (by decide)
      have e16 : a.eval (.tmp 16) = .pointer (some ⟨p, 0, none⟩) := hd 16 (by decide)
      exact hop_runK (F := (StK.eq (.agg #[.int .i64 0, .string nm, .slice none 0 0, .int .u32 0, .int .u32 0, .int .u32 0, .int .u32 0, .int .u32 0, .int .u32 0, .int .u32 0, .int .u32 0, .int .u32 0, .int .u32 0, .int .u32 0, .int .u32 0, .int .u32 0, .int .u32 0, .int .u32 0, .int .u32 0, .slice none 0 0, .int .i64 0, .int .i64 0, .int .i64 (N0 : Int)])).F) (wanted_yes rfl rfl rfl eg) _ (run_ldAll _ _ rfl e16 (d12.step hb) Try.underlying28 rfl (by kernel_rfl)) rfl
    · intro a w hb hd
      have eg : a.eval (.tmp 130) = .bool true := hd 130 (by decide)
      have e15 : a.eval (.tmp 15) = .pointer (some ⟨g, 0, none⟩) := hd 15 (by decide)
      exact hop_runK (F := (StK.eq (.pointer (some ⟨g, 2, none⟩))).F) (wanted_yes rfl rfl rfl eg) _ (by unfold execOp; simp only [e15]; kernel_rfl) rfl
    · intro a w hb hd
      have eg : a.eval (.tmp 130) = .bool true := hd 130 (by decide)
      have e133 : a.eval (.tmp 133) = .pointer (some ⟨g, 2, none⟩) := hd 133 (by decide)
      exact hop_runK (F := (StK.eq (.int .i64 (N1 : Int))).F) (wanted_yes rfl rfl rfl eg) _ (run_ldCell _ _ rfl e133 Try.underlying3 rfl ((c12.step hb).cell (k := 2) rfl)) rfl
    · intro a w hb hd
      have eg : a.eval (.tmp 130) = .bool true := hd 130 (by decide)
      have e15 : a.eval (.tmp 15) = .pointer (some ⟨g, 0, none⟩) := hd 15 (by decide)
      exact hop_runK (F := (StK.eq (.pointer (some ⟨g, 3, none⟩))).F) (wanted_yes rfl rfl rfl eg) _ (by unfold execOp; simp only [e15]; kernel_rfl) rfl
    · intro a w hb hd
      have eg : a.eval (.tmp 130) = .bool true := hd 130 (by decide)
      have e135 : a.eval (.tmp 135) = .pointer (some ⟨g, 3, none⟩) := hd 135 (by decide)
      exact hop_runK (F := (StK.eq (.int .i64 (N2 : Int))).F) (wanted_yes rfl rfl rfl eg) _ (run_ldCell _ _ rfl e135 Try.underlying3 rfl ((c12.step hb).cell (k := 3) rfl)) rfl
    · intro a w hb hd
      have eg : a.eval (.tmp 130) = .bool true := hd 130 (by decide)
      have e136 : a.eval (.tmp 136) = .int .i64 (N2 : Int) := hd 136 (by decide)
      exact hop_runK (F := (StK.eq (.int .i64 E)).F) (wanted_yes rfl rfl rfl eg) _ (run_subI _ _ rfl e136 rfl hE.out EB.out.1 EB.out.2) rfl
    · intro a w hb hd
      have eg : a.eval (.tmp 130) = .bool true := hd 130 (by decide)
      have e5 : a.eval (.tmp 5) = .int .i64 a5 := hd 5 (by decide)
      exact hop_runK (F := (StK.eq (.int .i64 a5)).F) (wanted_yes rfl rfl rfl eg) _ (run_mv _ (.inl rfl) e5) rfl
    · intro a w hb hd
      have eg : a.eval (.tmp 130) = .bool true := hd 130 (by decide)
      have e131 : a.eval (.tmp 131) = .agg #[.string nm, .int .i64 (N0 : Int), .int .i64 (N1 : Int), .int .i64 (N2 : Int), .int .i64 (N3 : Int)] := hd 131 (by decide)
      have e132 : a.eval (.tmp 132) = .agg #[.int .i64 0, .string nm, .slice none 0 0, .int .u32 0, .int .u32 0, .int .u32 0, .int .u32 0, .int .u32 0, .int .u32 0, .int .u32 0, .int .u32 0, .int .u32 0, .int .u32 0, .int .u32 0, .int .u32 0, .int .u32 0, .int .u32 0, .int .u32 0, .int .u32 0, .slice none 0 0, .int .i64 0, .int .i64 0, .int .i64 (N0 : Int)] := hd 132 (by decide)
      have e134 : a.eval (.tmp 134) = .int .i64 (N1 : Int) := hd 134 (by decide)
      have e137 : a.eval (.tmp 137) = .int .i64 E := hd 137 (by decide)
      have e138 : a.eval (.tmp 138) = .int .i64 a5 := hd 138 (by decide)
      exact hop_callK (F := (StK.eq (.bool C2)).F) (wanted_yes rfl rfl rfl eg) hb.size rfl #[a.eval (.tmp 131), a.eval (.tmp 132), a.eval (.tmp 134), a.eval (.tmp 137), a.eval (.tmp 138)] (by first | (simp only [List.map_toArray, List.map_cons, List.map_nil]; done) | (simp only [List.map_toArray, List.map_cons, List.map_nil]; rfl)) (enters_of Try.func31 (by kernel_rfl) rfl) (by rw [e131]; rw [e132]; rw [e134]; rw [e137]; rw [e138]; exact call_eq (live_eq L7.out w))
    · intro a w hb hd
      have eg : a.eval (.tmp 130) = .bool true := hd 130 (by decide)
      have e5 : a.eval (.tmp 5) = .int .i64 a5 := hd 5 (by decide)
      exact hop_runK (F := (StK.eq (.int .i64 a5)).F) (wanted_yes rfl rfl rfl eg) _ (run_mv _ (.inl rfl) e5) rfl
    · intro a w hb hd
      have eg : a.eval (.tmp 130) = .bool true := hd 130 (by decide)
      have e15 : a.eval (.tmp 15) = .pointer (some ⟨g, 0, none⟩) := hd 15 (by decide)
      exact hop_runK (F := (StK.eq (.pointer (some ⟨g, 4, none⟩))).F) (wanted_yes rfl rfl rfl eg) _ (by unfold execOp; simp only [e15]; kernel_rfl) rfl
    · intro a w hb hd
      have eg : a.eval (.tmp 130) = .bool true := hd 130 (by decide)
      have e141 : a.eval (.tmp 141) = .pointer (some ⟨g, 4, none⟩) := hd 141 (by decide)
      exact hop_runK (F := (StK.eq (.int .i64 (N3 : Int))).F) (wanted_yes rfl rfl rfl eg) _ (run_ldCell _ _ rfl e141 Try.underlying3 rfl ((c12.step hb).cell (k := 4) rfl)) rfl
    · intro a w hb hd
      have eg : a.eval (.tmp 130) = .bool true := hd 130 (by decide)
      have e140 : a.eval (.tmp 140) = .int .i64 a5 := hd 140 (by decide)
      have e142 : a.eval (.tmp 142) = .int .i64 (N3 : Int) := hd 142 (by decide)
      exact hop_runK (F := (StK.eq (.bool C2)).F) (wanted_yes rfl rfl rfl eg) _ (run_eqI _ _ rfl e140 e142 (hC2.out)) rfl
    · intro a w hb hd
      have eg : a.eval (.tmp 130) = .bool true := hd 130 (by decide)
      have e139 : a.eval (.tmp 139) = .bool C2 := hd 139 (by decide)
      have e143 : a.eval (.tmp 143) = .bool C2 := hd 143 (by decide)
      exact hop_runK (F := (StK.eq (.bool true)).F) (wanted_yes rfl rfl rfl eg) _ (run_eqBool _ _ rfl e139 e143 (by cases C2 <;> rfl)) rfl
    · intro a w hb hd
      have e130 : a.eval (.tmp 130) = .bool true := hd 130 (by decide)
      have e144 : a.eval (.tmp 144) = .bool true := hd 144 (by decide)
      exact hop_runK (F := (StK.eq (.bool true)).F) (wanted_none rfl) (.bool true) (run_pick_t rfl e130 e144) rfl
    · intro a w hb hd
      have e145 : a.eval (.tmp 145) = .bool true := hd 145 (by decide)
      exact hop_runK (F := (StK.eq (.bool true)).F) (wanted_none rfl) _ (run_mv _ (.inr rfl) e145) rfl
    intro pw13 w13 bw13 hp
    obtain ⟨-, -, -, -, -, -, -, -, -, -, -, -, -, -, -, -, -, -, -, -, -, -, -, -, -, -, -, -, -, -, -, -, -, -, -, -, -, -, -, -, -, -, -, -, -, q45, -⟩ := hp
    have e45 : pw13 45 = .bool true := q45 (by decide)
    simp only [List.take_succ_cons, List.take_zero, List.drop_succ_cons, List.drop_zero, layAll, Act.put, List.setIfInBounds_toArray, List.set_cons_zero, List.set_cons_succ, Nat.zero_add, Nat.reduceAdd, e45]
    clear q45 e45
    go_wp2
    go_ret
    exact ⟨rfl, step_trans B12 bw13⟩
  · rw [Bool.and_true] at L4
    refine wp_region_stT [StK.eq (.agg #[.string nm, .int .i64 (N0 : Int), .int .i64 (N1 : Int), .int .i64 (N2 : Int), .int .i64 (N3 : Int)]), StK.eq (.agg #[.int .i64 0, .string nm, .slice none 0 0, .int .u32 0, .int .u32 0, .int .u32 0, .int .u32 0, .int .u32 0, .int .u32 0, .int .u32 0, .int .u32 0, .int .u32 0, .int .u32 0, .int .u32 0, .int .u32 0, .int .u32 0, .int .u32 0, .int .u32 0, .int .u32 0, .slice none 0 0, .int .i64 0, .int .i64 0, .int .i64 V]), StK.eq (.pointer (some ⟨g, 2, none⟩)), StK.eq (.int .i64 (N1 : Int)), StK.eq (.int .i64 Mn), StK.eq (.pointer (some ⟨g, 4, none⟩)), StK.eq (.int .i64 (N3 : Int)), StK.eq (.bool G2), StK.eq (.pointer (some ⟨g, 1, none⟩)), StK.eq (.int .i64 (N0 : Int)), StK.eq (.pointer (some ⟨q, 22, none⟩)), StK.eq (.int .i64 V), StK.eq (.bool true), StK.eq (.bool true), StK.eq (.int .i64 Mn), StK.eq (.pointer (some ⟨g, 3, none⟩)), StK.eq (.int .i64 (N2 : Int)), StK.eq (.bool G2), StK.eq (.bool G2), StK.eq (.bool false)] 20 146 rfl (by kernel_rfl) (by kernel_rfl) ⟨?_, ?_, ?_, ?_, ?_, ?_, ?_, ?_, ?_, ?_, ?_, ?_, ?_, ?_, ?_, ?_, ?_, ?_, ?_, ?_, trivial⟩ ?_
    · intro a w hb hd
      have e15 : a.eval (.tmp 15) = .pointer (some ⟨g, 0, none⟩) := hd 15 (by decide)
      exact hop_runK (F := (StK.eq (.agg #[.string nm, .int .i64 (N0 : Int), .int .i64 (N1 : Int), .int .i64 (N2 : Int), .int .i64 (N3 : Int)])).F) (wanted_none rfl) _ (run_ldAll _ _ rfl e15 (c9.step hb) Try.underlying41 rfl (by kernel_rfl)) rfl
    · intro a w hb hd
      have e17 : a.eval (.tmp 17) = .pointer (some ⟨q, 0, none⟩) := hd 17 (by decide)
      exact hop_runK (F := (StK.eq (.agg #[.int .i64 0, .string nm, .slice none 0 0, .int .u32 0, .int .u32 0, .int .u32 0, .int .u32 0, .int .u32 0, .int .u32 0, .int .u32 0, .int .u32 0, .int .u32 0, .int .u32 0, .int .u32 0, .int .u32 0, .int .u32 0, .int .u32 0, .int .u32 0, .int .u32 0, .slice none 0 0, .int .i64 0, .int .i64 0, .int .i64 V])).F) (wanted_none rfl) _ (run_ldAll _ _ rfl e17 (e9.step hb) Try.underlying28 rfl (by kernel_rfl)) rfl
    · intro a w hb hd
      have e15 : a.eval (.tmp 15) = .pointer (some ⟨g, 0, none⟩) := hd 15 (by decide)
      exact hop_runK (F := (StK.eq (.pointer (some ⟨g, 2, none⟩))).F) (wanted_none rfl) _ (by unfold execOp; simp only [e15]; kernel_rfl) rfl
    · intro a w hb hd
      have e80 : a.eval (.tmp 80) = .pointer (some ⟨g, 2, none⟩) := hd 80 (by decide)
      exact hop_runK (F := (StK.eq (.int .i64 (N1 : Int))).F) (wanted_none rfl) _ (run_ldCell _ _ rfl e80 Try.underlying3 rfl ((c9.step hb).cell (k := 2) rfl)) rfl
    · intro a w hb hd
      have e18 : a.eval (.tmp 18) = .int .i64 Mn := hd 18 (by decide)
      exact hop_runK (F := (StK.eq (.int .i64 Mn)).F) (wanted_none rfl) _ (run_mv _ (.inl rfl) e18) rfl
    · intro a w hb hd
      have e15 : a.eval (.tmp 15) = .pointer (some ⟨g, 0, none⟩) := hd 15 (by decide)
      exact hop_runK (F := (StK.eq (.pointer (some ⟨g, 4, none⟩))).F) (wanted_none rfl) _ (by unfold execOp; simp only [e15]; kernel_rfl) rfl
    · intro a w hb hd
      have e83 : a.eval (.tmp 83) = .pointer (some ⟨g, 4, none⟩) := hd 83 (by decide)
      exact hop_runK (F := (StK.eq (.int .i64 (N3 : Int))).F) (wanted_none rfl) _ (run_ldCell _ _ rfl e83 Try.underlying3 rfl ((c9.step hb).cell (k := 4) rfl)) rfl
    · intro a w hb hd
      have e78 : a.eval (.tmp 78) = .agg #[.string nm, .int .i64 (N0 : Int), .int .i64 (N1 : Int), .int .i64 (N2 : Int), .int .i64 (N3 : Int)] := hd 78 (by decide)
      have e79 : a.eval (.tmp 79) = .agg #[.int .i64 0, .string nm, .slice none 0 0, .int .u32 0, .int .u32 0, .int .u32 0, .int .u32 0, .int .u32 0, .int .u32 0, .int .u32 0, .int .u32 0, .int .u32 0, .int .u32 0, .int .u32 0, .int .u32 0, .int .u32 0, .int .u32 0, .int .u32 0, .int .u32 0, .slice none 0 0, .int .i64 0, .int .i64 0, .int .i64 V] := hd 79 (by decide)
      have e81 : a.eval (.tmp 81) = .int .i64 (N1 : Int) := hd 81 (by decide)
      have e82 : a.eval (.tmp 82) = .int .i64 Mn := hd 82 (by decide)
      have e84 : a.eval (.tmp 84) = .int .i64 (N3 : Int) := hd 84 (by decide)
      exact hop_callK (F := (StK.eq (.bool G2)).F) (wanted_none rfl) hb.size rfl #[a.eval (.tmp 78), a.eval (.tmp 79), a.eval (.tmp 81), a.eval (.tmp 82), a.eval (.tmp 84)] (by first | (simp only [List.map_toArray, List.map_cons, List.map_nil]; done) | (simp only [List.map_toArray, List.map_cons, List.map_nil]; rfl)) (enters_of Try.func31 (by kernel_rfl) rfl) (by rw [e78]; rw [e79]; rw [e81]; rw [e82]; rw [e84]; exact call_eq (live_eq L4.out w))
    · intro a w hb hd
      have e15 : a.eval (.tmp 15) = .pointer (some ⟨g, 0, none⟩) := hd 15 (by decide)
      exact hop_runK (F := (StK.eq (.pointer (some ⟨g, 1, none⟩))).F) (wanted_none rfl) _ (by unfold execOp; simp only [e15]; kernel_rfl) rfl
    · intro a w hb hd
      have e86 : a.eval (.tmp 86) = .pointer (some ⟨g, 1, none⟩) := hd 86 (by decide)
      exact hop_runK (F := (StK.eq (.int .i64 (N0 : Int))).F) (wanted_none rfl) _ (run_ldCell _ _ rfl e86 Try.underlying3 rfl ((c9.step hb).cell (k := 1) rfl)) rfl
    · intro a w hb hd
      have e17 : a.eval (.tmp 17) = .pointer (some ⟨q, 0, none⟩) := hd 17 (by decide)
      exact hop_runK (F := (StK.eq (.pointer (some ⟨q, 22, none⟩))).F) (wanted_none rfl) _ (by unfold execOp; simp only [e17]; kernel_rfl) rfl
    · intro a w hb hd
      have e88 : a.eval (.tmp 88) = .pointer (some ⟨q, 22, none⟩) := hd 88 (by decide)
      exact hop_runK (F := (StK.eq (.int .i64 V)).F) (wanted_none rfl) _ (run_ldCell _ _ rfl e88 Try.underlying3 rfl ((e9.step hb).cell (k := 22) rfl)) rfl
    · intro a w hb hd
      have e87 : a.eval (.tmp 87) = .int .i64 (N0 : Int) := hd 87 (by decide)
      have e89 : a.eval (.tmp 89) = .int .i64 V := hd 89 (by decide)
      exact hop_runK (F := (StK.eq (.bool true)).F) (wanted_none rfl) _ (run_geI _ _ rfl e87 e89 (hG1.out)) rfl
    · intro a w hb hd
      have e90 : a.eval (.tmp 90) = .bool true := hd 90 (by decide)
      exact hop_runK (F := (StK.eq (.bool true)).F) (wanted_none rfl) _ (run_mv _ (.inl rfl) e90) rfl
    · intro a w hb hd
      have eg : a.eval (.tmp 91) = .bool true := hd 91 (by decide)
      have e18 : a.eval (.tmp 18) = .int .i64 Mn := hd 18 (by decide)
      exact hop_runK (F := (StK.eq (.int .i64 Mn)).F) (wanted_yes rfl rfl rfl eg) _ (run_mv _ (.inl rfl) e18) rfl
    · intro a w hb hd
      have eg : a.eval (.tmp 91) = .bool true := hd 91 (by decide)
      have e15 : a.eval (.tmp 15) = .pointer (some ⟨g, 0, none⟩) := hd 15 (by decide)
      exact hop_runK (F := (StK.eq (.pointer (some ⟨g, 3, none⟩))).F) (wanted_yes rfl rfl rfl eg) _ (by unfold execOp; simp only [e15]; kernel_rfl) rfl
    · intro a w hb hd
      have eg : a.eval (.tmp 91) = .bool true := hd 91 (by decide)
      have e93 : a.eval (.tmp 93) = .pointer (some ⟨g, 3, none⟩) := hd 93 (by decide)
      exact hop_runK (F := (StK.eq (.int .i64 (N2 : Int))).F) (wanted_yes rfl rfl rfl eg) _ (run_ldCell _ _ rfl e93 Try.underlying3 rfl ((c9.step hb).cell (k := 3) rfl)) rfl
    · intro a w hb hd
      have eg : a.eval (.tmp 91) = .bool true := hd 91 (by decide)
      have e92 : a.eval (.tmp 92) = .int .i64 Mn := hd 92 (by decide)
      have e94 : a.eval (.tmp 94) = .int .i64 (N2 : Int) := hd 94 (by decide)
      exact hop_runK (F := (StK.eq (.bool G2)).F) (wanted_yes rfl rfl rfl eg) _ (run_ltI _ _ rfl e92 e94 (hG2.out)) rfl
    · intro a w hb hd
      have e91 : a.eval (.tmp 91) = .bool true := hd 91 (by decide)
      have e95 : a.eval (.tmp 95) = .bool G2 := hd 95 (by decide)
      exact hop_runK (F := (StK.eq (.bool G2)).F) (wanted_none rfl) (.bool G2) (run_pick_t rfl e91 e95) rfl
    · intro a w hb hd
      have e85 : a.eval (.tmp 85) = .bool G2 := hd 85 (by decide)
      have e96 : a.eval (.tmp 96) = .bool G2 := hd 96 (by decide)
      exact hop_runK (F := (StK.eq (.bool false)).F) (wanted_none rfl) _ (run_neBool _ _ rfl e85 e96 (by cases G2 <;> rfl)) rfl
    intro pw10 w10 bw10 hp
    obtain ⟨-, -, -, -, -, -, -, -, -, -, -, -, -, -, -, -, -, -, -, q19, -⟩ := hp
    have e19 : pw10 19 = .bool false := q19 (by decide)
    simp only [List.take_succ_cons, List.take_zero, List.drop_succ_cons, List.drop_zero, layAll, Act.put, List.setIfInBounds_toArray, List.set_cons_zero, List.set_cons_succ, Nat.zero_add, Nat.reduceAdd, e19]
    clear q19 e19
    have B10 := step_trans B9 bw10
    have c10 := c9.step bw10
    have d10 := d9.step bw10
    have e10 := e9.step bw10
    clear c9 d9 e9 B9 bw10
    go_wp2_with fail
    refine (name5_any a2 (by omega) _).mono ?_
    rw [hno.out]
    rintro e w11 ⟨rfl, b11⟩
    have B11 := step_trans B10 b11
    have c11 := c10.step b11
    have d11 := d10.step b11
    have e11 := e10.step b11
    have k1 := e11.cell (k := 1) (v := .string nm) rfl
    have f1 := e11.frozen 1
    have e12 := e11.set 1 (.string no) (c' := #[.int .i64 0, .string no, .slice none 0 0, .int .u32 0, .int .u32 0, .int .u32 0, .int .u32 0, .int .u32 0, .int .u32 0, .int .u32 0, .int .u32 0, .int .u32 0, .int .u32 0, .int .u32 0, .int .u32 0, .int .u32 0, .int .u32 0, .int .u32 0, .int .u32 0, .slice none 0 0, .int .i64 0, .int .i64 0, .int .i64 V]) rfl
    have c12 := c11.far (a := ⟨q, 1, none⟩) (.string no) HQG.out
    have d12 := d11.far (a := ⟨q, 1, none⟩) (.string no) HQP.out
    have B12 := B11.setCell (p := ⟨q, 1, none⟩) hqw (.string no)
    clear c10 d10 e10 B10 b11
    go_upto_region 15 with (fail)
    generalize World.setCell w11 _ _ = w12 at *
    clear k1 f1 e11 c11 d11 B11
    refine wp_region_stT ((StK.eq (.agg #[.string nm, .int .i64 (N0 : Int), .int .i64 (N1 : Int), .int .i64 (N2 : Int), .int .i64 (N3 : Int)])) :: (StK.eq (.agg #[.int .i64 0, .string no, .slice none 0 0, .int .u32 0, .int .u32 0, .int .u32 0, .int .u32 0, .int .u32 0, .int .u32 0, .int .u32 0, .int .u32 0, .int .u32 0, .int .u32 0, .int .u32 0, .int .u32 0, .int .u32 0, .int .u32 0, .int .u32 0, .int .u32 0, .slice none 0 0, .int .i64 0, .int .i64 0, .int .i64 V])) :: (StK.eq (.int .i64 a3)) :: (StK.eq (.int .i64 Mn)) :: (StK.eq (.int .i64 a5)) :: (StK.eq (.bool L5)) :: (StK.eq (.agg #[.string nm, .int .i64 (N0 : Int), .int .i64 (N1 : Int), .int .i64 (N2 : Int), .int .i64 (N3 : Int)])) :: (StK.eq (.agg #[.int .i64 0, .string no, .slice none 0 0, .int .u32 0, .int .u32 0, .int .u32 0, .int .u32 0, .int .u32 0, .int .u32 0, .int .u32 0, .int .u32 0, .int .u32 0, .int .u32 0, .int .u32 0, .int .u32 0, .int .u32 0, .int .u32 0, .int .u32 0, .int .u32 0, .slice none 0 0, .int .i64 0, .int .i64 0, .int .i64 V])) :: (StK.eq (.int .i64 a3)) :: (StK.eq (.int .i64 Mn)) :: (StK.eq (.int .i64 a5)) :: (StK.eq (.bool L5)) :: (StK.eq (.bool true)) :: (StK.eq (.bool true)) :: (StK.eq (.agg #[.string nm, .int .i64 (N0 : Int), .int .i64 (N1 : Int), .int .i64 (N2 : Int), .int .i64 (N3 : Int)])) :: (StK.eq (.agg #[.int .i64 0, .string nm, .slice none 0 0, .int .u32 0, .int .u32 0, .int .u32 0, .int .u32 0, .int .u32 0, .int .u32 0, .int .u32 0, .int .u32 0, .int .u32 0, .int .u32 0, .int .u32 0, .int .u32 0, .int .u32 0, .int .u32 0, .int .u32 0, .int .u32 0, .slice none 0 0, .int .i64 0, .int .i64 0, .int .i64 (N0 : Int)])) :: (StK.eq (.int .i64 a3)) :: (StK.eq (.pointer (some ⟨g, 3, none⟩))) :: (StK.eq (.int .i64 (N2 : Int))) :: (StK.eq (.int .i64 E)) :: (StK.eq (.pointer (some ⟨g, 4, none⟩))) :: (StK.eq (.int .i64 (N3 : Int))) :: (StK.eq (.bool C1)) :: (StK.eq (.int .i64 a3)) :: (StK.eq (.pointer (some ⟨g, 2, none⟩))) :: (StK.eq (.int .i64 (N1 : Int))) :: (StK.eq (.bool C1)) :: (StK.eq (.bool true)) :: (StK.eq (.bool true)) :: (StK.eq (.bool true)) :: (StK.eq (.agg #[.string nm, .int .i64 (N0 : Int), .int .i64 (N1 : Int), .int .i64 (N2 : Int), .int .i64 (N3 : Int)])) :: (StK.eq (.agg #[.int .i64 0, .string nm, .slice none 0 0, .int .u32 0, .int .u32 0, .int .u32 0, .int .u32 0, .int .u32 0, .int .u32 0, .int .u32 0, .int .u32 0, .int .u32 0, .int .u32 0, .int .u32 0, .int .u32 0, .int .u32 0, .int .u32 0, .int .u32 0, .int .u32 0, .slice none 0 0, .int .i64 0, .int .i64 0, .int .i64 (N0 : Int)])) :: (StK.eq (.pointer (some ⟨g, 2, none⟩))) :: (StK.eq (.int .i64 (N1 : Int))) :: (StK.eq (.pointer (some ⟨g, 3, none⟩))) :: (StK.eq (.int .i64 (N2 : Int))) :: (StK.eq (.int .i64 E)) :: (StK.eq (.int .i64 a5)) :: (StK.eq (.bool C2)) :: (StK.eq (.int .i64 a5)) :: (StK.eq (.pointer (some ⟨g, 4, none⟩))) :: (StK.eq (.int .i64 (N3 : Int))) :: (StK.eq (.bool C2)) :: (StK.eq (.bool true)) :: (StK.eq (.bool true)) :: (StK.eq (.bool true)) :: []) 46 146 rfl (by kernel_rfl) (by kernel_rfl) ⟨?_, ?_, ?_, ?_, ?_, ?_, ?_, ?_, ?_, ?_, ?_, ?_, ?_, ?_, ?_, ?_, ?_, ?_, ?_, ?_, ?_, ?_, ?_, ?_, ?_, ?_, ?_, ?_, ?_, ?_, ?_, ?_, ?_, ?_, ?_, ?_, ?_, ?_, ?_, ?_, ?_, ?_, ?_, ?_, ?_, ?_, trivial⟩ ?_
    · intro a w hb hd
      have e15 : a.eval (.tmp 15) = .pointer (some ⟨g, 0, none⟩) := hd 15 (by decide)
      exact hop_runK (F := (StK.eq (.agg #[.string nm, .int .i64 (N0 : Int), .int .i64 (N1 : Int), .int .i64 (N2 : Int), .int .i64 (N3 : Int)])).F) (wanted_none rfl) _ (run_ldAll _ _ rfl e15 (c12.step hb) Try.underlying41 rfl (by kernel_rfl)) rfl
    · intro a w hb hd
      have e17 : a.eval (.tmp 17) = .pointer (some ⟨q, 0, none⟩) := hd 17 (by decide)
      exact hop_runK (F := (StK.eq (.agg #[.int .i64 0, .string no, .slice none 0 0, .int .u32 0, .int .u32 0, .int .u32 0, .int .u32 0, .int .u32 0, .int .u32 0, .int .u32 0, .int .u32 0, .int .u32 0, .int .u32 0, .int .u32 0, .int .u32 0, .int .u32 0, .int .u32 0, .int .u32 0, .int .u32 0, .slice none 0 0, .int .i64 0, .int .i64 0, .int .i64 V])).F) (wanted_none rfl) _ (run_ldAll _ _ rfl e17 (e12.step hb) Try.underlying28 rfl (by kernel_rfl)) rfl
    · intro a w hb hd
      have e3 : a.eval (.tmp 3) = .int .i64 a3 := hd 3 (by decide)
      exact hop_runK (F := (StK.eq (.int .i64 a3)).F) (wanted_none rfl) _ (run_mv _ (.inl rfl) e3) rfl
    · intro a w hb hd
      have e18 : a.eval (.tmp 18) = .int .i64 Mn := hd 18 (by decide)
      exact hop_runK (F := (StK.eq (.int .i64 Mn)).F) (wanted_none rfl) _ (run_mv _ (.inl rfl) e18) rfl
    · intro a w hb hd
      have e5 : a.eval (.tmp 5) = .int .i64 a5 := hd 5 (by decide)
      exact hop_runK (F := (StK.eq (.int .i64 a5)).F) (wanted_none rfl) _ (run_mv _ (.inl rfl) e5) rfl
    · intro a w hb hd
      have e101 : a.eval (.tmp 101) = .agg #[.string nm, .int .i64 (N0 : Int), .int .i64 (N1 : Int), .int .i64 (N2 : Int), .int .i64 (N3 : Int)] := hd 101 (by decide)
      have e102 : a.eval (.tmp 102) = .agg #[.int .i64 0, .string no, .slice none 0 0, .int .u32 0, .int .u32 0, .int .u32 0, .int .u32 0, .int .u32 0, .int .u32 0, .int .u32 0, .int .u32 0, .int .u32 0, .int .u32 0, .int .u32 0, .int .u32 0, .int .u32 0, .int .u32 0, .int .u32 0, .int .u32 0, .slice none 0 0, .int .i64 0, .int .i64 0, .int .i64 V] := hd 102 (by decide)
      have e103 : a.eval (.tmp 103) = .int .i64 a3 := hd 103 (by decide)
      have e104 : a.eval (.tmp 104) = .int .i64 Mn := hd 104 (by decide)
      have e105 : a.eval (.tmp 105) = .int .i64 a5 := hd 105 (by decide)
      exact hop_callK (F := (StK.eq (.bool L5)).F) (wanted_none rfl) hb.size rfl #[a.eval (.tmp 101), a.eval (.tmp 102), a.eval (.tmp 103), a.eval (.tmp 104), a.eval (.tmp 105)] (by first | (simp only [List.map_toArray, List.map_cons, List.map_nil]; done) | (simp only [List.map_toArray, List.map_cons, List.map_nil]; rfl)) (enters_of Try.func31 (by kernel_rfl) rfl) (by rw [e101]; rw [e102]; rw [e103]; rw [e104]; rw [e105]; exact call_eq (live_eq hL5.out w))
    · intro a w hb hd
      have e15 : a.eval (.tmp 15) = .pointer (some ⟨g, 0, none⟩) := hd 15 (by decide)
      exact hop_runK (F := (StK.eq (.agg #[.string nm, .int .i64 (N0 : Int), .int .i64 (N1 : Int), .int .i64 (N2 : Int), .int .i64 (N3 : Int)])).F) (wanted_none rfl) _ (run_ldAll _ _ rfl e15 (c12.step hb) Try.underlying41 rfl (by kernel_rfl)) rfl
    · intro a w hb hd
      have e17 : a.eval (.tmp 17) = .pointer (some ⟨q, 0, none⟩) := hd 17 (by decide)
      exact hop_runK (F := (StK.eq (.agg #[.int .i64 0, .string no, .slice none 0 0, .int .u32 0, .int .u32 0, .int .u32 0, .int .u32 0, .int .u32 0, .int .u32 0, .int .u32 0, .int .u32 0, .int .u32 0, .int .u32 0, .int .u32 0, .int .u32 0, .int .u32 0, .int .u32 0, .int .u32 0, .int .u32 0, .slice none 0 0, .int .i64 0, .int .i64 0, .int .i64 V])).F) (wanted_none rfl) _ (run_ldAll _ _ rfl e17 (e12.step hb) Try.underlying28 rfl (by kernel_rfl)) rfl
    · intro a w hb hd
      have e3 : a.eval (.tmp 3) = .int .i64 a3 := hd 3 (by decide)
      exact hop_runK (F := (StK.eq (.int .i64 a3)).F) (wanted_none rfl) _ (run_mv _ (.inl rfl) e3) rfl
    · intro a w hb hd
      have e18 : a.eval (.tmp 18) = .int .i64 Mn := hd 18 (by decide)
      exact hop_runK (F := (StK.eq (.int .i64 Mn)).F) (wanted_none rfl) _ (run_mv _ (.inl rfl) e18) rfl
    · intro a w hb hd
      have e5 : a.eval (.tmp 5) = .int .i64 a5 := hd 5 (by decide)
      exact hop_runK (F := (StK.eq (.int .i64 a5)).F) (wanted_none rfl) _ (run_mv _ (.inl rfl) e5) rfl
    · intro a w hb hd
      have e107 : a.eval (.tmp 107) = .agg #[.string nm, .int .i64 (N0 : Int), .int .i64 (N1 : Int), .int .i64 (N2 : Int), .int .i64 (N3 : Int)] := hd 107 (by decide)
      have e108 : a.eval (.tmp 108) = .agg #[.int .i64 0, .string no, .slice none 0 0, .int .u32 0, .int .u32 0, .int .u32 0, .int .u32 0, .int .u32 0, .int .u32 0, .int .u32 0, .int .u32 0, .int .u32 0, .int .u32 0, .int .u32 0, .int .u32 0, .int .u32 0, .int .u32 0, .int .u32 0, .int .u32 0, .slice none 0 0, .int .i64 0, .int .i64 0, .int .i64 V] := hd 108 (by decide)
      have e109 : a.eval (.tmp 109) = .int .i64 a3 := hd 109 (by decide)
      have e110 : a.eval (.tmp 110) = .int .i64 Mn := hd 110 (by decide)
      have e111 : a.eval (.tmp 111) = .int .i64 a5 := hd 111 (by decide)
      exact hop_callK (F := (StK.eq (.bool L5)).F) (wanted_none rfl) hb.size rfl #[a.eval (.tmp 107), a.eval (.tmp 108), a.eval (.tmp 109), a.eval (.tmp 110), a.eval (.tmp 111)] (by first | (simp only [List.map_toArray, List.map_cons, List.map_nil]; done) | (simp only [List.map_toArray, List.map_cons, List.map_nil]; rfl)) (enters_of Try.func33 (by kernel_rfl) rfl) (by rw [e107]; rw [e108]; rw [e109]; rw [e110]; rw [e111]; exact call_eq (rlive_eq hL5.out w))
    · intro a w hb hd
      have e106 : a.eval (.tmp 106) = .bool L5 := hd 106 (by decide)
      have e112 : a.eval (.tmp 112) = .bool L5 := hd 112 (by decide)
      exact hop_runK (F := (StK.eq (.bool true)).F) (wanted_none rfl) _ (run_eqBool _ _ rfl e106 e112 (by cases L5 <;> rfl)) rfl
    · intro a w hb hd
      have e113 : a.eval (.tmp 113) = .bool true := hd 113 (by decide)
      exact hop_runK (F := (StK.eq (.bool true)).F) (wanted_none rfl) _ (run_mv _ (.inl rfl) e113) rfl
    · intro a w hb hd
      have eg : a.eval (.tmp 114) = .bool true := hd 114 (by decide)
      have e15 : a.eval (.tmp 15) = .pointer (some ⟨g, 0, none⟩) := hd 15 (by decide)
      exact hop_runK (F := (StK.eq (.agg #[.string nm, .int .i64 (N0 : Int), .int .i64 (N1 : Int), .int .i64 (N2 : Int), .int .i64 (N3 : Int)])).F) (wanted_yes rfl rfl rfl eg) _ (run_ldAll _ _ rfl e15 (c12.step hb) Try.underlying41 rfl (by kernel_rfl)) rfl
    · intro a w hb hd
      have eg : a.eval (.tmp 114) = .bool true := hd 114 (by decide)
      have e16 : a.eval (.tmp 16) = .pointer (some ⟨p, 0, none⟩) := hd 16 (by decide)
      exact hop_runK (F := (StK.eq (.agg #[.int .i64 0, .string nm, .slice none 0 0, .int .u32 0, .int .u32 0, .int .u32 0, .int .u32 0, .int .u32 0, .int .u32 0, .int .u32 0, .int .u32 0, .int .u32 0, .int .u32 0, .int .u32 0, .int .u32 0, .int .u32 0, .int .u32 0, .int .u32 0, .int .u32 0, .slice none 0 0, .int .i64 0, .int .i64 0, .int .i64 (N0 : Int)])).F) (wanted_yes rfl rfl rfl eg) _ (run_ldAll _ _ rfl e16 (d12.step hb) Try.underlying28 rfl (by kernel_rfl)) rfl
    · intro a w hb hd
      have eg : a.eval (.tmp 114) = .bool true := hd 114 (by decide)
      have e3 : a.eval (.tmp 3) = .int .i64 a3 := hd 3 (by decide)
      exact hop_runK (F := (StK.eq (.int .i64 a3)).F) (wanted_yes rfl rfl rfl eg) _ (run_mv _ (.inl rfl) e3) rfl
    · intro a w hb hd
      have eg : a.eval (.tmp 114) = .bool true := hd 114 (by decide)
      have e15 : a.eval (.tmp 15) = .pointer (some ⟨g, 0, none⟩) := hd 15 (by decide)
      exact hop_runK (F := (StK.eq (.pointer (some ⟨g, 3, none⟩))).F) (wanted_yes rfl rfl rfl eg) _ (by unfold execOp; simp only [e15]; kernel_rfl) rfl
    · intro a w hb hd
      have eg : a.eval (.tmp 114) = .bool true := hd 114 (by decide)
      have e118 : a.eval (.tmp 118) = .pointer (some ⟨g, 3, none⟩) := hd 118 (by decide)
      exact hop_runK (F := (StK.eq (.int .i64 (N2 : Int))).F) (wanted_yes rfl rfl rfl eg) _ (run_ldCell _ _ rfl e118 Try.underlying3 rfl ((c12.step hb).cell (k := 3) rfl)) rfl
    · intro a w hb hd
      have eg : a.eval (.tmp 114) = .bool true := hd 114 (by decide)
      have e119 : a.eval (.tmp 119) = .int .i64 (N2 : Int) := hd 119 (by decide)
      exact hop_runK (F := (StK.eq (.int .i64 E)).F) (wanted_yes rfl rfl rfl eg) _ (run_subI _ _ rfl e119 rfl hE.out EB.out.1 EB.out.2) rfl
    · intro a w hb hd
      have eg : a.eval (.tmp 114) = .bool true := hd 114 (by decide)
      have e15 : a.eval (.tmp 15) = .pointer (some ⟨g, 0, none⟩) := hd 15 (by decide)
      exact hop_runK (F := (StK.eq (.pointer (some ⟨g, 4, none⟩))).F) (wanted_yes rfl rfl rfl eg) _ (by unfold execOp; simp only [e15]; kernel_rfl) rfl
    · intro a w hb hd
      have eg : a.eval (.tmp 114) = .bool true := hd 114 (by decide)
      have e121 : a.eval (.tmp 121) = .pointer (some ⟨g, 4, none⟩) := hd 121 (by decide)
      exact hop_runK (F := (StK.eq (.int .i64 (N3 : Int))).F) (wanted_yes rfl rfl rfl eg) _ (run_ldCell _ _ rfl e121 Try.underlying3 rfl ((c12.step hb).cell (k := 4) rfl)) rfl
    · intro a w hb hd
      have eg : a.eval (.tmp 114) = .bool true := hd 114 (by decide)
      have e115 : a.eval (.tmp 115) = .agg #[.string nm, .int .i64 (N0 : Int), .int .i64 (N1 : Int), .int .i64 (N2 : Int), .int .i64 (N3 : Int)] := hd 115 (by decide)
      have e116 : a.eval (.tmp 116) = .agg #[.int .i64 0, .string nm, .slice none 0 0, .int .u32 0, .int .u32 0, .int .u32 0, .int .u32 0, .int .u32 0, .int .u32 0, .int .u32 0, .int .u32 0, .int .u32 0, .int .u32 0, .int .u32 0, .int .u32 0, .int .u32 0, .int .u32 0, .int .u32 0, .int .u32 0, .slice none 0 0, .int .i64 0, .int .i64 0, .int .i64 (N0 : Int)] := hd 116 (by decide)
      have e117 : a.eval (.tmp 117) = .int .i64 a3 := hd 117 (by decide)
      have e120 : a.eval (.tmp 120) = .int .i64 E := hd 120 (by decide)
      have e122 : a.eval (.tmp 122) = .int .i64 (N3 : Int) := hd 122 (by decide)
      exact hop_callK (F := (StK.eq (.bool C1)).F) (wanted_yes rfl rfl rfl eg) hb.size rfl #[a.eval (.tmp 115), a.eval (.tmp 116), a.eval (.tmp 117), a.eval (.tmp 120), a.eval (.tmp 122)] (by first | (simp only [List.map_toArray, List.map_cons, List.map_nil]; done) | (simp only [List.map_toArray, List.map_cons, List.map_nil]; rfl)) (enters_of Try.func31 (by kernel_rfl) rfl) (by rw [e115]; rw [e116]; rw [e117]; rw [e120]; rw [e122]; exact call_eq (live_eq L6.out w))
    · intro a w hb hd
      have eg : a.eval (.tmp 114) = .bool true := hd 114 (by decide)
      have e3 : a.eval (.tmp 3) = .int .i64 a3 := hd 3 (by decide)
      exact hop_runK (F := (StK.eq (.int .i64 a3)).F) (wanted_yes rfl rfl rfl eg) _ (run_mv _ (.inl rfl) e3) rfl
    · intro a w hb hd
      have eg : a.eval (.tmp 114) = .bool true := hd 114 (by decide)
      have e15 : a.eval (.tmp 15) = .pointer (some ⟨g, 0, none⟩) := hd 15 (by decide)
      exact hop_runK (F := (StK.eq (.pointer (some ⟨g, 2, none⟩))).F) (wanted_yes rfl rfl rfl eg) _ (by unfold execOp; simp only [e15]; kernel_rfl) rfl
    · intro a w hb hd
      have eg : a.eval (.tmp 114) = .bool true := hd 114 (by decide)
      have e125 : a.eval (.tmp 125) = .pointer (some ⟨g, 2, none⟩) := hd 125 (by decide)
      exact hop_runK (F := (StK.eq (.int .i64 (N1 : Int))).F) (wanted_yes rfl rfl rfl eg) _ (run_ldCell _ _ rfl e125 Try.underlying3 rfl ((c12.step hb).cell (k := 2) rfl)) rfl
    · intro a w hb hd
      have eg : a.eval (.tmp 114) = .bool true := hd 114 (by decide)
      have e124 : a.eval (.tmp 124) = .int .i64 a3 := hd 124 (by decide)
      have e126 : a.eval (.tmp 126) = .int .i64 (N1 : Int) := hd 126 (by decide)
      exact hop_runK (F := (StK.eq (.bool C1)).F) (wanted_yes rfl rfl rfl eg) _ (run_eqI _ _ rfl e124 e126 (hC1.out)) rfl
    · intro a w hb hd
      have eg : a.eval (.tmp 114) = .bool true := hd 114 (by decide)
      have e123 : a.eval (.tmp 123) = .bool C1 := hd 123 (by decide)
      have e127 : a.eval (.tmp 127) = .bool C1 := hd 127 (by decide)
      exact hop_runK (F := (StK.eq (.bool true)).F) (wanted_yes rfl rfl rfl eg) _ (run_eqBool _ _ rfl e123 e127 (by cases C1 <;> rfl)) rfl
    · intro a w hb hd
      have e114 : a.eval (.tmp 114) = .bool true := hd 114 (by decide)
      have e128 : a.eval (.tmp 128) = .bool true := hd 128 (by decide)
      exact hop_runK (F := (StK.eq (.bool true)).F) (wanted_none rfl) (.bool true) (run_pick_t rfl e114 e128) rfl
    · intro a w hb hd
      have e129 : a.eval (.tmp 129) = .bool true := hd 129 (by decide)
      exact hop_runK (F := (StK.eq (.bool true)).F) (wanted_none rfl) _ (run_mv _ (.inl rfl) e129) rfl
    · intro a w hb hd
      have eg : a.eval (.tmp 130) = .bool true := hd 130 (by decide)
      have e15 : a.eval (.tmp 15) = .pointer (some ⟨g, 0, none⟩) := hd 15 (by decide)
      exact hop_runK (F := (StK.eq (.agg #[.string nm, .int .i64 (N0 : Int), .int .i64 (N1 : Int), .int .i64 (N2 : Int), .int .i64 (N3 : Int)])).F) (wanted_yes rfl rfl rfl eg) _ (run_ldAll _ _ rfl e15 (c12.step hb) Try.underlying41 rfl (by kernel_rfl)) rfl
    · intro a w hb hd
      have eg : a.eval (.tmp 130) = .bool true := hd 130 (by decide)
      have e16 : a.eval (.tmp 16) = .pointer (some ⟨p, 0, none⟩) := hd 16 (by decide)
      exact hop_runK (F := (StK.eq (.agg #[.int .i64 0, .string nm, .slice none 0 0, .int .u32 0, .int .u32 0, .int .u32 0, .int .u32 0, .int .u32 0, .int .u32 0, .int .u32 0, .int .u32 0, .int .u32 0, .int .u32 0, .int .u32 0, .int .u32 0, .int .u32 0, .int .u32 0, .int .u32 0, .int .u32 0, .slice none 0 0, .int .i64 0, .int .i64 0, .int .i64 (N0 : Int)])).F) (wanted_yes rfl rfl rfl eg) _ (run_ldAll _ _ rfl e16 (d12.step hb) Try.underlying28 rfl (by kernel_rfl)) rfl
    · intro a w hb hd
      have eg : a.eval (.tmp 130) = .bool true := hd 130 (by decide)
      have e15 : a.eval (.tmp 15) = .pointer (some ⟨g, 0, none⟩) := hd 15 (by decide)
      exact hop_runK (F := (StK.eq (.pointer (some ⟨g, 2, none⟩))).F) (wanted_yes rfl rfl rfl eg) _ (by unfold execOp; simp only [e15]; kernel_rfl) rfl
    · intro a w hb hd
      have eg : a.eval (.tmp 130) = .bool true := hd 130 (by decide)
      have e133 : a.eval (.tmp 133) = .pointer (some ⟨g, 2, none⟩) := hd 133 (by decide)
      exact hop_runK (F := (StK.eq (.int .i64 (N1 : Int))).F) (wanted_yes rfl rfl rfl eg) _ (run_ldCell _ _ rfl e133 Try.underlying3 rfl ((c12.step hb).cell (k := 2) rfl)) rfl
    · intro a w hb hd
      have eg : a.eval (.tmp 130) = .bool true := hd 130 (by decide)
      have e15 : a.eval (.tmp 15) = .pointer (some ⟨g, 0, none⟩) := hd 15 (by decide)
      exact hop_runK (F := (StK.eq (.pointer (some ⟨g, 3, none⟩))).F) (wanted_yes rfl rfl rfl eg) _ (by unfold execOp; simp only [e15]; kernel_rfl) rfl
    · intro a w hb hd
      have eg : a.eval (.tmp 130) = .bool true := hd 130 (by decide)
      have e135 : a.eval (.tmp 135) = .pointer (some ⟨g, 3, none⟩) := hd 135 (by decide)
      exact hop_runK (F := (StK.eq (.int .i64 (N2 : Int))).F) (wanted_yes rfl rfl rfl eg) _ (run_ldCell _ _ rfl e135 Try.underlying3 rfl ((c12.step hb).cell (k := 3) rfl)) rfl
    · intro a w hb hd
      have eg : a.eval (.tmp 130) = .bool true := hd 130 (by decide)
      have e136 : a.eval (.tmp 136) = .int .i64 (N2 : Int) := hd 136 (by decide)
      exact hop_runK (F := (StK.eq (.int .i64 E)).F) (wanted_yes rfl rfl rfl eg) _ (run_subI _ _ rfl e136 rfl hE.out EB.out.1 EB.out.2) rfl
    · intro a w hb hd
      have eg : a.eval (.tmp 130) = .bool true := hd 130 (by decide)
      have e5 : a.eval (.tmp 5) = .int .i64 a5 := hd 5 (by decide)
      exact hop_runK (F := (StK.eq (.int .i64 a5)).F) (wanted_yes rfl rfl rfl eg) _ (run_mv _ (.inl rfl) e5) rfl
    · intro a w hb hd
      have eg : a.eval (.tmp 130) = .bool true := hd 130 (by decide)
      have e131 : a.eval (.tmp 131) = .agg #[.string nm, .int .i64 (N0 : Int), .int .i64 (N1 : Int), .int .i64 (N2 : Int), .int .i64 (N3 : Int)] := hd 131 (by decide)
      have e132 : a.eval (.tmp 132) = .agg #[.int .i64 0, .string nm, .slice none 0 0, .int .u32 0, .int .u32 0, .int .u32 0, .int .u32 0, .int .u32 0, .int .u32 0, .int .u32 0, .int .u32 0, .int .u32 0, .int .u32 0, .int .u32 0, .int .u32 0, .int .u32 0, .int .u32 0, .int .u32 0, .int .u32 0, .slice none 0 0, .int .i64 0, .int .i64 0, .int .i64 (N0 : Int)] := hd 132 (by decide)
      have e134 : a.eval (.tmp 134) = .int .i64 (N1 : Int) := hd 134 (by decide)
      have e137 : a.eval (.tmp 137) = .int .i64 E := hd 137 (by decide)
      have e138 : a.eval (.tmp 138) = .int .i64 a5 := hd 138 (by decide)
      exact hop_callK (F := (StK.eq (.bool C2)).F) (wanted_yes rfl rfl rfl eg) hb.size rfl #[a.eval (.tmp 131), a.eval (.tmp 132), a.eval (.tmp 134), a.eval (.tmp 137), a.eval (.tmp 138)] (by first | (simp only [List.map_toArray, List.map_cons, List.map_nil]; done) | (simp only [List.map_toArray, List.map_cons, List.map_nil]; rfl)) (enters_of Try.func31 (by kernel_rfl) rfl) (by rw [e131]; rw [e132]; rw [e134]; rw [e137]; rw [e138]; exact call_eq (live_eq L7.out w))
    · intro a w hb hd
      have eg : a.eval (.tmp 130) = .bool true := hd 130 (by decide)
      have e5 : a.eval (.tmp 5) = .int .i64 a5 := hd 5 (by decide)
      exact hop_runK (F := (StK.eq (.int .i64 a5)).F) (wanted_yes rfl rfl rfl eg) _ (run_mv _ (.inl rfl) e5) rfl
    · intro a w hb hd
      have eg : a.eval (.tmp 130) = .bool true := hd 130 (by decide)
      have e15 : a.eval (.tmp 15) = .pointer (some ⟨g, 0, none⟩) := hd 15 (by decide)
      exact hop_runK (F := (StK.eq (.pointer (some ⟨g, 4, none⟩))).F) (wanted_yes rfl rfl rfl eg) _ (by unfold execOp; simp only [e15]; kernel_rfl) rfl
    · intro a w hb hd
      have eg : a.eval (.tmp 130) = .bool true := hd 130 (by decide)
      have e141 : a.eval (.tmp 141) = .pointer (some ⟨g, 4, none⟩) := hd 141 (by decide)
      exact hop_runK (F := (StK.eq (.int .i64 (N3 : Int))).F) (wanted_yes rfl rfl rfl eg) _ (run_ldCell _ _ rfl e141 Try.underlying3 rfl ((c12.step hb).cell (k := 4) rfl)) rfl
    · intro a w hb hd
      have eg : a.eval (.tmp 130) = .bool true := hd 130 (by decide)
      have e140 : a.eval (.tmp 140) = .int .i64 a5 := hd 140 (by decide)
      have e142 : a.eval (.tmp 142) = .int .i64 (N3 : Int) := hd 142 (by decide)
      exact hop_runK (F := (StK.eq (.bool C2)).F) (wanted_yes rfl rfl rfl eg) _ (run_eqI _ _ rfl e140 e142 (hC2.out)) rfl
    · intro a w hb hd
      have eg : a.eval (.tmp 130) = .bool true := hd 130 (by decide)
      have e139 : a.eval (.tmp 139) = .bool C2 := hd 139 (by decide)
      have e143 : a.eval (.tmp 143) = .bool C2 := hd 143 (by decide)
      exact hop_runK (F := (StK.eq (.bool true)).F) (wanted_yes rfl rfl rfl eg) _ (run_eqBool _ _ rfl e139 e143 (by cases C2 <;> rfl)) rfl
    · intro a w hb hd
      have e130 : a.eval (.tmp 130) = .bool true := hd 130 (by decide)
      have e144 : a.eval (.tmp 144) = .bool true := hd 144 (by decide)
      exact hop_runK (F := (StK.eq (.bool true)).F) (wanted_none rfl) (.bool true) (run_pick_t rfl e130 e144) rfl
    · intro a w hb hd
      have e145 : a.eval (.tmp 145) = .bool true := hd 145 (by decide)
      exact hop_runK (F := (StK.eq (.bool true)).F) (wanted_none rfl) _ (run_mv _ (.inr rfl) e145) rfl
    intro pw13 w13 bw13 hp
    obtain ⟨-, -, -, -, -, -, -, -, -, -, -, -, -, -, -, -, -, -, -, -, -, -, -, -, -, -, -, -, -, -, -, -, -, -, -, -, -, -, -, -, -, -, -, -, -, q45, -⟩ := hp
    have e45 : pw13 45 = .bool true := q45 (by decide)
    simp only [List.take_succ_cons, List.take_zero, List.drop_succ_cons, List.drop_zero, layAll, Act.put, List.setIfInBounds_toArray, List.set_cons_zero, List.set_cons_succ, Nat.zero_add, Nat.reduceAdd, e45]
    clear q45 e45
    go_wp2
    go_ret
    exact ⟨rfl, step_trans B12 bw13⟩
end Go.Proofs.Ytffoekgopooeaaa
