/- sentinellaw9.GuardBounds: the walk. -/
import Derived.Test.YtffoekgopooeaaaGdInts
namespace Go.Proofs.Ytffoekgopooeaaa
set_option linter.unusedVariables false
set_option linter.unusedSimpArgs false
open Go.ChangeShapes Go.WideShapes Go.ChangeAt Go.RowKit Go.Shelf
theorem tok_mono {n a now : Int} (h0 : 0 ≤ n) (h5 : n ≤ 5) (ha : 0 ≤ a) (hn : a ≤ now) : n ≤ tokN n a now ∧ tokN n a now ≤ 5 ∧ tokA n a now ≤ now ∧ a ≤ tokA n a now := by
  have w1 := tok_ways n a now
  omega
theorem quo3_rem5 {k : Int} (h : 0 ≤ k) : (k.tdiv 3).tmod 5 = k / 3 % 5 := by
  rw [Int.tdiv_eq_ediv_of_nonneg h, Int.tmod_eq_emod_of_nonneg (by omega)]
theorem run_ixI0 {a : Act} {w : World} {o : Oper} (x k : Operand) (ho : o.op = .indexAddr 31 x k) {b n c i : Nat} {z : Int} (hx : a.eval x = .slice (some ⟨b, 0, none⟩) n c) (hk : a.eval k = .int .i64 z) (hz : z = (i : Int)) (hi : i < n) : (execOp a.eval o).run Try.prog w = .ok (.value (.pointer (some ⟨b, i, none⟩))) w := by
  subst hz
  unfold execOp
  simp only [ho, hx, hk]
  have h0 : ¬ ((i : Int) < 0) := by omega
  have h1 : (i : Int) < (n : Int) := by omega
  simp [go_sem, h0, h1, hi]
theorem run_gtI {a : Act} {w : World} {o : Oper} (x y : Operand) (ho : o.op = .binOp .gtr 3 x y 3) {p q : Int} {b : Bool} (hx : a.eval x = .int .i64 p) (hy : a.eval y = .int .i64 q) (hb : decide (q < p) = b) : (execOp a.eval o).run Try.prog w = .ok (.value (.bool b)) w := by
  subst hb
  unfold execOp
  simp only [ho, hx, hy]
  simp [go_sem]
set_option maxRecDepth 100000 in
set_option maxHeartbeats 16000000 in
theorem GuardBounds_walk (A0 : Option Addr) (n0 cap0 : Nat) (x0 : Nat → Int) (w : World) (hr0 : RdI w A0 n0 x0) :
    Calls Try.prog 5 #[.slice A0 n0 cap0] w fun e w' => e = .returned (.bool true) ∧ Below w.heap.size w w' := by
  go_enter Try.func5, Try.ntmps5
  go_wp2_with fail
  refine (known_any _).mono ?_
  rintro e w1 ⟨rfl, b1⟩
  have hb50 := bucket_any 5 0 (by omega) (by omega) (by omega) (by omega)
  go_wp2_with fail
  refine (hb50 _).mono ?_
  rintro e w2 ⟨rfl, b2⟩
  clear hb50
  have B2 := step_trans b1 b2
  have z2 := Blk.new w2 28 #[.int .i64 0, .string ⟨#[]⟩, .slice none 0 0, .int .u32 0, .int .u32 0, .int .u32 0, .int .u32 0, .int .u32 0, .int .u32 0, .int .u32 0, .int .u32 0, .int .u32 0, .int .u32 0, .int .u32 0, .int .u32 0, .int .u32 0, .int .u32 0, .int .u32 0, .int .u32 0, .slice none 0 0, .int .i64 0, .int .i64 0, .int .i64 0]
  clear b1 b2
  obtain ⟨hm, hxb, hx⟩ := hr0
  unfold maxLen at hm
  go_upto_region 4 with (refine wpList_store_blk rfl _ (.tmp 3) _ rfl _ rfl _ rfl (by simp [recA, Value.oneCell']) _ z2 rfl size_rec ?_; intro w3 g3 c3)
  have B3 := step_trans B2 (step_new g3)
  obtain ⟨g, hg⟩ : ∃ g, g = w2.heap.size := ⟨_, rfl⟩
  have HGL : Hid (w.heap.size ≤ g) := hid (by rw [hg]; exact B2.size)
  rw [← hg] at c3 ⊢
  clear z2 g3 B2 hg
  obtain ⟨base, hbs⟩ : ∃ b, b = w3.heap.size := ⟨_, rfl⟩
  have hgb : g < base := by rw [hbs]; exact c3.lt
  have HBW : Hid (w.heap.size ≤ base) := hid (by rw [hbs]; exact B3.size)
  have hbase : base ≤ w3.heap.size := by rw [hbs]; exact Nat.le_refl _
  clear hbs
  go_wp2_with fail
  go_loopw [4, 5, 6, 7] (fun t va vb i wr => ∃ (q : Nat) (T n a : Int) (P S : List Int), q ≤ 80 ∧ q ≤ n0 ∧ i = .int .i64 (q : Int) ∧ t = .int .i64 T ∧ 0 ≤ n ∧ n ≤ 5 ∧ 0 ≤ a ∧ a ≤ T ∧ T ≤ 12 * (q : Int) ∧ P.length ≤ q ∧ Hid (Held P S T (lev n a T)) ∧ Row wr base va P ∧ Row wr base vb S ∧ Hid (∀ k, va.ownBlock = some k → vb.ownBlock ≠ some k) ∧ Blk wr g 28 (recA 1 ⟨#[117]⟩ n a 0) ∧ base ≤ wr.heap.size ∧ Below w.heap.size w wr) (fun _ _ _ i _ => 80 - (intOf i).toNat)
  case atStart => exact ⟨0, 0, 5, 0, [], [], by omega, by omega, rfl, rfl, by omega, by omega, by omega, by omega, by omega, by simp, hid (Held.nil _ _), Row.nil _ _, Row.nil _ _, hid (fun k h => by cases h), c3, hbase, B3⟩
  case round =>
    obtain ⟨q, T, n, a, P, S, hq80, hqn, rfl, rfl, n0', n5, a0', aT, hT, hPq, HH, ra, rb, AP, c, hbase, BB⟩ := hrel
    clear c3 B3
    by_cases hlt : q < n0 ∧ q < 80
    · obtain ⟨hl1, hl2⟩ := hlt
      obtain ⟨b, o, rfl, hbl, hcx⟩ := hx (by omega)
      have hcq := BB.cell (p := ⟨b, o + q, none⟩) (by simpa using hbl)
      rw [hcx q hl1] at hcq
      have hx0 := (hxb q).1
      have hx1 := (hxb q).2
      generalize x0 q = X at *
      clear hcx hx hxb
      have d1 : (q : Int) < (n0 : Int) := by omega
      have d2 : (q : Int) < 80 := by omega
      have HPL : Hid (P.length ≤ 1000000) := hid (by omega)
      have HSL : Hid (S.length ≤ 1000000) := hid (by rw [← HH.out.len]; omega)
      go_wp2_with fail
      obtain ⟨K, hK⟩ : ∃ x, Hid (X % 1048576 = x) := ⟨_, hid rfl⟩
      have K0 : 0 ≤ K ∧ K < 1048576 := by have := hK.out; omega
      refine (within_eq hK.out (by omega) (by omega) hx0 hx1 _).mono ?_
      rintro e w4 ⟨rfl, b4⟩
      replace ra := ra.step b4
      replace rb := rb.step b4
      replace c := c.step b4
      replace hbase := Nat.le_trans hbase b4.size
      replace BB := BB.trans (b4.mono BB.size)
      clear b4 hK hcq hx0 hx1
      obtain ⟨D, hD⟩ : ∃ x, K / 4 % 13 = x := ⟨_, rfl⟩
      have D0 : 0 ≤ D ∧ D < 13 := by omega
      obtain ⟨R, hR⟩ : ∃ x, K % 4 = x := ⟨_, rfl⟩
      obtain ⟨Q2, hQ2⟩ : ∃ x, K / 52 % 2 = x := ⟨_, rfl⟩
      obtain ⟨T2, hT2⟩ : ∃ x, T + D = x := ⟨_, rfl⟩
      have T20 : T ≤ T2 ∧ T2 ≤ 12 * ((q + 1 : Nat) : Int) := by omega
      have hgT : T2 < 9223372036854775808 := by omega
      have hT0 : 0 ≤ T2 := by omega
      have HH2 : Hid (Held P S T2 (lev n a T2)) := hid (HH.out.later T20.1 (lev_later T20.1))
      go_upto_region 11 with fail
      clear hT2 hD D0 HH
      by_cases hc : R = 3 ∧ Q2 = 0
      · obtain ⟨rfl, rfl⟩ := hc
        go_wp2_with (refine wpList_load_blk rfl _ (.tmp 3) rfl _ rfl _ _ _ c Try.underlying28 rfl size_rec ?_)
        refine (refund_any 1 ⟨#[117]⟩ n a 0 T2 n0' n5 a0' (by omega) hT0 hgT _).mono ?_
        rintro e w5 ⟨rfl, b5⟩
        have HL := lev_refund n0' n5 (show a ≤ T2 by omega)
        have hm := tok_mono n0' n5 a0' (show a ≤ T2 by omega)
        obtain ⟨n6, hn6⟩ : ∃ x, Hid (min (tokN n a T2 + 1) 5 = x) := ⟨_, hid rfl⟩
        obtain ⟨a6, ha6⟩ : ∃ x, Hid (tokA n a T2 = x) := ⟨_, hid rfl⟩
        have n60 : 0 ≤ n6 ∧ n6 ≤ 5 := by have := hn6.out; omega
        rw [hn6.out, ha6.out] at HL
        rw [ha6.out] at hm
        have a60 : 0 ≤ a6 ∧ a6 ≤ T2 := by omega
        rw [hn6.out, ha6.out]
        have HH3 : Hid (Held (P ++ [T2]) (S ++ [-1]) T2 (lev n6 a6 T2)) := hid (HH2.out.snoc (by omega) hT0 (by omega) (lev_bd n60.1 a60.2).1 (lev_bd n0' (by omega)).2)
        replace ra := ra.step b5
        replace rb := rb.step b5
        replace c := c.step b5
        replace hbase := Nat.le_trans hbase b5.size
        replace BB := BB.trans (b5.mono BB.size)
        clear b5 hn6 ha6 hm HL HH2
        go_upto_region 13 with (refine wpList_store_blk rfl _ (.tmp 3) _ rfl _ rfl _ rfl (by simp [recA, Value.oneCell']) _ c rfl size_rec ?_; intro ww gw cw; replace ra := ra.far gw (fun k hk e => by cases e; have := (ra.lt _ hk).1; omega); replace rb := rb.far gw (fun k hk e => by cases e; have := (rb.lt _ hk).1; omega); replace hbase := Nat.le_trans hbase gw.size; replace BB := below_of_grown BB gw BB.size HGL.out)
        clear c gw
        have c := cw
        clear cw
        have e1 := step_alloc ww (.cells #[Value.int .i64 T2] 3)
        have f1 : (ww.alloc (.cells #[Value.int .i64 T2] 3)).cell? ⟨ww.heap.size, 0, none⟩ = some (.int .i64 T2) := by simp
        have ra1 := ra.step e1
        have rb1 := rb.step e1
        have c1 := c.step e1
        have BB1 := BB.trans (e1.mono BB.size)
        have zb1 := Nat.le_trans hbase e1.size
        go_wp2_with (first | (refine wpList_append_int rfl (.tmp 49) (.tmp 51) rfl base u5 P T2 rfl ra1 _ rfl f1 HPL.out zb1 ?_; intro g2 k2 w2 ra2 b2 gr2 ow2 lt2; have rb2 := rb1.far gr2 (fun k hk e => AP.out k e.symm hk); have c2 := c1.below b2 hgb; have BB2 := BB1.trans (b2.mono HBW.out); have e3 := step_alloc w2 (.cells #[Value.int .i64 (-1)] 3); have f3 : (w2.alloc (.cells #[Value.int .i64 (-1)] 3)).cell? ⟨w2.heap.size, 0, none⟩ = some (.int .i64 (-1)) := (by simp); have ra3 := ra2.step e3; have rb3 := rb2.step e3; have c3 := c2.step e3; have BB3 := BB2.trans (e3.mono BB2.size); have zb3 : base ≤ (w2.alloc (.cells #[Value.int .i64 (-1)] 3)).heap.size := Nat.le_trans (Nat.le_trans zb1 b2.size) e3.size; have AP2 : Hid (∀ k, u6.ownBlock = some k → k ≠ g2) := hid (fun k hk e => by subst e; rcases ow2 with h | h; exact AP.out k h hk; have := (rb1.lt k hk).2; omega)) | (refine wpList_append_int rfl (.tmp 53) (.tmp 54) rfl base u6 S (-1) rfl rb3 _ rfl f3 HSL.out zb3 ?_; intro g4 k4 w4 rb4 b4 gr4 ow4 lt4; have ra4 := ra3.far gr4 (fun k hk e => AP2.out k e.symm (by cases hk; rfl)); have c4 := c3.below b4 hgb; have BB4 := BB3.trans (b4.mono HBW.out); have AP4 : Hid (∀ k, (Value.slice (some ⟨g2, 0, none⟩) (P.length + 1) k2).ownBlock = some k → (Value.slice (some ⟨g4, 0, none⟩) (S.length + 1) k4).ownBlock ≠ some k) := hid (fun k h1 h2 => by have e1 : k = g2 := (by cases h1; rfl); have e2 : k = g4 := (by cases h2; rfl); rcases ow4 with h | h; exact AP2.out g4 h (e2.symm.trans e1); have := (ra3.lt g2 rfl).2; omega)))
        have zb4 : base ≤ w4.heap.size := Nat.le_trans zb3 b4.size
        clear e1 f1 ra1 rb1 c1 BB1 zb1 ra2 b2 gr2 ow2 lt2 rb2 c2 BB2 e3 f3 ra3 rb3 c3 BB3 zb3 AP2 b4 gr4 ow4 lt4 ra rb c BB hbase
        go_roundw
        case rel => exact ⟨q + 1, T2, n6, a6, P ++ [T2], S ++ [-1], by omega, by omega, by go_num, rfl, n60.1, n60.2, a60.1, a60.2, T20.2, by simp; omega, HH3, ra4, rb4, AP4, c4, zb4, BB4⟩
        case measure => simp [intOf] <;> omega
      · have hd : ¬ R = 3 ∨ (R = 3 ∧ ¬ Q2 = 0) := by omega
        have HRR : Hid (0 ≤ R ∧ R < 4) := hid (by omega)
        clear hc
        rcases hd with hd | ⟨rfl, hd⟩
        all_goals
          replace hd := beq_eq_false_iff_ne.2 hd
          go_wp2_with (refine wpList_load_blk rfl _ (.tmp 3) rfl _ rfl _ _ _ c Try.underlying28 rfl size_rec ?_)
          by_cases hz : tokN n a T2 = 0
          · refine (charge_none 1 ⟨#[117]⟩ n a 0 T2 n0' n5 a0' (by omega) hT0 hgT hz _).mono ?_
            rintro e w5 ⟨rfl, b5⟩
            replace ra := ra.step b5
            replace rb := rb.step b5
            replace c := c.step b5
            replace hbase := Nat.le_trans hbase b5.size
            replace BB := BB.trans (b5.mono BB.size)
            have z5 := Blk.new w5 28 #[.int .i64 0, .string ⟨#[]⟩, .slice none 0 0, .int .u32 0, .int .u32 0, .int .u32 0, .int .u32 0, .int .u32 0, .int .u32 0, .int .u32 0, .int .u32 0, .int .u32 0, .int .u32 0, .int .u32 0, .int .u32 0, .int .u32 0, .int .u32 0, .int .u32 0, .int .u32 0, .slice none 0 0, .int .i64 0, .int .i64 0, .int .i64 0]
            clear b5 hz
            go_wp2_with (refine wpList_store_blk rfl _ (.tmp 9) _ rfl _ rfl _ rfl (by simp [recA, Value.oneCell']) _ z5 rfl size_rec ?_; intro ww gw cw; replace ra := ra.step (step_new gw); replace rb := rb.step (step_new gw); replace c := c.step (step_new gw); replace hbase := Nat.le_trans hbase (step_new gw).size; replace BB := BB.trans ((step_new gw).mono BB.size))
            go_roundw
            case rel => exact ⟨q + 1, T2, n, a, P, S, by omega, by omega, by go_num, rfl, n0', n5, a0', by omega, T20.2, by omega, HH2, ra, rb, AP, c, hbase, BB⟩
            case measure => simp [intOf] <;> omega
          · refine (charge_some 1 ⟨#[117]⟩ n a 0 T2 n0' n5 a0' (by omega) hT0 hgT hz _).mono ?_
            rintro e w5 ⟨rfl, b5⟩
            have HL := lev_charge n0' n5 (show a ≤ T2 by omega) hz
            have hm := tok_mono n0' n5 a0' (show a ≤ T2 by omega)
            obtain ⟨n6, hn6⟩ : ∃ x, Hid (tokN n a T2 - 1 = x) := ⟨_, hid rfl⟩
            obtain ⟨a6, ha6⟩ : ∃ x, Hid (tokA n a T2 = x) := ⟨_, hid rfl⟩
            have n60 : 0 ≤ n6 ∧ n6 ≤ 5 := by have := hn6.out; omega
            rw [hn6.out, ha6.out] at HL
            rw [ha6.out] at hm
            have a60 : 0 ≤ a6 ∧ a6 ≤ T2 := by omega
            rw [hn6.out, ha6.out]
            have HH3 : Hid (Held (P ++ [T2]) (S ++ [1]) T2 (lev n6 a6 T2)) := hid (HH2.out.snoc (by omega) hT0 (by omega) (lev_bd n60.1 a60.2).1 (lev_bd n0' (by omega)).2)
            replace ra := ra.step b5
            replace rb := rb.step b5
            replace c := c.step b5
            replace hbase := Nat.le_trans hbase b5.size
            replace BB := BB.trans (b5.mono BB.size)
            have z5 := Blk.new w5 28 #[.int .i64 0, .string ⟨#[]⟩, .slice none 0 0, .int .u32 0, .int .u32 0, .int .u32 0, .int .u32 0, .int .u32 0, .int .u32 0, .int .u32 0, .int .u32 0, .int .u32 0, .int .u32 0, .int .u32 0, .int .u32 0, .int .u32 0, .int .u32 0, .int .u32 0, .int .u32 0, .slice none 0 0, .int .i64 0, .int .i64 0, .int .i64 0]
            have hgz : g < w5.heap.size := c.lt
            clear b5 hz hn6 ha6 hm HL HH2
            go_upto_region 17 with (first | (refine wpList_store_blk rfl _ (.tmp 9) _ rfl _ rfl _ rfl (by simp [recA, Value.oneCell']) _ z5 rfl size_rec ?_; intro wv gv cv; replace ra := ra.step (step_new gv); replace rb := rb.step (step_new gv); replace c := c.step (step_new gv); replace hbase := Nat.le_trans hbase (step_new gv).size; replace BB := BB.trans ((step_new gv).mono BB.size)) | (refine wpList_load_blk rfl _ (.tmp 9) rfl _ rfl _ _ _ cv Try.underlying28 rfl size_rec ?_) | (refine wpList_store_blk rfl _ (.tmp 3) _ rfl _ rfl _ rfl (by simp [recA, Value.oneCell']) _ c rfl size_rec ?_; intro ww gw cw; replace ra := ra.far gw (fun k hk e => by cases e; have := (ra.lt _ hk).1; omega); replace rb := rb.far gw (fun k hk e => by cases e; have := (rb.lt _ hk).1; omega); replace hbase := Nat.le_trans hbase gw.size; replace BB := below_of_grown BB gw BB.size HGL.out))
            clear c gw cv gv z5
            have c := cw
            clear cw
            have e1 := step_alloc ww (.cells #[Value.int .i64 T2] 3)
            have f1 : (ww.alloc (.cells #[Value.int .i64 T2] 3)).cell? ⟨ww.heap.size, 0, none⟩ = some (.int .i64 T2) := by simp
            have ra1 := ra.step e1
            have rb1 := rb.step e1
            have c1 := c.step e1
            have BB1 := BB.trans (e1.mono BB.size)
            have zb1 := Nat.le_trans hbase e1.size
            go_wp2_with (first | (refine wpList_append_int rfl (.tmp 64) (.tmp 66) rfl base u5 P T2 rfl ra1 _ rfl f1 HPL.out zb1 ?_; intro g2 k2 w2 ra2 b2 gr2 ow2 lt2; have rb2 := rb1.far gr2 (fun k hk e => AP.out k e.symm hk); have c2 := c1.below b2 hgb; have BB2 := BB1.trans (b2.mono HBW.out); have e3 := step_alloc w2 (.cells #[Value.int .i64 (1)] 3); have f3 : (w2.alloc (.cells #[Value.int .i64 (1)] 3)).cell? ⟨w2.heap.size, 0, none⟩ = some (.int .i64 (1)) := (by simp); have ra3 := ra2.step e3; have rb3 := rb2.step e3; have c3 := c2.step e3; have BB3 := BB2.trans (e3.mono BB2.size); have zb3 : base ≤ (w2.alloc (.cells #[Value.int .i64 (1)] 3)).heap.size := Nat.le_trans (Nat.le_trans zb1 b2.size) e3.size; have AP2 : Hid (∀ k, u6.ownBlock = some k → k ≠ g2) := hid (fun k hk e => by subst e; rcases ow2 with h | h; exact AP.out k h hk; have := (rb1.lt k hk).2; omega)) | (refine wpList_append_int rfl (.tmp 68) (.tmp 69) rfl base u6 S (1) rfl rb3 _ rfl f3 HSL.out zb3 ?_; intro g4 k4 w4 rb4 b4 gr4 ow4 lt4; have ra4 := ra3.far gr4 (fun k hk e => AP2.out k e.symm (by cases hk; rfl)); have c4 := c3.below b4 hgb; have BB4 := BB3.trans (b4.mono HBW.out); have AP4 : Hid (∀ k, (Value.slice (some ⟨g2, 0, none⟩) (P.length + 1) k2).ownBlock = some k → (Value.slice (some ⟨g4, 0, none⟩) (S.length + 1) k4).ownBlock ≠ some k) := hid (fun k h1 h2 => by have e1 : k = g2 := (by cases h1; rfl); have e2 : k = g4 := (by cases h2; rfl); rcases ow4 with h | h; exact AP2.out g4 h (e2.symm.trans e1); have := (ra3.lt g2 rfl).2; omega)))
            have zb4 : base ≤ w4.heap.size := Nat.le_trans zb3 b4.size
            clear e1 f1 ra1 rb1 c1 BB1 zb1 ra2 b2 gr2 ow2 lt2 rb2 c2 BB2 e3 f3 ra3 rb3 c3 BB3 zb3 AP2 b4 gr4 ow4 lt4 ra rb c BB hbase
            go_roundw
            case rel => exact ⟨q + 1, T2, n6, a6, P ++ [T2], S ++ [1], by omega, by omega, by go_num, rfl, n60.1, n60.2, a60.1, a60.2, T20.2, by simp; omega, HH3, ra4, rb4, AP4, c4, zb4, BB4⟩
            case measure => simp [intOf] <;> omega
    · have hd : ¬ (q : Int) < (n0 : Int) ∨ ((q : Int) < (n0 : Int) ∧ ¬ (q : Int) < 80) := by omega
      obtain ⟨W0, rfl⟩ : ∃ W, W = wr := ⟨_, rfl⟩
      obtain ⟨A, cA, rfl, cA1, cA2, hA⟩ := ra.at
      obtain ⟨B, cB, rfl, cB1, cB2, hB⟩ := rb.at
      have hlen := HH.out.len
      obtain ⟨m, hmP⟩ : ∃ m, P.length = m := ⟨_, rfl⟩
      rw [hmP] at hlen hPq hA cA1 ⊢
      rw [← hlen] at hB cB1 ⊢
      have HM : Hid (P.length = m ∧ S.length = m) := hid ⟨hmP, hlen.symm⟩
      have hm80 : m ≤ 80 := by omega
      have HA := hid hA
      have HB := hid hB
      have HCA := hid cA2
      have HCB := hid cB2
      clear hlt hmP hlen ra rb AP c hx hxb hA hB cA2 cB2
      rcases hd with hd | ⟨hd1, hd⟩
      all_goals
        go_wp2_with fail
        clear hd
        try clear hd1
        go_loopw [11] (fun i wq => ∃ (j : Nat), j ≤ m ∧ i = .int .i64 (j : Int) ∧ Below W0.heap.size W0 wq) (fun i _ => 100 - (intOf i).toNat)
        case atStart => exact ⟨0, by omega, rfl, Below.refl _ _⟩
        case round =>
          obtain ⟨j, hjm, rfl, hBj⟩ := hrel
          by_cases hlt : j < m
          · have dj : (j : Int) < (m : Int) := by omega
            obtain ⟨gA, rfl, lA, hcA⟩ := HA.out (by omega)
            obtain ⟨gB, rfl, lB, hcB⟩ := HB.out (by omega)
            obtain ⟨p, hp⟩ : ∃ p, P[j]? = some p := ⟨_, List.getElem?_eq_getElem (by rw [HM.out.1]; exact hlt)⟩
            have kp := hcA j p hp
            unfold iv at kp
            have HP0 := hid hp
            have hcA' := hid hcA
            have hcB' := hid hcB
            clear hp hcA hcB
            go_wp2_with fail
            go_loopw [12, 13] (fun s i wq => ∃ (k : Nat) (Z : Int), j ≤ k ∧ k ≤ m ∧ i = .int .i64 (k : Int) ∧ s = .int .i64 Z ∧ Hid (Z = preS S k - preS S j) ∧ Below W0.heap.size W0 wq) (fun _ i _ => 100 - (intOf i).toNat)
            case atStart => exact ⟨j, 0, Nat.le_refl _, hjm, rfl, rfl, hid (by omega), hBj⟩
            case round =>
              obtain ⟨k, Z, hjk, hkm, rfl, rfl, HZ, hBk⟩ := hrel
              by_cases hltk : k < m
              · have dk : (k : Int) < (m : Int) := by omega
                obtain ⟨r, hr⟩ : ∃ p, P[k]? = some p := ⟨_, List.getElem?_eq_getElem (by rw [HM.out.1]; exact hltk)⟩
                obtain ⟨z, hz⟩ : ∃ p, S[k]? = some p := ⟨_, List.getElem?_eq_getElem (by rw [HM.out.2]; exact hltk)⟩
                have kr := hcA'.out k r hr
                have kz := hcB'.out k z hz
                unfold iv at kr kz
                have hZ1 : Hid (Z + z = preS S (k + 1) - preS S j) := hid (by rw [preS_succ hz]; have := HZ.out; omega)
                obtain ⟨Y, hY⟩ : ∃ Y, Z + z = Y := ⟨_, rfl⟩
                rw [hY] at hZ1
                have u := HH.out.up j k p r hjk HP0.out hr
                have v := HH.out.old j k p r hjk HP0.out hr
                rw [← hZ1.out] at v
                have b1 := preS_bd HH.out.one (k + 1) (by rw [HM.out.2]; omega)
                have b2 := preS_bd HH.out.one j (by rw [HM.out.2]; omega)
                have bY : Hid (-1000 ≤ Y ∧ Y ≤ 1000) := hid (by have := hZ1.out; omega)
                have bT : Hid (0 ≤ p ∧ p ≤ r ∧ r ≤ 2000) := hid (by omega)
                obtain ⟨F, hF⟩ : ∃ F, Hid (5 + (r - p + 10) / 10 = F) := ⟨_, hid rfl⟩
                have hG : Hid (decide (F < Y) = false) := hid (decide_eq_false (by have := hF.out; omega))
                have bY0 : -9223372036854775808 ≤ Y ∧ Y < 9223372036854775808 := by have := bY.out; omega
                have HYY := hid hY
                have kz' : wr.cell? ⟨gB, k, none⟩ = some (.int .i64 z) := by rw [hBk.cell (p := ⟨gB, k, none⟩) lB]; exact kz
                have kr' : wr.cell? ⟨gA, k, none⟩ = some (.int .i64 r) := by rw [hBk.cell (p := ⟨gA, k, none⟩) lA]; exact kr
                have kp' : wr.cell? ⟨gA, j, none⟩ = some (.int .i64 p) := by rw [hBk.cell (p := ⟨gA, j, none⟩) lA]; exact kp
                have lA' : gA < wr.heap.size := Nat.lt_of_lt_of_le lA hBk.size
                clear u v b1 b2 hr hz kr kz
                go_upto_region 26 with fail
                clear hY bY0
                skip
                refine wp_region_stT [StK.eq (.int .i64 Y), StK.eq (.slice (some ⟨gA, 0, none⟩) m cA), StK.eq (.int .i64 (k : Int)), StK.eq (.pointer (some ⟨gA, k, none⟩)), StK.eq (.int .i64 r), StK.eq (.slice (some ⟨gA, 0, none⟩) m cA), StK.eq (.int .i64 (j : Int)), StK.eq (.pointer (some ⟨gA, j, none⟩)), StK.eq (.int .i64 p), StK.eq (.int .i64 (r - p)), StK.eq (.int .i64 (r - p + 10)), StK.eq (.int .i64 ((r - p + 10) / 10)), StK.eq (.int .i64 F), StK.eq (.bool false)] 14 104 rfl (by kernel_rfl) (by kernel_rfl) ⟨?_, ?_, ?_, ?_, ?_, ?_, ?_, ?_, ?_, ?_, ?_, ?_, ?_, ?_, trivial⟩ ?_
                · intro a w hb hd
                  have e12 : a.eval (.tmp 12) = .int .i64 Y := hd 12 (by decide)
                  exact hop_runK (F := (StK.eq (.int .i64 Y)).F) (wanted_none rfl) _ (run_mv _ (.inl rfl) e12) rfl
                · intro a w hb hd
                  have e5 : a.eval (.tmp 5) = .slice (some ⟨gA, 0, none⟩) m cA := hd 5 (by decide)
                  exact hop_runK (F := (StK.eq (.slice (some ⟨gA, 0, none⟩) m cA)).F) (wanted_none rfl) _ (run_mv _ (.inl rfl) e5) rfl
                · intro a w hb hd
                  have e13 : a.eval (.tmp 13) = .int .i64 (k : Int) := hd 13 (by decide)
                  exact hop_runK (F := (StK.eq (.int .i64 (k : Int))).F) (wanted_none rfl) _ (run_mv _ (.inl rfl) e13) rfl
                · intro a w hb hd
                  have e91 : a.eval (.tmp 91) = .slice (some ⟨gA, 0, none⟩) m cA := hd 91 (by decide)
                  have e92 : a.eval (.tmp 92) = .int .i64 (k : Int) := hd 92 (by decide)
                  exact hop_runK (F := (StK.eq (.pointer (some ⟨gA, k, none⟩))).F) (wanted_none rfl) _ (run_ixI0 _ _ rfl e91 e92 rfl hltk) rfl
                · intro a w hb hd
                  have e93 : a.eval (.tmp 93) = .pointer (some ⟨gA, k, none⟩) := hd 93 (by decide)
                  exact hop_runK (F := (StK.eq (.int .i64 r)).F) (wanted_none rfl) _ (run_ldCell _ _ rfl e93 Try.underlying3 rfl (by rw [hb.cell (p := ⟨gA, k, none⟩) lA']; exact kr')) rfl
                · intro a w hb hd
                  have e5 : a.eval (.tmp 5) = .slice (some ⟨gA, 0, none⟩) m cA := hd 5 (by decide)
                  exact hop_runK (F := (StK.eq (.slice (some ⟨gA, 0, none⟩) m cA)).F) (wanted_none rfl) _ (run_mv _ (.inl rfl) e5) rfl
                · intro a w hb hd
                  have e11 : a.eval (.tmp 11) = .int .i64 (j : Int) := hd 11 (by decide)
                  exact hop_runK (F := (StK.eq (.int .i64 (j : Int))).F) (wanted_none rfl) _ (run_mv _ (.inl rfl) e11) rfl
                · intro a w hb hd
                  have e95 : a.eval (.tmp 95) = .slice (some ⟨gA, 0, none⟩) m cA := hd 95 (by decide)
                  have e96 : a.eval (.tmp 96) = .int .i64 (j : Int) := hd 96 (by decide)
                  exact hop_runK (F := (StK.eq (.pointer (some ⟨gA, j, none⟩))).F) (wanted_none rfl) _ (run_ixI0 _ _ rfl e95 e96 rfl hlt) rfl
                · intro a w hb hd
                  have e97 : a.eval (.tmp 97) = .pointer (some ⟨gA, j, none⟩) := hd 97 (by decide)
                  exact hop_runK (F := (StK.eq (.int .i64 p)).F) (wanted_none rfl) _ (run_ldCell _ _ rfl e97 Try.underlying3 rfl (by rw [hb.cell (p := ⟨gA, j, none⟩) lA']; exact kp')) rfl
                · intro a w hb hd
                  have e94 : a.eval (.tmp 94) = .int .i64 r := hd 94 (by decide)
                  have e98 : a.eval (.tmp 98) = .int .i64 p := hd 98 (by decide)
                  exact hop_runK (F := (StK.eq (.int .i64 (r - p))).F) (wanted_none rfl) _ (run_subI _ _ rfl e94 e98 rfl (by have := bT.out; omega) (by have := bT.out; omega)) rfl
                · intro a w hb hd
                  have e99 : a.eval (.tmp 99) = .int .i64 (r - p) := hd 99 (by decide)
                  exact hop_runK (F := (StK.eq (.int .i64 (r - p + 10))).F) (wanted_none rfl) _ (run_addI _ _ rfl e99 rfl rfl (by have := bT.out; omega) (by have := bT.out; omega)) rfl
                · intro a w hb hd
                  have e100 : a.eval (.tmp 100) = .int .i64 (r - p + 10) := hd 100 (by decide)
                  exact hop_runK (F := (StK.eq (.int .i64 ((r - p + 10) / 10))).F) (wanted_none rfl) _ (run_quo10 _ _ rfl e100 rfl rfl (by have := bT.out; omega) (by have := bT.out; omega)) rfl
                · intro a w hb hd
                  have e101 : a.eval (.tmp 101) = .int .i64 ((r - p + 10) / 10) := hd 101 (by decide)
                  exact hop_runK (F := (StK.eq (.int .i64 F)).F) (wanted_none rfl) _ (run_addI _ _ rfl rfl e101 hF.out (by have := hF.out; have := bT.out; omega) (by have := hF.out; have := bT.out; omega)) rfl
                · intro a w hb hd
                  have e90 : a.eval (.tmp 90) = .int .i64 Y := hd 90 (by decide)
                  have e102 : a.eval (.tmp 102) = .int .i64 F := hd 102 (by decide)
                  exact hop_runK (F := (StK.eq (.bool false)).F) (wanted_none rfl) _ (run_gtI _ _ rfl e90 e102 hG.out) rfl
                intro pwz wz bwz hp
                obtain ⟨-, -, -, -, -, -, -, -, -, -, -, -, -, q13, -⟩ := hp
                have e13 : pwz 13 = .bool false := q13 (by decide)
                simp only [List.take_succ_cons, List.take_zero, List.drop_succ_cons, List.drop_zero, layAll, Act.put, List.setIfInBounds_toArray, List.set_cons_zero, List.set_cons_succ, Nat.zero_add, Nat.reduceAdd, e13]
                clear q13 e13
                have hBz := hBk.trans (bwz.mono hBk.size)
                clear bwz hBk
                go_wp2_with fail
                go_roundw
                case rel => exact ⟨k + 1, Y, by omega, by omega, by go_num, rfl, hZ1, hBz⟩
                case measure => simp [intOf]; omega
              · obtain rfl : k = m := by omega
                have dk : ¬ (k : Int) < (k : Int) := by omega
                go_wp2_with fail
                go_roundw
                case rel => exact ⟨j + 1, by omega, by go_num, hBk⟩
                case measure => simp [intOf]; omega
          · obtain rfl : j = m := by omega
            have dj : ¬ (j : Int) < (j : Int) := by omega
            go_wp2_with fail
            go_ret
            exact ⟨rfl, BB.trans (hBj.mono BB.size)⟩
end Go.Proofs.Ytffoekgopooeaaa
