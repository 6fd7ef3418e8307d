/- sentinellaw3.SpongeBlocks: the walk. -/
import Derived.Test.YtajombnckgehbaaSParts
namespace Go.Proofs.Ytajombnckgehbaa
set_option linter.unusedVariables false
set_option linter.unusedSimpArgs false
open Go.ChangeShapes Go.WideShapes Go.ChangeAt Go.RowKit Go.Shelf
theorem info_sl : ∃ i, Try.prog.info? 29 = some i ∧ i.zero = some (.slice none 0 0) ∧ i.size = 1 := by
  have h0 : (Try.prog.info? 29).isSome = true := by kernel_rfl
  have h1 : (Try.prog.info? 29).map (·.size) = some 1 := by kernel_rfl
  have h2 : (Try.prog.info? 29).bind (·.zero) = some (.slice none 0 0) := by kernel_rfl
  cases h : Try.prog.info? 29 with
  | none => rw [h] at h0; cases h0
  | some i =>
    rw [h] at h1 h2
    exact ⟨i, rfl, h2, Option.some.inj h1⟩
theorem Kc.cell {B : Nat} {w w' : World} (k : Kc B w w') {b o : Nat} {v : Value} (h : w.cell? ⟨b, o, none⟩ = some v) : w'.cell? ⟨b, o, none⟩ = some v := by
  cases hw : w.heap[b]? with
  | none => simp [World.cell?, hw] at h
  | some ob =>
    cases ob with
    | cells cs t fr =>
      obtain ⟨fr', h2⟩ := k.kept b cs t fr hw
      simp only [World.cell?, hw] at h
      simp only [World.cell?, h2]
      exact h
    | _ => simp [World.cell?, hw] at h
theorem Kc.prd {B : Nat} {w w' : World} {A : Option Addr} {L : List (List UInt8)} (k : Kc B w w') (h : PRd w A L) : PRd w' A L := fun hl => by
  obtain ⟨b, o, e, h1, h3⟩ := h hl
  refine ⟨b, o, e, Nat.lt_of_lt_of_le h1 k.below.size, fun j l hj => ?_⟩
  obtain ⟨A', c', q1, q2, q3, q4, q5⟩ := h3 j l hj
  exact ⟨A', c', k.cell q1, q2, q3, q4, k.rd q5⟩
/-- A slice of one part. -/
def StK.part (l : List UInt8) : StK := ⟨fun w v => ∃ g, v = .slice (some ⟨g, 0, none⟩) 1 1 ∧ PRd w (some ⟨g, 0, none⟩) [l], fun _ _ _ _ hb h => by
  obtain ⟨g, h1, h2⟩ := h
  exact ⟨g, h1, hb.prd h2⟩⟩
theorem hop_part {ops : Array Oper} {Q : Exit → Act → World → Prop} {a : Act} {w : World} {o : Oper} {B : Nat} (hw : Region.wanted o (yielded ops a.tmps) = true) (hB : B ≤ w.heap.size) (x : Operand) (ho : o.op = .buildSlice 39 1 #[(0, x)]) {l : List UInt8} {A : Option Addr} {n c : Nat} (hx : a.eval x = .slice A n c) (hn : l.length = n) (h1 : n ≤ c) (h2 : c ≤ maxLen) (h3 : A = none → c = 0) (hR : Rd w A l) :
    if Region.wanted o (yielded ops a.tmps) = true then o.wp Try.prog a w (fun a' w' => ∃ v, a' = a.put o.dst v ∧ Kc B w w' ∧ (StK.part l).F w' v) Q else (StK.part l).F w undef := by
  obtain ⟨i, i1, i2, i3⟩ := info_sl
  refine hop_growK (F := (StK.part l).F) hw (.slice (some ⟨w.heap.size, 0, none⟩) 1 1) (w1 := w.alloc (.cells #[.slice A n c] 29)) ?_ (Kc.of_below hB (step_alloc w _)) ⟨w.heap.size, rfl, prd_one hn h1 h2 h3 hR⟩
  unfold execOp
  have hf : Instr.fill (fun i => some (i * 1, 1)) ((Array.range (1 * 1)).map ((Value.slice none 0 0).cells[· % (Value.slice none 0 0).cells.size]!)) (#[(0, x)].map fun (i, x) => (i, a.eval x)).toList = some #[.slice A n c] := by
    simp only [List.map_toArray, List.map_cons, List.map_nil, hx]
    kernel_rfl
  simp only [ho, Sem.run_bind, run_buildSlice w 39 29 1 _ #[.slice A n c] i (.slice none 0 0) Try.underlying39 i1 i2 (by rw [i3]; omega) (by rw [i3]; omega) (by rw [i3]; exact hf), Result.andThen_ok, Sem.run_pure]
/-- A new slice of K bytes. -/
def St.own (B K : Nat) : St := ⟨fun w v => ∃ g l, v = .slice (some ⟨g, 0, none⟩) K K ∧ l.length = K ∧ Bts w g 5 l ∧ B ≤ g, fun _ _ _ hb h => by
  obtain ⟨g, l, h1, h2, h3, h4⟩ := h
  exact ⟨g, l, h1, h2, h3.step hb, h4⟩⟩
theorem made_bts (K : Nat) (w : World) : Bts (w.alloc (.cells (madeCells #[.int .u8 0] K) 5)) w.heap.size 5 (List.replicate K 0) := by
  refine bts_of_row (World.rowIs_made w (.int .u8 0) K 5) (by simp) fun j b hj => ?_
  rw [List.getElem?_replicate] at hj
  split at hj
  · obtain rfl := Option.some.inj hj; rfl
  · cases hj
theorem run_make {a : Act} {w : World} {o : Oper} (x : Operand) (ho : o.op = .makeSlice 29 x x) {K : Nat} (hK : K ≤ 1000) (hx : a.eval x = .int .i64 (K : Int)) : (execOp a.eval o).run Try.prog w = .ok (.value (.slice (some ⟨w.heap.size, 0, none⟩) K K)) (w.alloc (.cells (madeCells #[.int .u8 0] K) 5)) := by
  unfold execOp
  simp only [ho, hx]
  simp [make_zeros K hK w, go_sem]
theorem both_set {w0 wr : World} {N g1 g2 K M j : Nat} {lk lm : List UInt8} {E : Int} (hj : j < M) (h1 : lk.length = K) (h2 : lm.length = M) (hk : Bts wr g1 5 lk) (hm : Bts wr g2 5 lm) (hB : Below N w0 wr) (hg : N ≤ g2) (e0 : 0 ≤ E) (e1 : E < 256) :
    ∃ lk' lm' : List UInt8, lk'.length = K ∧ lm'.length = M ∧ Bts (wr.setCell ⟨g2, j, none⟩ (.int .u8 E)) g1 5 lk' ∧ Bts (wr.setCell ⟨g2, j, none⟩ (.int .u8 E)) g2 5 lm' ∧ Below N w0 (wr.setCell ⟨g2, j, none⟩ (.int .u8 E)) := by
  obtain ⟨b, hb⟩ : ∃ b : UInt8, bv b = .int .u8 E := ⟨UInt8.ofNat E.toNat, by unfold bv; congr 1; simp; omega⟩
  rw [← hb]
  have hset : ∀ {l : List UInt8}, Bts wr g2 5 l → Bts (wr.setCell ⟨g2, j, none⟩ (bv b)) g2 5 (l.set j b) := fun {l} h => by
    exact Blk.set (show Blk wr g2 5 (bvs l) from h) j (bv b) (by simp [bvs, List.map_set])
  have hB' : Below N w0 (wr.setCell ⟨g2, j, none⟩ (bv b)) := hB.setCell (p := ⟨g2, j, none⟩) hg _
  by_cases e : g1 = g2
  · subst e
    exact ⟨lk.set j b, lm.set j b, by simpa using h1, by simpa using h2, hset hk, hset hm, hB'⟩
  · exact ⟨lk, lm.set j b, h1, by simpa using h2, hk.far (a := ⟨g2, j, none⟩) e _, hset hm, hB'⟩
theorem Bts.frozenF {w : World} {g : Nat} {t : TypeId} {l : List UInt8} (h : Bts w g t l) (k : Nat) : w.frozen? ⟨g, k, none⟩ = false := h.frozen k
theorem feed_idem (s : W8) (l : List UInt8) : feed s l = feed (feed s l).1 (feed s l).2 := by
  have := feed_append s l []
  rwa [List.append_nil, List.append_nil] at this
set_option maxRecDepth 100000 in
set_option maxHeartbeats 16000000 in
theorem SpongeBlocks_walk (a0 : Int) (hk0 : -9223372036854775808 ≤ a0) (hl0 : a0 < 9223372036854775808)
    (a1 : Int) (hk1 : -9223372036854775808 ≤ a1) (hl1 : a1 < 9223372036854775808)
    (a2 : Int) (hk2 : 0 ≤ a2) (hl2 : a2 < 256) (w : World)  :
    Calls Try.prog 11 #[.int .i64 a0, .int .i64 a1, .int .u8 a2] w fun e w' => e = .returned (.bool true) ∧ Below w.heap.size w w' := by
  go_enter Try.func11, Try.ntmps11
  go_wp2_with fail
  refine (known_any _).mono ?_
  rintro e w1 ⟨rfl, b1⟩
  obtain ⟨K, hK⟩ : ∃ K : Nat, Hid (a0 % 40 = (K : Int)) := ⟨(a0 % 40).toNat, hid (by omega)⟩
  obtain ⟨M, hM⟩ : ∃ M : Nat, Hid (a1 % 70 = (M : Int)) := ⟨(a1 % 70).toNat, hid (by omega)⟩
  have hK4 : K < 40 := by have := hK.out; omega
  have hM7 : M < 70 := by have := hM.out; omega
  go_upto_region 3 with (fail)
  refine wp_region_st [St.eq (.int .i64 a0), St.eq (.int .i64 (K : Int)), St.own w1.heap.size K, St.eq (.int .i64 a1), St.eq (.int .i64 (M : Int)), St.own w1.heap.size M, St.own w1.heap.size K, St.own w1.heap.size M] 66 rfl (by kernel_rfl) (by kernel_rfl) ⟨?_, ?_, ?_, ?_, ?_, ?_, ?_, ?_, trivial⟩ ?_
  · intro a w hb hd
    have e0 : a.eval (.tmp 0) = _ := hd 0 (by decide)
    exact hop_run (F := (St.eq (.int .i64 a0)).F) (wanted_none rfl) _ (run_mv _ (.inl rfl) e0) rfl
  · intro a w hb hd
    have e14 : a.eval (.tmp 14) = .int .i64 a0 := hd 14 (by decide)
    exact hop_call (F := (St.eq (.int .i64 (K : Int))).F) (wanted_none rfl) rfl #[.int .i64 a0, .int .i64 40] (by first | (simp only [List.map_toArray, List.map_cons, List.map_nil, e14]; done) | (simp only [List.map_toArray, List.map_cons, List.map_nil, e14]; rfl)) (enters_of Try.func20 (by kernel_rfl) rfl) ((within_any a0 40 (by omega) (by omega) hk0 hl0 w).mono fun e w' h => ⟨_, h.1, by rw [← h.2]; exact Below.refl _ _, by rw [hK.out]; rfl⟩)
  · intro a w hb hd
    have e15 : a.eval (.tmp 15) = .int .i64 (K : Int) := hd 15 (by decide)
    exact hop_grow (F := (St.own w1.heap.size K).F) (wanted_none rfl) _ (run_make _ rfl (by omega) e15) (step_alloc w _) ⟨w.heap.size, _, rfl, by simp, made_bts K w, hb.size⟩
  · intro a w hb hd
    have e1 : a.eval (.tmp 1) = _ := hd 1 (by decide)
    exact hop_run (F := (St.eq (.int .i64 a1)).F) (wanted_none rfl) _ (run_mv _ (.inl rfl) e1) rfl
  · intro a w hb hd
    have e17 : a.eval (.tmp 17) = .int .i64 a1 := hd 17 (by decide)
    exact hop_call (F := (St.eq (.int .i64 (M : Int))).F) (wanted_none rfl) rfl #[.int .i64 a1, .int .i64 70] (by first | (simp only [List.map_toArray, List.map_cons, List.map_nil, e17]; done) | (simp only [List.map_toArray, List.map_cons, List.map_nil, e17]; rfl)) (enters_of Try.func20 (by kernel_rfl) rfl) ((within_any a1 70 (by omega) (by omega) hk1 hl1 w).mono fun e w' h => ⟨_, h.1, by rw [← h.2]; exact Below.refl _ _, by rw [hM.out]; rfl⟩)
  · intro a w hb hd
    have e18 : a.eval (.tmp 18) = .int .i64 (M : Int) := hd 18 (by decide)
    exact hop_grow (F := (St.own w1.heap.size M).F) (wanted_none rfl) _ (run_make _ rfl (by omega) e18) (step_alloc w _) ⟨w.heap.size, _, rfl, by simp, made_bts M w, hb.size⟩
  · intro a w hb hd
    have e16 : (St.own w1.heap.size K).F w (a.eval (.tmp 16)) := hd 16 (by decide)
    exact hop_run (F := (St.own w1.heap.size K).F) (wanted_none rfl) _ (run_mv _ (.inr rfl) rfl) e16
  · intro a w hb hd
    have e19 : (St.own w1.heap.size M).F w (a.eval (.tmp 19)) := hd 19 (by decide)
    exact hop_run (F := (St.own w1.heap.size M).F) (wanted_none rfl) _ (run_mv _ (.inr rfl) rfl) e19
  intro pz w2 b2 hp
  obtain ⟨-, -, -, -, -, -, q7, q8, -⟩ := hp
  obtain ⟨g1, lk, ek, hkl, hkb, hg1⟩ := q7 (by decide)
  obtain ⟨g2, lm, em, hml, hmb, hg2⟩ := q8 (by decide)
  simp only [layAll, Act.put, List.setIfInBounds_toArray, List.set_cons_zero, List.set_cons_succ, Nat.zero_add, Nat.reduceAdd, show pz 6 = .slice (some ⟨g1, 0, none⟩) K K from ek, show pz 7 = .slice (some ⟨g2, 0, none⟩) M M from em]
  clear q7 q8 ek em
  have m0 : (0 : Int) ≤ (M : Int) := Int.natCast_nonneg _
  go_wp2
  go_loopw [9] (fun i wr => ∃ j : Nat, j ≤ M ∧ i = .int .i64 (j : Int) ∧ ∃ lk lm : List UInt8, lk.length = K ∧ lm.length = M ∧ Bts wr g1 5 lk ∧ Bts wr g2 5 lm ∧ Below w1.heap.size w1 wr) (fun i _ => 100 - (intOf i).toNat)
  case atStart => exact ⟨0, by omega, rfl, lk, lm, hkl, hml, hkb, hmb, b2⟩
  case round =>
    obtain ⟨j, hj, rfl, lk, lm, hkl, hml, hkb, hmb, hB⟩ := hrel
    by_cases hlt : j < M
    · have hfz := hmb.frozen j
      have hcl : wr.cell? ⟨g2, j, none⟩ = some (.int .u8 (((lm[j]'(by omega)).toNat : Nat) : Int)) := hmb.cell (List.getElem?_eq_getElem (by omega))
      generalize (((lm[j]'(by omega)).toNat : Nat) : Int) = old at hcl
      go_wp2
      go_roundw
      case rel => exact ⟨j + 1, by omega, by go_num, both_set hlt hkl hml hkb hmb hB hg2 (by omega) (by omega)⟩
      case measure => simp [intOf]; omega
    · obtain rfl : j = M := by omega
      have hsz := hB.size
      go_wp2_with fail
      refine (new_any (some ⟨g1, 0, none⟩) lk K K hkl (Nat.le_refl _) (by unfold maxLen; omega) (fun h => by cases h) wr hkb.rd).mono ?_
      rintro e w3 ⟨p, rfl, hp, S3, b3⟩
      have sm : Src w3.heap.size p w3 (some ⟨g2, 0, none⟩) lm := ((hmb.rd.src hp).kp (Kp.below b3)).mono b3.size
      have hk3 := hkb.step b3
      have hm3 := hmb.step b3
      have hmlt := hmb.lt
      have hklt := hkb.lt
      have B3 := hB.trans (b3.mono hsz)
      go_wp2_with fail
      refine (write_any p _ _ (some ⟨g2, 0, none⟩) lm j j hml (Nat.le_refl _) (by unfold maxLen; omega) (fun h => by cases h) w3 S3 sm).mono ?_
      rintro e w4 ⟨rfl, g4, S4⟩
      rw [List.nil_append] at S4
      have hk4 : Bts w4 g1 5 lk := (g4.block g1 hk3.lt (fun e => by cases e; omega)).trans hk3
      have hm4 : Bts w4 g2 5 lm := (g4.block g2 hm3.lt (fun e => by cases e; omega)).trans hm3
      have B4 : Below w1.heap.size w1 w4 := below_of_grown B3 g4 B3.size (by omega)
      have s4 := S4.lt
      obtain ⟨G, hG⟩ : ∃ G, Hid (sumW (initW lk) lm = G) := ⟨_, hid rfl⟩
      clear S3 sm hk3 hm3 B3 g4 hkb hmb hB b3 b2
      go_wp2_with fail
      refine (sum_any p _ _ w4 S4).mono ?_
      rintro e w5 ⟨rfl, b5⟩
      rw [sumW_feed, hG.out]
      have S5 := S4.of_block (b5.block p s4)
      have hk5 := hk4.step b5
      have hm5 := hm4.step b5
      have B5 := B4.trans (b5.mono B4.size)
      have z5 := Blk.new w5 35 #[Value.int .u8 0, .int .u8 0, .int .u8 0, .int .u8 0, .int .u8 0, .int .u8 0, .int .u8 0, .int .u8 0, .int .u8 0, .int .u8 0, .int .u8 0, .int .u8 0, .int .u8 0, .int .u8 0, .int .u8 0, .int .u8 0]
      have s5 := S5.lt
      have sz5 := B5.size
      clear S4 hk4 hm4 B4 b5
      go_wp2_with (refine wpList_store_blk rfl _ (.tmp 11) _ rfl _ rfl _ rfl (arr16_one _) _ z5 rfl size35 ?_; intro w6 g6 c6; have b6 := step_new g6)
      have S6 := S5.of_block (b6.block p s5)
      have hk6 := hk5.step b6
      have hm6 := hm5.step b6
      have B6 := B5.trans (b6.mono sz5)
      refine (write_any p _ _ none [] 0 0 rfl (Nat.le_refl _) (by unfold maxLen; omega) (fun _ => rfl) w6 S6 (fun h => absurd h (by simp))).mono ?_
      rintro e w7 ⟨rfl, g7, S7⟩
      rw [List.append_nil, ← feed_idem] at S7
      have c7 := c6.grown g7 (fun e => by cases e; omega)
      have hgp1 : g1 ≠ p := by omega
      have hgp2 : g2 ≠ p := by omega
      have hk7 : Bts w7 g1 5 lk := (g7.block g1 hk6.lt (fun e => by cases e; omega)).trans hk6
      have hm7 : Bts w7 g2 5 lm := (g7.block g2 hm6.lt (fun e => by cases e; omega)).trans hm6
      have B7 : Below w1.heap.size w1 w7 := below_of_grown B6 g7 B6.size (by omega)
      obtain ⟨F, hF⟩ : ∃ F, Hid (macW lk [lm] = F) := ⟨_, hid rfl⟩
      clear S5 S6 hk5 hk6 hm5 hm6 B5 B6 b6 g6 g7 c6 z5
      go_upto_region 14 with (fail)
      refine wp_region_stK [StK.eq (.agg (arr16 (outF G))), StK.eq (.slice (some ⟨g1, 0, none⟩) K K), StK.eq (.slice (some ⟨g2, 0, none⟩) j j), StK.eq (.agg (arr16 (outF G))), StK.eq (.bool true), StK.eq (.bool true), StK.eq (.pointer (some ⟨p, 0, none⟩)), StK.eq (.agg (arr16 (outF G))), StK.eq (.agg (arr16 (outF G))), StK.eq (.bool true), StK.eq (.bool true), StK.eq (.bool true), StK.eq (.slice (some ⟨g1, 0, none⟩) K K), StK.eq (.slice (some ⟨g2, 0, none⟩) j j), StK.part lm, StK.eq (.agg (arr16 (outF F))), StK.eq (.slice (some ⟨g1, 0, none⟩) K K), StK.eq (.slice (some ⟨g2, 0, none⟩) j j), StK.part lm, StK.eq (.agg (arr16 (outF F))), StK.eq (.bool true), StK.eq (.bool true), StK.eq (.bool true)] 66 rfl (by kernel_rfl) (by kernel_rfl) ⟨?_, ?_, ?_, ?_, ?_, ?_, ?_, ?_, ?_, ?_, ?_, ?_, ?_, ?_, ?_, ?_, ?_, ?_, ?_, ?_, ?_, ?_, ?_, trivial⟩ ?_
      · intro a w hb hd
        have e11 : a.eval (.tmp 11) = _ := hd 11 (by decide)
        exact hop_runK (F := (StK.eq (.agg (arr16 (outF G)))).F) (wanted_none rfl) _ (run_ldS _ rfl e11 (c7.step hb)) rfl
      · intro a w hb hd
        have e7 : a.eval (.tmp 7) = _ := hd 7 (by decide)
        exact hop_runK (F := (StK.eq (.slice (some ⟨g1, 0, none⟩) K K)).F) (wanted_none rfl) _ (run_mv _ (.inl rfl) e7) rfl
      · intro a w hb hd
        have e8 : a.eval (.tmp 8) = _ := hd 8 (by decide)
        exact hop_runK (F := (StK.eq (.slice (some ⟨g2, 0, none⟩) j j)).F) (wanted_none rfl) _ (run_mv _ (.inl rfl) e8) rfl
      · intro a w hb hd
        have e45 : a.eval (.tmp 45) = .slice (some ⟨g1, 0, none⟩) K K := hd 45 (by decide)
        have e46 : a.eval (.tmp 46) = .slice (some ⟨g2, 0, none⟩) j j := hd 46 (by decide)
        exact hop_callK (F := (StK.eq (.agg (arr16 (outF G)))).F) (wanted_none rfl) hb.size rfl #[a.eval (.tmp 45), a.eval (.tmp 46)] (by first | (simp only [List.map_toArray, List.map_cons, List.map_nil]; done) | (simp only [List.map_toArray, List.map_cons, List.map_nil]; rfl)) (enters_of Try.func23 (by kernel_rfl) rfl) (by rw [e45, e46]; exact (rraw_any _ lk K K hkl (fun h => by cases h) (by omega) _ lm j j hml (fun h => by cases h) (by omega) w (hk7.step hb).rd (hm7.step hb).rd).mono fun e w' h => ⟨_, h.1, h.2, by rw [hG.out]; rfl⟩)
      · intro a w hb hd
        have e44 : a.eval (.tmp 44) = (.agg (arr16 (outF G))) := hd 44 (by decide)
        have e47 : a.eval (.tmp 47) = (.agg (arr16 (outF G))) := hd 47 (by decide)
        exact hop_runK (F := (StK.eq (.bool true)).F) (wanted_none rfl) _ (run_eq16 _ _ rfl (outF G) e44 e47) rfl
      · intro a w hb hd
        have e48 : a.eval (.tmp 48) = .bool true := hd 48 (by decide)
        exact hop_runK (F := (StK.eq (.bool true)).F) (wanted_none rfl) _ (run_mv _ (.inl rfl) e48) rfl
      · intro a w hb hd
        have eg : a.eval (.tmp 49) = .bool true := hd 49 (by decide)
        have e10 : a.eval (.tmp 10) = _ := hd 10 (by decide)
        exact hop_runK (F := (StK.eq (.pointer (some ⟨p, 0, none⟩))).F) (wanted_yes rfl rfl rfl eg) _ (run_mv _ (.inl rfl) e10) rfl
      · intro a w hb hd
        have eg : a.eval (.tmp 49) = .bool true := hd 49 (by decide)
        have e50 : a.eval (.tmp 50) = .pointer (some ⟨p, 0, none⟩) := hd 50 (by decide)
        exact hop_callK (F := (StK.eq (.agg (arr16 (outF G)))).F) (wanted_yes rfl rfl rfl eg) hb.size rfl #[a.eval (.tmp 50)] (by first | (simp only [List.map_toArray, List.map_cons, List.map_nil]; done) | (simp only [List.map_toArray, List.map_cons, List.map_nil]; rfl)) (enters_of Try.func22 (by kernel_rfl) rfl) (by rw [e50]; exact (sum_any p _ _ w (S7.of_block (hb.block p S7.lt))).mono fun e w' h => ⟨_, h.1, h.2, by rw [sumW_feed, hG.out]; rfl⟩)
      · intro a w hb hd
        have eg : a.eval (.tmp 49) = .bool true := hd 49 (by decide)
        have e11 : a.eval (.tmp 11) = _ := hd 11 (by decide)
        exact hop_runK (F := (StK.eq (.agg (arr16 (outF G)))).F) (wanted_yes rfl rfl rfl eg) _ (run_ldS _ rfl e11 (c7.step hb)) rfl
      · intro a w hb hd
        have eg : a.eval (.tmp 49) = .bool true := hd 49 (by decide)
        have e51 : a.eval (.tmp 51) = (.agg (arr16 (outF G))) := hd 51 (by decide)
        have e52 : a.eval (.tmp 52) = (.agg (arr16 (outF G))) := hd 52 (by decide)
        exact hop_runK (F := (StK.eq (.bool true)).F) (wanted_yes rfl rfl rfl eg) _ (run_eq16 _ _ rfl (outF G) e51 e52) rfl
      · intro a w hb hd
        have e49 : a.eval (.tmp 49) = .bool true := hd 49 (by decide)
        have e53 : a.eval (.tmp 53) = .bool true := hd 53 (by decide)
        exact hop_runK (F := (StK.eq (.bool true)).F) (wanted_none rfl) _ (run_pick_t rfl e49 e53) rfl
      · intro a w hb hd
        have e54 : a.eval (.tmp 54) = .bool true := hd 54 (by decide)
        exact hop_runK (F := (StK.eq (.bool true)).F) (wanted_none rfl) _ (run_mv _ (.inl rfl) e54) rfl
      · intro a w hb hd
        have eg : a.eval (.tmp 55) = .bool true := hd 55 (by decide)
        have e7 : a.eval (.tmp 7) = _ := hd 7 (by decide)
        exact hop_runK (F := (StK.eq (.slice (some ⟨g1, 0, none⟩) K K)).F) (wanted_yes rfl rfl rfl eg) _ (run_mv _ (.inl rfl) e7) rfl
      · intro a w hb hd
        have eg : a.eval (.tmp 55) = .bool true := hd 55 (by decide)
        have e8 : a.eval (.tmp 8) = _ := hd 8 (by decide)
        exact hop_runK (F := (StK.eq (.slice (some ⟨g2, 0, none⟩) j j)).F) (wanted_yes rfl rfl rfl eg) _ (run_mv _ (.inl rfl) e8) rfl
      · intro a w hb hd
        have eg : a.eval (.tmp 55) = .bool true := hd 55 (by decide)
        have e57 : a.eval (.tmp 57) = .slice (some ⟨g2, 0, none⟩) j j := hd 57 (by decide)
        exact hop_part (wanted_yes rfl rfl rfl eg) hb.size _ rfl e57 hml (Nat.le_refl _) (by unfold maxLen; omega) (fun h => by cases h) (hm7.step hb).rd
      · intro a w hb hd
        have eg : a.eval (.tmp 55) = .bool true := hd 55 (by decide)
        have e56 : a.eval (.tmp 56) = .slice (some ⟨g1, 0, none⟩) K K := hd 56 (by decide)
        obtain ⟨gp, e58, P58⟩ : (StK.part lm).F w (a.eval (.tmp 58)) := hd 58 (by decide)
        exact hop_callK (F := (StK.eq (.agg (arr16 (outF F)))).F) (wanted_yes rfl rfl rfl eg) hb.size rfl #[a.eval (.tmp 56), a.eval (.tmp 58)] (by first | (simp only [List.map_toArray, List.map_cons, List.map_nil]; done) | (simp only [List.map_toArray, List.map_cons, List.map_nil]; rfl)) (enters_of Try.func24 (by kernel_rfl) rfl) (by rw [e56, e58]; exact (mac_any _ lk K K hkl (Nat.le_refl _) (by unfold maxLen; omega) (fun h => by cases h) _ [lm] 1 1 rfl (Nat.le_refl _) (by unfold maxLen; omega) w (hk7.step hb).rd P58).mono fun e w' h => ⟨_, h.1, h.2, by rw [hF.out]; rfl⟩)
      · intro a w hb hd
        have eg : a.eval (.tmp 55) = .bool true := hd 55 (by decide)
        have e7 : a.eval (.tmp 7) = _ := hd 7 (by decide)
        exact hop_runK (F := (StK.eq (.slice (some ⟨g1, 0, none⟩) K K)).F) (wanted_yes rfl rfl rfl eg) _ (run_mv _ (.inl rfl) e7) rfl
      · intro a w hb hd
        have eg : a.eval (.tmp 55) = .bool true := hd 55 (by decide)
        have e8 : a.eval (.tmp 8) = _ := hd 8 (by decide)
        exact hop_runK (F := (StK.eq (.slice (some ⟨g2, 0, none⟩) j j)).F) (wanted_yes rfl rfl rfl eg) _ (run_mv _ (.inl rfl) e8) rfl
      · intro a w hb hd
        have eg : a.eval (.tmp 55) = .bool true := hd 55 (by decide)
        have e61 : a.eval (.tmp 61) = .slice (some ⟨g2, 0, none⟩) j j := hd 61 (by decide)
        exact hop_part (wanted_yes rfl rfl rfl eg) hb.size _ rfl e61 hml (Nat.le_refl _) (by unfold maxLen; omega) (fun h => by cases h) (hm7.step hb).rd
      · intro a w hb hd
        have eg : a.eval (.tmp 55) = .bool true := hd 55 (by decide)
        have e60 : a.eval (.tmp 60) = .slice (some ⟨g1, 0, none⟩) K K := hd 60 (by decide)
        obtain ⟨gp, e62, P62⟩ : (StK.part lm).F w (a.eval (.tmp 62)) := hd 62 (by decide)
        exact hop_callK (F := (StK.eq (.agg (arr16 (outF F)))).F) (wanted_yes rfl rfl rfl eg) hb.size rfl #[a.eval (.tmp 60), a.eval (.tmp 62)] (by first | (simp only [List.map_toArray, List.map_cons, List.map_nil]; done) | (simp only [List.map_toArray, List.map_cons, List.map_nil]; rfl)) (enters_of Try.func25 (by kernel_rfl) rfl) (by rw [e60, e62]; exact (rmac_any _ lk K K hkl (fun h => by cases h) (by omega) _ [lm] 1 1 rfl (Nat.le_refl _) (by omega) (fun l hl => by obtain rfl := List.mem_singleton.1 hl; omega) (by simp [cat, eightL_len]; omega) w (hk7.step hb).rd P62).mono fun e w' h => ⟨_, h.1, h.2, by rw [hF.out]; rfl⟩)
      · intro a w hb hd
        have eg : a.eval (.tmp 55) = .bool true := hd 55 (by decide)
        have e59 : a.eval (.tmp 59) = (.agg (arr16 (outF F))) := hd 59 (by decide)
        have e63 : a.eval (.tmp 63) = (.agg (arr16 (outF F))) := hd 63 (by decide)
        exact hop_runK (F := (StK.eq (.bool true)).F) (wanted_yes rfl rfl rfl eg) _ (run_eq16 _ _ rfl (outF F) e59 e63) rfl
      · intro a w hb hd
        have e55 : a.eval (.tmp 55) = .bool true := hd 55 (by decide)
        have e64 : a.eval (.tmp 64) = .bool true := hd 64 (by decide)
        exact hop_runK (F := (StK.eq (.bool true)).F) (wanted_none rfl) _ (run_pick_t rfl e55 e64) rfl
      · intro a w hb hd
        have e65 : a.eval (.tmp 65) = .bool true := hd 65 (by decide)
        exact hop_runK (F := (StK.eq (.bool true)).F) (wanted_none rfl) _ (run_mv _ (.inr rfl) e65) rfl
      intro pwz wz bwz hp
      obtain ⟨-, -, -, -, -, -, -, -, -, -, -, -, -, -, -, -, -, -, -, -, -, -, q22, -⟩ := hp
      have e22 : pwz 22 = .bool true := q22 (by decide)
      simp only [layAll, Act.put, List.setIfInBounds_toArray, List.set_cons_zero, List.set_cons_succ, Nat.zero_add, Nat.reduceAdd, e22]
      clear q22 e22
      go_wp2
      go_ret
      exact ⟨rfl, step_trans b1 (B7.trans (bwz.mono B7.size))⟩
end Go.Proofs.Ytajombnckgehbaa
