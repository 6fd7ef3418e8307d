/- sentinellaw3.SpongeSums: the walk. -/
import Derived.Test.YtajombnckgehbaaSParts
namespace Go.Proofs.Ytajombnckgehbaa
set_option linter.unusedVariables false
set_option linter.unusedSimpArgs false
open Go.ChangeShapes Go.WideShapes Go.ChangeAt Go.RowKit Go.Shelf
attribute [local go_sem] eq16_same
theorem run_ne16 {a : Act} {w : World} {o : Oper} (x y : Operand) (ho : o.op = .binOp .neq 35 x y 35) (z : Nat → Int) (hx : a.eval x = .agg (arr16 z)) (hy : a.eval y = .agg (arr16 z)) : (execOp a.eval o).run Try.prog w = .ok (.value (.bool false)) w := by
  unfold execOp
  simp only [ho, hx, hy]
  simp [go_sem, eq16_same]
theorem run_slH {a : Act} {w : World} {o : Oper} {A : Option Addr} {n c : Nat} (x h : Operand) (ho : o.op = .slice 29 x none (some h) none) (hx : a.eval x = .slice A n c) (K : Nat) (z : Int) (hh : a.eval h = .int .i64 z) (hz : z = (K : Int)) (hK : K ≤ c) : (execOp a.eval o).run Try.prog w = .ok (.value (.slice A K c)) w := by
  subst hz
  unfold execOp
  simp only [ho, hx, hh]
  simp [slice_h w A n c K hK, hh]
theorem slice_lh (w : World) (A : Option Addr) (n c a m : Nat) (hb : a + m ≤ c) : (Instr.sliceAt 29 (.slice A n c) (some (.int .i64 (a : Int))) (some (.int .i64 ((a : Int) + (m : Int)))) none).run Try.prog w = .ok (.slice (cutA A c a) m (c - a)) w := by
  have hu : Try.prog.underlying 29 = some (.slice (Try.prog.elem 29)) := by rw [elem_u8s]; exact Try.underlying29
  rw [run_sliceAt_slice _ _ _ _ _ _ hu, run_slice_lh _ _ _ _ _ hu .i64 .i64 a ((a : Int) + (m : Int)) (by omega) (by omega) (by omega), elem_u8s, sizeOf_u8]
  simp only [Result.andThen_ok, sliced, Int.toNat_natCast, Nat.mul_one, cutA]
  rw [show ((a : Int) + (m : Int)).toNat = a + m by omega, Nat.add_sub_cancel_left]
theorem cutA_none {A : Option Addr} {c k : Nat} (h : A = none → c = 0) : cutA A c k = none → c - k = 0 := by
  unfold cutA
  split
  · intro _; omega
  · intro e
    rw [Option.map_eq_none_iff] at e
    have := h e
    omega
theorem Src.take {N p : Nat} {w : World} {A : Option Addr} {l : List UInt8} (h : Src N p w A l) (k : Nat) : Src N p w A (l.take k) := fun hp => by
  rw [List.length_take] at hp
  obtain ⟨b, o, e, h1, h2, h3⟩ := h (by omega)
  refine ⟨b, o, e, h1, h2, fun j x hx => h3 j x ?_⟩
  rw [List.getElem?_take] at hx
  split at hx
  · exact hx
  · cases hx
set_option maxRecDepth 100000 in
set_option maxHeartbeats 16000000 in
theorem SpongeSums_walk (A0 : Option Addr) (n0 cap0 : Nat) (l0 : List UInt8) (hn0 : l0.length = n0) (hc0 : n0 ≤ cap0) (hm0 : cap0 ≤ maxLen) (hz0 : A0 = none → cap0 = 0)
    (A1 : Option Addr) (n1 cap1 : Nat) (l1 : List UInt8) (hn1 : l1.length = n1) (hc1 : n1 ≤ cap1) (hm1 : cap1 ≤ maxLen) (hz1 : A1 = none → cap1 = 0)
    (A2 : Option Addr) (n2 cap2 : Nat) (x2 : Nat → Int) (w : World) (hr0 : Rd w A0 l0) (hr1 : Rd w A1 l1) (hr2 : RdI w A2 n2 x2) :
    Calls Try.prog 5 #[.slice A0 n0 cap0, .slice A1 n1 cap1, .slice A2 n2 cap2] w fun e w' => e = .returned (.bool true) ∧ Below w.heap.size w w' := by
  have km1 := hm1
  have km0 := hm0
  unfold maxLen at km0 km1
  go_enter Try.func5, Try.ntmps5
  go_wp2_with fail
  refine (known_any _).mono ?_
  rintro e w1 ⟨rfl, b1⟩
  have r0 := hr0.step b1
  have r1 := hr1.step b1
  have r2 := hr2.step b1
  clear hr0 hr1 hr2
  by_cases g0 : 100 < n0
  · go_wp2
    go_ret
    exact ⟨rfl, b1⟩
  by_cases g1 : 300 < n1
  · go_wp2
    go_ret
    exact ⟨rfl, b1⟩
  go_wp2_with fail
  refine (new_any A0 l0 n0 cap0 hn0 hc0 hm0 hz0 _ r0).mono ?_
  rintro e w2 ⟨p, rfl, hp, S2, b2⟩
  obtain ⟨S, hS⟩ : ∃ S, S = initW l0 := ⟨_, rfl⟩
  have HS := hid hS
  rw [← hS] at S2
  clear hS
  have src := r1.src hp
  obtain ⟨hml, hxb, hx⟩ := r2
  unfold maxLen at hml
  have HX := hid hx
  have HXB := hid hxb
  clear hx hxb
  go_wp2
  go_loopw [8, 9] (fun t i wr => ∃ k a : Nat, k ≤ 20 ∧ a ≤ n1 ∧ t = .int .i64 (a : Int) ∧ i = .int .i64 (k : Int) ∧ SpAt wr p (feed S (l1.take a)).1 (feed S (l1.take a)).2 ∧ Below w1.heap.size w1 wr) (fun _ i _ => 30 - (intOf i).toNat)
  case atStart => exact ⟨0, 0, by omega, by omega, rfl, rfl, by rw [List.take_zero, feed_nil]; exact S2, b2⟩
  case round =>
    obtain ⟨k, y, hk, ha, rfl, rfl, hS, hB⟩ := hrel
    have hsz := hB.size
    have hpl := hS.lt
    by_cases hlt : k < n2 ∧ k < 20
    · obtain ⟨hl1, hl2⟩ := hlt
      obtain ⟨b, o, rfl, hbl, hc⟩ := HX.out (by omega)
      have hcx := hB.cell (p := ⟨b, o + k, none⟩) hbl
      rw [hc k hl1] at hcx
      have hx0 := (HXB.out k).1
      have hx1 := (HXB.out k).2
      generalize x2 k = X at *
      clear hc HX HXB
      have hmn : (40 : Int) ≤ (n1 : Int) - (y : Int) ∨ (n1 : Int) - (y : Int) < 40 := by omega
      rcases hmn with hmn | hmn
      · go_wp2_with fail
        refine (within_any _ _ (by omega) (by omega) hx0 hx1 _).mono ?_
        rintro e w3 ⟨rfl, rfl⟩
        obtain ⟨m, hm⟩ : ∃ m : Nat, X % (41) = (m : Int) := ⟨(X % (41)).toNat, by have := Int.emod_nonneg X (show (41 : Int) ≠ 0 by omega); omega⟩
        have hma : m ≤ n1 - y := by have := Int.emod_lt_of_pos X (show (0 : Int) < 41 by omega); omega
        rw [hm]
        clear hm
        have hsl := fun w' => slice_lh w' A1 n1 cap1 y m (by omega)
        have hls : ((l1.drop y).take m).length = m := by rw [List.length_take, List.length_drop]; omega
        have nnA := cutA_none (k := y) hz1
        have sr : Src wr.heap.size p wr (cutA A1 cap1 y) ((l1.drop y).take m) := (((src.kp (Kp.below hB)).mono hsz).cut (by omega)).take m
        go_wp2_with fail
        refine (write_any p _ _ (cutA A1 cap1 y) ((l1.drop y).take m) m (cap1 - y) hls (by omega) (by omega) nnA wr hS sr).mono ?_
        rintro e w3 ⟨rfl, g3, S3⟩
        rw [← feed_append, ← List.take_add] at S3
        have B3 : Below w1.heap.size w1 w3 := below_of_grown hB g3 hsz hp
        obtain ⟨G, hG⟩ : ∃ G, Hid (sumW S (l1.take (y + m)) = G) := ⟨_, hid rfl⟩
        have hlam : (l1.take (y + m)).length = y + m := by rw [List.length_take]; omega
        have R0 := r0.below B3 (Nat.le_refl _)
        have R1 := (r1.below B3 (Nat.le_refl _)).take (y + m)
        clear hsl hls nnA sr hS hB g3 src S2 b2 hcx hsz hpl hx0 hx1
        go_upto_region 15 with (fail)
        refine wp_region_stK [StK.eq (.pointer (some ⟨p, 0, none⟩)), StK.eq (.agg (arr16 (outF G))), StK.eq (.slice A0 n0 cap0), StK.eq (.slice A1 n1 cap1), StK.eq (.int .i64 ((y : Int) + (m : Int))), StK.eq (.slice A1 (y + m) cap1), StK.eq (.agg (arr16 (outF G))), StK.eq (.bool false)] 84 rfl (by kernel_rfl) (by kernel_rfl) ⟨?_, ?_, ?_, ?_, ?_, ?_, ?_, ?_, trivial⟩ ?_
        · intro a w hb hd
          have e7 : a.eval (.tmp 7) = _ := hd 7 (by decide)
          exact hop_runK (F := (StK.eq (.pointer (some ⟨p, 0, none⟩))).F) (wanted_none rfl) _ (run_mv _ (.inl rfl) e7) rfl
        · intro a w hb hd
          have e57 : a.eval (.tmp 57) = .pointer (some ⟨p, 0, none⟩) := hd 57 (by decide)
          exact hop_callK (F := (StK.eq (.agg (arr16 (outF G)))).F) (wanted_none rfl) hb.size rfl #[a.eval (.tmp 57)] (by first | (simp only [List.map_toArray, List.map_cons, List.map_nil]; done) | (simp only [List.map_toArray, List.map_cons, List.map_nil]; rfl)) (enters_of Try.func22 (by kernel_rfl) rfl) (by rw [e57]; exact (sum_any p _ _ w (S3.of_block (hb.block p S3.lt))).mono fun e w' h => ⟨_, h.1, h.2, by rw [sumW_feed, hG.out]; rfl⟩)
        · intro a w hb hd
          have e0 : a.eval (.tmp 0) = _ := hd 0 (by decide)
          exact hop_runK (F := (StK.eq (.slice A0 n0 cap0)).F) (wanted_none rfl) _ (run_mv _ (.inl rfl) e0) rfl
        · intro a w hb hd
          have e1 : a.eval (.tmp 1) = _ := hd 1 (by decide)
          exact hop_runK (F := (StK.eq (.slice A1 n1 cap1)).F) (wanted_none rfl) _ (run_mv _ (.inl rfl) e1) rfl
        · intro a w hb hd
          have e8 : a.eval (.tmp 8) = _ := hd 8 (by decide)
          exact hop_runK (F := (StK.eq (.int .i64 ((y : Int) + (m : Int)))).F) (wanted_none rfl) _ (run_mv _ (.inl rfl) e8) rfl
        · intro a w hb hd
          have e60 : a.eval (.tmp 60) = .slice A1 n1 cap1 := hd 60 (by decide)
          have e61 : a.eval (.tmp 61) = .int .i64 ((y : Int) + (m : Int)) := hd 61 (by decide)
          exact hop_runK (F := (StK.eq (.slice A1 (y + m) cap1)).F) (wanted_none rfl) _ (run_slH _ _ rfl e60 (y + m) _ e61 (by omega) (by omega)) rfl
        · intro a w hb hd
          have e59 : a.eval (.tmp 59) = .slice A0 n0 cap0 := hd 59 (by decide)
          have e62 : a.eval (.tmp 62) = .slice A1 (y + m) cap1 := hd 62 (by decide)
          exact hop_callK (F := (StK.eq (.agg (arr16 (outF G)))).F) (wanted_none rfl) hb.size rfl #[a.eval (.tmp 59), a.eval (.tmp 62)] (by first | (simp only [List.map_toArray, List.map_cons, List.map_nil]; done) | (simp only [List.map_toArray, List.map_cons, List.map_nil]; rfl)) (enters_of Try.func23 (by kernel_rfl) rfl) (by rw [e59, e62]; exact (rraw_any A0 l0 n0 cap0 hn0 hz0 (by omega) A1 (l1.take (y + m)) (y + m) cap1 hlam hz1 (by omega) w (R0.below hb (Nat.le_refl _)) (R1.below hb (Nat.le_refl _))).mono fun e w' h => ⟨_, h.1, h.2, by rw [← HS.out, hG.out]; rfl⟩)
        · intro a w hb hd
          have e58 : a.eval (.tmp 58) = (.agg (arr16 (outF G))) := hd 58 (by decide)
          have e63 : a.eval (.tmp 63) = (.agg (arr16 (outF G))) := hd 63 (by decide)
          exact hop_runK (F := (StK.eq (.bool false)).F) (wanted_none rfl) _ (run_ne16 _ _ rfl (outF G) e58 e63) rfl
        intro pwz wz bwz hp
        obtain ⟨-, -, -, -, -, -, -, q7, -⟩ := hp
        have e7 : pwz 7 = .bool false := q7 (by decide)
        simp only [layAll, Act.put, List.setIfInBounds_toArray, List.set_cons_zero, List.set_cons_succ, Nat.zero_add, Nat.reduceAdd, e7]
        clear q7 e7
        have S5 := S3.of_block (bwz.block p S3.lt)
        have B5 := B3.trans (bwz.mono B3.size)
        clear S3 B3 R0 R1 hG
        go_wp2
        go_roundw
        case rel => exact ⟨k + 1, y + m, by omega, by omega, by go_num, by go_num, S5, B5⟩
        case measure => simp [intOf]; omega
      · go_wp2_with fail
        refine (within_any _ _ (by omega) (by omega) hx0 hx1 _).mono ?_
        rintro e w3 ⟨rfl, rfl⟩
        obtain ⟨m, hm⟩ : ∃ m : Nat, X % ((n1 : Int) - (y : Int) + 1) = (m : Int) := ⟨(X % ((n1 : Int) - (y : Int) + 1)).toNat, by have := Int.emod_nonneg X (show ((n1 : Int) - (y : Int) + 1 : Int) ≠ 0 by omega); omega⟩
        have hma : m ≤ n1 - y := by have := Int.emod_lt_of_pos X (show (0 : Int) < (n1 : Int) - (y : Int) + 1 by omega); omega
        rw [hm]
        clear hm
        have hsl := fun w' => slice_lh w' A1 n1 cap1 y m (by omega)
        have hls : ((l1.drop y).take m).length = m := by rw [List.length_take, List.length_drop]; omega
        have nnA := cutA_none (k := y) hz1
        have sr : Src wr.heap.size p wr (cutA A1 cap1 y) ((l1.drop y).take m) := (((src.kp (Kp.below hB)).mono hsz).cut (by omega)).take m
        go_wp2_with fail
        refine (write_any p _ _ (cutA A1 cap1 y) ((l1.drop y).take m) m (cap1 - y) hls (by omega) (by omega) nnA wr hS sr).mono ?_
        rintro e w3 ⟨rfl, g3, S3⟩
        rw [← feed_append, ← List.take_add] at S3
        have B3 : Below w1.heap.size w1 w3 := below_of_grown hB g3 hsz hp
        obtain ⟨G, hG⟩ : ∃ G, Hid (sumW S (l1.take (y + m)) = G) := ⟨_, hid rfl⟩
        have hlam : (l1.take (y + m)).length = y + m := by rw [List.length_take]; omega
        have R0 := r0.below B3 (Nat.le_refl _)
        have R1 := (r1.below B3 (Nat.le_refl _)).take (y + m)
        clear hsl hls nnA sr hS hB g3 src S2 b2 hcx hsz hpl hx0 hx1
        go_upto_region 15 with (fail)
        refine wp_region_stK [StK.eq (.pointer (some ⟨p, 0, none⟩)), StK.eq (.agg (arr16 (outF G))), StK.eq (.slice A0 n0 cap0), StK.eq (.slice A1 n1 cap1), StK.eq (.int .i64 ((y : Int) + (m : Int))), StK.eq (.slice A1 (y + m) cap1), StK.eq (.agg (arr16 (outF G))), StK.eq (.bool false)] 84 rfl (by kernel_rfl) (by kernel_rfl) ⟨?_, ?_, ?_, ?_, ?_, ?_, ?_, ?_, trivial⟩ ?_
        · intro a w hb hd
          have e7 : a.eval (.tmp 7) = _ := hd 7 (by decide)
          exact hop_runK (F := (StK.eq (.pointer (some ⟨p, 0, none⟩))).F) (wanted_none rfl) _ (run_mv _ (.inl rfl) e7) rfl
        · intro a w hb hd
          have e57 : a.eval (.tmp 57) = .pointer (some ⟨p, 0, none⟩) := hd 57 (by decide)
          exact hop_callK (F := (StK.eq (.agg (arr16 (outF G)))).F) (wanted_none rfl) hb.size rfl #[a.eval (.tmp 57)] (by first | (simp only [List.map_toArray, List.map_cons, List.map_nil]; done) | (simp only [List.map_toArray, List.map_cons, List.map_nil]; rfl)) (enters_of Try.func22 (by kernel_rfl) rfl) (by rw [e57]; exact (sum_any p _ _ w (S3.of_block (hb.block p S3.lt))).mono fun e w' h => ⟨_, h.1, h.2, by rw [sumW_feed, hG.out]; rfl⟩)
        · intro a w hb hd
          have e0 : a.eval (.tmp 0) = _ := hd 0 (by decide)
          exact hop_runK (F := (StK.eq (.slice A0 n0 cap0)).F) (wanted_none rfl) _ (run_mv _ (.inl rfl) e0) rfl
        · intro a w hb hd
          have e1 : a.eval (.tmp 1) = _ := hd 1 (by decide)
          exact hop_runK (F := (StK.eq (.slice A1 n1 cap1)).F) (wanted_none rfl) _ (run_mv _ (.inl rfl) e1) rfl
        · intro a w hb hd
          have e8 : a.eval (.tmp 8) = _ := hd 8 (by decide)
          exact hop_runK (F := (StK.eq (.int .i64 ((y : Int) + (m : Int)))).F) (wanted_none rfl) _ (run_mv _ (.inl rfl) e8) rfl
        · intro a w hb hd
          have e60 : a.eval (.tmp 60) = .slice A1 n1 cap1 := hd 60 (by decide)
          have e61 : a.eval (.tmp 61) = .int .i64 ((y : Int) + (m : Int)) := hd 61 (by decide)
          exact hop_runK (F := (StK.eq (.slice A1 (y + m) cap1)).F) (wanted_none rfl) _ (run_slH _ _ rfl e60 (y + m) _ e61 (by omega) (by omega)) rfl
        · intro a w hb hd
          have e59 : a.eval (.tmp 59) = .slice A0 n0 cap0 := hd 59 (by decide)
          have e62 : a.eval (.tmp 62) = .slice A1 (y + m) cap1 := hd 62 (by decide)
          exact hop_callK (F := (StK.eq (.agg (arr16 (outF G)))).F) (wanted_none rfl) hb.size rfl #[a.eval (.tmp 59), a.eval (.tmp 62)] (by first | (simp only [List.map_toArray, List.map_cons, List.map_nil]; done) | (simp only [List.map_toArray, List.map_cons, List.map_nil]; rfl)) (enters_of Try.func23 (by kernel_rfl) rfl) (by rw [e59, e62]; exact (rraw_any A0 l0 n0 cap0 hn0 hz0 (by omega) A1 (l1.take (y + m)) (y + m) cap1 hlam hz1 (by omega) w (R0.below hb (Nat.le_refl _)) (R1.below hb (Nat.le_refl _))).mono fun e w' h => ⟨_, h.1, h.2, by rw [← HS.out, hG.out]; rfl⟩)
        · intro a w hb hd
          have e58 : a.eval (.tmp 58) = (.agg (arr16 (outF G))) := hd 58 (by decide)
          have e63 : a.eval (.tmp 63) = (.agg (arr16 (outF G))) := hd 63 (by decide)
          exact hop_runK (F := (StK.eq (.bool false)).F) (wanted_none rfl) _ (run_ne16 _ _ rfl (outF G) e58 e63) rfl
        intro pwz wz bwz hp
        obtain ⟨-, -, -, -, -, -, -, q7, -⟩ := hp
        have e7 : pwz 7 = .bool false := q7 (by decide)
        simp only [layAll, Act.put, List.setIfInBounds_toArray, List.set_cons_zero, List.set_cons_succ, Nat.zero_add, Nat.reduceAdd, e7]
        clear q7 e7
        have S5 := S3.of_block (bwz.block p S3.lt)
        have B5 := B3.trans (bwz.mono B3.size)
        clear S3 B3 R0 R1 hG
        go_wp2
        go_roundw
        case rel => exact ⟨k + 1, y + m, by omega, by omega, by go_num, by go_num, S5, B5⟩
        case measure => simp [intOf]; omega
    · have hd : (decide (k < n2) = true ∧ decide ((k : Int) < 20) = false) ∨ decide (k < n2) = false := by simp; omega
      have hsl := fun w' => slice_from w' A1 n1 cap1 y ha
      have hls : (l1.drop y).length = n1 - y := by rw [List.length_drop]; omega
      have nnA := cutA_none (k := y) hz1
      have sr : Src wr.heap.size p wr (cutA A1 cap1 y) (l1.drop y) := ((src.kp (Kp.below hB)).mono hsz).cut (by omega)
      obtain ⟨G, hG⟩ : ∃ G, Hid (sumW S l1 = G) := ⟨_, hid rfl⟩
      have hG2 := hid (show sumW (initW l0) l1 = G by rw [← HS.out]; exact hG.out)
      clear HX HXB src S2 b2
      rcases hd with ⟨hd1, hd2⟩ | hd1
      all_goals
        go_wp2_with fail
        refine (write_any p _ _ (cutA A1 cap1 y) (l1.drop y) (n1 - y) (cap1 - y) hls (by omega) (by omega) nnA wr hS sr).mono ?_
        rintro e w3 ⟨rfl, g3, S3⟩
        rw [← feed_append, List.take_append_drop] at S3
        have B3 : Below w1.heap.size w1 w3 := below_of_grown hB g3 hsz hp
        have R0 := r0.below B3 (Nat.le_refl _)
        have R1 := r1.below B3 (Nat.le_refl _)
        go_wp2_with fail
        refine (sum_any p _ _ w3 S3).mono ?_
        rintro e w4 ⟨rfl, b4⟩
        rw [sumW_feed, hG.out]
        have S4 := S3.of_block (b4.block p S3.lt)
        have R04 := R0.step b4
        have R14 := R1.step b4
        have B4 := B3.trans (b4.mono B3.size)
        clear S3 R0 R1 B3 b4
        go_wp2_with fail
        refine (rraw_any A0 l0 n0 cap0 hn0 hz0 (by omega) A1 l1 n1 cap1 hn1 hz1 (by omega) w4 R04 R14).mono ?_
        rintro e w5 ⟨rfl, b5⟩
        rw [hG2.out]
        have S5 := S4.of_block (b5.block p S4.lt)
        have R05 := R04.step b5
        have R15 := R14.step b5
        have B5 := B4.trans (b5.mono B4.size)
        clear S4 R04 R14 B4 b5
        go_wp2_with fail
        refine (sum_any p _ _ w5 S5).mono ?_
        rintro e w6 ⟨rfl, b6⟩
        rw [sumW_feed, hG.out]
        have R06 := R05.step b6
        have R16 := R15.step b6
        have B6 := B5.trans (b6.mono B5.size)
        clear S5 R05 R15 B5 b6
        go_wp2_with fail
        refine (rraw_any A0 l0 n0 cap0 hn0 hz0 (by omega) A1 l1 n1 cap1 hn1 hz1 (by omega) w6 R06 R16).mono ?_
        rintro e w7 ⟨rfl, b7⟩
        rw [hG2.out]
        have B7 := B6.trans (b7.mono B6.size)
        clear R06 R16 B6 b7
        go_wp2
        go_ret
        exact ⟨rfl, step_trans b1 B7⟩
end Go.Proofs.Ytajombnckgehbaa
