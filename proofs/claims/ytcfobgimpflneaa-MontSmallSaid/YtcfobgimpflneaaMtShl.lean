/- mont.shift. -/
import Derived.Test.YtcfobgimpflneaaGaSh
namespace Go.Proofs.Ytcfobgimpflneaa
set_option linter.unusedVariables false
set_option linter.unusedSimpArgs false
open Go.ChangeShapes Go.WideShapes Go.ChangeAt Go.RowKit
set_option maxRecDepth 100000 in
set_option maxHeartbeats 16000000 in
theorem shift_any (a L s : Nat) (K : Int) (hL : L < 8) (hs : s < 32) (hK : K = 32 * (L : Int) + (s : Int)) (w : World) :
    Calls Try.prog 62 #[numV a, .int .i64 K] w fun e w' => e = .returned (numV (a * 2 ^ (32 * L + s) % 4294967296 ^ 8)) ∧ Below w.heap.size w w' := by
  obtain ⟨N, hN, hlo, h0, hor⟩ := up_digs (a := a) hs hL
  rw [hN]
  have HLO := hid hlo
  have H0 := hid h0
  have HOR := hid hor
  have hq : K.tdiv 32 = (L : Int) := by rw [Int.tdiv_eq_ediv_of_nonneg (by omega)]; omega
  have hm : K.tmod 32 = (s : Int) := by rw [Int.tmod_eq_emod_of_nonneg (by omega)]; omega
  clear hN hlo h0 hor hK
  go_enter Try.func62, Try.ntmps62
  go_upto_region 1 with fail
  obtain ⟨W, hW⟩ : ∃ W, W = ((w.alloc (.cells (numA a) 26))).alloc (.cells #[Value.int .u32 0, .int .u32 0, .int .u32 0, .int .u32 0, .int .u32 0, .int .u32 0, .int .u32 0, .int .u32 0] 26) := ⟨_, rfl⟩
  have q_a : Num W (w.heap.size) 26 (a) := by
    have := ((Num.new w 26 (a)).alloc (.cells #[Value.int .u32 0, .int .u32 0, .int .u32 0, .int .u32 0, .int .u32 0, .int .u32 0, .int .u32 0, .int .u32 0] 26))
    rw [hW]; exact this
  have q_r : Num W (w.heap.size + 1) 26 0 := by
    have := (Num.new (w.alloc (.cells (numA a) 26)) 26 0)
    rw [World.size_alloc, ← zeroA] at this
    rw [hW]; exact this
  have gb : Below w.heap.size w W := by rw [hW]; exact (((Below.refl _ _).alloc (by simp <;> omega) _).alloc (by simp <;> omega) _)
  rw [← hW]
  clear hW
  have lor := hid (show w.heap.size ≤ w.heap.size + 1 by omega)
  have na_r := hid (show w.heap.size ≠ w.heap.size + 1 by omega)
  go_wp2_with fail
  have ru : (W.alloc (.cells #[Value.int .u32 0, .int .u32 0, .int .u32 0, .int .u32 0, .int .u32 0, .int .u32 0, .int .u32 0, .int .u32 0] 26)).rowIs W.heap.size 26 8 (fun j => if j < L then numF N j else .int .u32 0) := by
    have h0 := (Num.new W 26 0).row
    rw [← zeroA] at h0
    refine h0.congr fun j _ => ?_
    by_cases hj : j < L
    · rw [if_pos hj, HLO.out j hj]; exact numF_none j
    · rw [if_neg hj]; exact numF_none j
  obtain ⟨B, hB⟩ : ∃ B, B = W.heap.size := ⟨_, rfl⟩
  have qa := q_a.alloc (.cells #[Value.int .u32 0, .int .u32 0, .int .u32 0, .int .u32 0, .int .u32 0, .int .u32 0, .int .u32 0, .int .u32 0] 26)
  have qr := q_r.alloc (.cells #[Value.int .u32 0, .int .u32 0, .int .u32 0, .int .u32 0, .int .u32 0, .int .u32 0, .int .u32 0, .int .u32 0] 26)
  have qrl := q_r.lt
  have gb2 := gb.alloc gb.size (.cells #[Value.int .u32 0, .int .u32 0, .int .u32 0, .int .u32 0, .int .u32 0, .int .u32 0, .int .u32 0, .int .u32 0] 26)
  have gbl : B < (W.alloc (.cells #[Value.int .u32 0, .int .u32 0, .int .u32 0, .int .u32 0, .int .u32 0, .int .u32 0, .int .u32 0, .int .u32 0] 26)).heap.size := by rw [World.size_alloc, hB]; exact Nat.lt_succ_self _
  rw [← hB] at ru qrl ⊢
  have hwb : w.heap.size + 1 < B := qrl
  have hne1 : w.heap.size ≠ B := by omega
  have hne2 : w.heap.size + 1 ≠ B := by omega
  generalize World.alloc W _ = W1 at *
  clear hB gb q_a q_r
  go_loopw [8] (fun i wr => ∃ p : Nat, L + p ≤ 8 ∧ i = .int .i64 ((L : Int) + (p : Int)) ∧ wr.rowIs B 26 8 (fun j => if j < L + p then numF N j else .int .u32 0) ∧ W1.grownBy wr (some B)) (fun i _ => 8 - (intOf i).toNat)
  case atStart => exact ⟨0, by omega, by simp, ru, World.grownBy.refl _ _⟩
  case round =>
    obtain ⟨p, hp, rfl, hr, hg⟩ := hrel
    clear ru
    obtain ⟨I, hI⟩ : ∃ I, I = L + p := ⟨_, rfl⟩
    rw [show (L : Int) + (p : Int) = (I : Int) by omega]
    rw [← hI] at hr hp
    have HI := hid hI
    by_cases hlt : I < 8
    · have hsub : (I : Int) - (L : Int) = (p : Int) := by omega
      have qa1 := qa.grown hg (ne_some hne1)
      have ca : wr.cell? ⟨w.heap.size, p, none⟩ = some (.int .u32 (digI a p)) := qa1.cell (k := p) (by omega)
      clear hI
      have fa := qa1.frozen p
      have cu := hr.cell (i := I) hlt
      rw [if_neg (by omega)] at cu
      have fu := hr.frozen I
      obtain ⟨x0, x1⟩ : 0 ≤ digI a p ∧ digI a p < 4294967296 := ⟨digI_ge _ _, digI_lt _ _⟩
      have e1 : IntKind.u32.wrap (digI a p * 2 ^ s) = digI a p * 2 ^ s % 4294967296 := rfl
      have hiL : (I : Int) < 8 := by omega
      go_upto_region 7 with fail
      have hr2 := hr.set I (.int .u32 (digI a p * 2 ^ s % 4294967296))
      have hg2 := grown_set (p := ⟨B, I, none⟩) hg rfl (.int .u32 (digI a p * 2 ^ s % 4294967296))
      rcases Nat.eq_zero_or_pos p with hp0 | hp0
      · have hup := up_row (N := N) hr (v := .int .u32 (digI a p * 2 ^ s % 4294967296)) (by rw [hp0, H0.out, HI.out, hp0]; rfl)
        clear hr2
        generalize World.setCell _ _ _ = w2 at *
        have hng : ¬ (L : Int) < (I : Int) := by have := HI.out; omega
        have hHI : Hid (I + 1 = L + (p + 1)) := hid (by have := HI.out; omega)
        clear hp0
        go_wp2_with fail
        go_roundw
        case rel => exact ⟨p + 1, by have := hHI.out; omega, by have := hHI.out; go_num, by rw [← hHI.out]; exact hup, hg2⟩
        case measure => simp [intOf] <;> omega
      · obtain ⟨q, HQ⟩ : ∃ q, Hid (p = q + 1) := ⟨p - 1, hid (by omega)⟩
        obtain ⟨V, hV⟩ : ∃ V, Hid (digI a p * 2 ^ s % 4294967296 = V) := ⟨_, hid rfl⟩
        have ho2 := HOR.out q (by have := HI.out; have := HQ.out; omega)
        rw [← HQ.out, ← HI.out, hV.out] at ho2
        rw [hV.out] at hr2 hg2 ⊢
        have hng : (L : Int) < (I : Int) := by have := HI.out; omega
        have hp1 : (p : Int) - 1 = (q : Int) := by have := HQ.out; omega
        obtain ⟨t, ht⟩ : ∃ t, Hid (32 - s = t) := ⟨_, hid rfl⟩
        have h32 : (32 : Int) - (s : Int) = (t : Int) := by have := ht.out; omega
        have ht0 : t ≤ 32 := by have := ht.out; omega
        rw [ht.out] at ho2
        obtain ⟨w2, hw2⟩ : ∃ w2, w2 = wr.setCell ⟨B, I, none⟩ (.int .u32 V) := ⟨_, rfl⟩
        rw [← hw2] at hr2 hg2 ⊢
        clear hw2 hr ca fa cu fu e1
        have qa2 := qa.grown hg2 (ne_some hne1)
        have zs := hg2.size
        have cq := fun Q : Later w2 => (show Q.w.cell? ⟨w.heap.size, q, none⟩ = some (.int .u32 (digI a q)) from (qa2.later Q).cell (k := q) (by have := HQ.out; omega))
        have fq := fun Q : Later w2 => (qa2.later Q).frozen q
        have cI := fun Q : Later w2 => (show Q.w.cell? ⟨B, I, none⟩ = some (.int .u32 V) from by
          have := (World.rowIs.of_block (w := w2) hr2 (Q.h.block _ (by omega))).cell (i := I) hlt
          rw [if_pos rfl] at this
          exact this)
        have fI := fun Q : Later w2 => (World.rowIs.of_block (w := w2) hr2 (Q.h.block _ (by omega))).frozen I
        have hqa0 := digI_ge a q
        have hq8 : (q : Int) < 8 := by have := HQ.out; have := HI.out; omega
        have hww := Below.refl w2.heap.size w2
        go_upto_region 8 with fail

        refine wp_region_tail (by kernel_rfl) (by kernel_rfl) (by kernel_rfl) (by kernel_rfl) (by kernel_rfl) ?_
        simp only [calm, headOps, tailOps, List.length_cons, List.length_nil, List.drop_succ_cons, List.drop_zero, Nat.zero_add, Nat.reduceAdd]
        go_big_quiet_step (fail)
        go_big_quiet_step (fail)
        go_big_quiet_step (fail)
        go_big_quiet_step (fail)
        go_big_quiet_step (fail)
        go_big_quiet_step (fail)
        go_big_quiet_step (fail)
        go_big_quiet_step (fail)
        go_big_quiet_step (fail)
        go_big_quiet_step (fail)
        go_big_quiet_step (fail)
        go_big_quiet_step (fail)
        go_big_quiet_step (fail)
        go_big_quiet_step (fail)
        refine wpQuiet_nil ?_
        intro XX
        have c_1 := step_trans hww XX.h
        clear hww
        have hrX := World.rowIs.of_block (w := w2) hr2 (XX.h.block _ (by omega))
        have fX := hrX.frozen I
        have hgX := World.grownBy.trans hg2 (grown_below XX.h)
        have hup2 := up_row2 hrX (v := .int .u32 (digI N I)) rfl
        have hHI : Hid (I + 1 = L + (p + 1)) := hid (by have := HI.out; omega)
        go_wp2_with fail
        go_roundw
        case rel => exact ⟨p + 1, by have := hHI.out; omega, by have := hHI.out; go_num, by rw [← hHI.out]; exact hup2, grown_set hgX rfl _⟩
        case measure => simp [intOf] <;> omega
    · obtain rfl : I = 8 := by omega
      have m8 : Num wr B 26 N := num_of_row hr fun j hj => by rw [if_pos hj]
      have qr1 := qr.grown hg (ne_some hne2)
      have zs := hg.size
      have zg := gb2.size
      clear hI HI
      go_wp2_with (first | (refine wpList_load_num rfl _ (.tmp 5) rfl _ rfl _ _ _ m8 Try.underlying26 rfl size26 ?_) | (refine wpList_store_num rfl _ (.tmp 4) _ rfl _ rfl _ rfl _ rfl qr1 size26 ?_; intro w3 g3 m3))
      exact bodyPost_ret (results_num rfl rfl m3 Try.underlying26 rfl size26) rfl ⟨rfl, below_of_grown (below_of_grown gb2 hg zg (by omega)) g3 (by omega) (by omega)⟩
end Go.Proofs.Ytcfobgimpflneaa
