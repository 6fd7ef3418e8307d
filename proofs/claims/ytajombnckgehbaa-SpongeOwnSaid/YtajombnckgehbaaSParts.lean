/- sentinelref3: Parts, Mac, Of. -/
import Derived.Test.YtajombnckgehbaaSWithin
import Derived.Deep.RegionHeld3
import Derived.Deep.Upon
namespace Go.Proofs.Ytajombnckgehbaa
set_option linter.unusedVariables false
set_option linter.unusedSimpArgs false
open Go.ChangeShapes Go.WideShapes Go.ChangeAt Go.RowKit Go.Shelf

/-- An append, at a step of a region that draws its order; nothing to append is borne. -/
theorem step_append_byt {ops : Array Oper} {o : Oper} {a : Act} {w : World} {K : Act → World → Prop} {Q : Exit → Act → World → Prop} {E : Prop} (hgd : o.guard = none) (s x : Operand)
    (ho : o.op = .call { callee := .builtin .append, args := #[s, x], argTypes := #[29, 29] })
    (base : Nat) (v : Value) (l r : List UInt8) (hs : a.eval s = v) (hown : Byt w base v l) (A : Option Addr) (m c : Nat) (hx : a.eval x = .slice A m c) (hr : r.length = m) (hA : A = none → c = 0) (hR : Rd w A r)
    (hle : l.length + r.length ≤ 1000000) (hbase : base ≤ w.heap.size)
    (h : ∀ A2 c2 w', Byt w' base (.slice A2 (l.length + m) c2) (l ++ r) → Below base w w' → K (a.put o.dst (.slice A2 (l.length + m) c2)) w') :
    if Region.wanted o (yielded ops a.tmps) = true then Oper.wp Try.prog o a w K Q else E := by
  by_cases hm : 0 < m
  · cases A with
    | none => obtain ⟨ad, e, _⟩ := hR (by omega); cases e
    | some ad => exact step_append_bytes hgd s x ho base v l r hs hown ad m c hx hr hm hR hle hbase fun g cap w' h1 h2 _ _ _ => h _ _ w' h1 h2
  · obtain rfl : m = 0 := by omega
    obtain rfl : r = [] := List.eq_nil_of_length_eq_zero hr
    obtain ⟨i, hi1, hi2, hi3, hi4⟩ := info_u8
    obtain ⟨A2, c2, e2, h1, h2, _⟩ := id hown.slice
    subst e2
    have hw : Region.wanted o (yielded ops a.tmps) = true := by simp [Region.wanted, hgd]
    rw [if_pos hw]
    have hsrc : Go.Src Try.prog i.size 29 (.slice A 0 c) 0 [] w := by
      cases A with
      | none => exact Go.Src.ofNil w Try.underlying29 c
      | some ad => exact Go.Src.ofSlice w Try.underlying29 ad 0 c [] (by simp) (fun j u hu => by simp at hu) (fun u hu => by cases hu)
    have hrun := run_append_nothing (P := Try.prog) w 29 29 o.type 5 i Try.underlying29 hi1 A2 l.length c2 h1 (.slice A 0 c) hsrc
    unfold Oper.wp execOp
    simp only [ho, resolve, invoke, builtin, Sem.run_bind, Sem.run_pure, Result.andThen_ok, List.map_toArray, List.map_cons, List.map_nil, hs, hx, hrun]
    exact h A2 c2 w (by rw [List.append_nil]; exact hown) (Below.refl _ _)
set_option maxHeartbeats 8000000 in
set_option maxRecDepth 100000 in
theorem rparts_any (B : Option Addr) (L : List (List UInt8)) (n d : Nat) (hn : L.length = n) (hd : n ≤ d) (hnl : n ≤ 10) (hl : ∀ l ∈ L, l.length ≤ 2000) (w : World) (hP : PRd w B L) :
    Calls Try.prog 43 #[.slice B n d] w fun e w' => ∃ v, e = .returned v ∧ Byt w' w.heap.size v (cat L) ∧ (cat L).length ≤ 2008 * n ∧ Below w.heap.size w w' := by
  have HN := hid hn
  have HL := hid hl
  have CL : Hid (∀ k, (cat (L.take k)).length ≤ 2008 * k) := hid (fun k => by
    induction k with
    | zero => simp [cat]
    | succ k ih =>
      by_cases hk : k < L.length
      · rw [List.take_succ_eq_append_getElem hk, cat_snoc, List.length_append, List.length_append, eightL_len]
        have := hl L[k] (List.getElem_mem hk)
        omega
      · rw [List.take_of_length_le (by omega)]
        rw [List.take_of_length_le (by omega)] at ih
        omega)
  clear hn hl
  go_enter Try.func43, Try.ntmps43
  go_wp2
  go_loopw [3, 4] (fun v i wr => ∃ k : Nat, k ≤ n ∧ i = .int .i64 (k : Int) ∧ Byt wr w.heap.size v (cat (L.take k)) ∧ Below w.heap.size w wr) (fun _ i _ => 20 - (intOf i).toNat)
  case atStart => exact ⟨0, by omega, rfl, Byt.nil _ _, Below.refl _ _⟩
  case round =>
    obtain ⟨k, hk, rfl, hv, hB⟩ := hrel
    by_cases hlt : k < n
    · obtain ⟨b, o, rfl, hb, hj⟩ := hP (by rw [HN.out]; omega)
      have hkL : k < L.length := by rw [HN.out]; exact hlt
      obtain ⟨A', c', hc, q1, q2, q3, q4⟩ := hj k L[k] (List.getElem?_eq_getElem hkL)
      have hsnoc : Hid (cat (L.take k) ++ eightL L[k].length ++ L[k] = cat (L.take (k + 1))) := hid (by rw [List.take_succ_eq_append_getElem hkL, cat_snoc])
      have hm := HL.out L[k] (List.getElem_mem hkL)
      have hcl := CL.out k
      obtain ⟨l, hl⟩ : ∃ l, l = L[k] := ⟨_, rfl⟩
      rw [← hl] at hc q1 q4 hsnoc hm
      obtain ⟨m, hml⟩ : ∃ m, l.length = m := ⟨_, rfl⟩
      rw [hml] at hc q1 hsnoc hm
      obtain ⟨C, hC⟩ : ∃ C, C = cat (L.take k) := ⟨_, rfl⟩
      rw [← hC] at hv hsnoc hcl
      have hz := hB.size
      have hcr := hB.cell (p := ⟨b, o + k, none⟩) hb
      rw [hc] at hcr
      have hml' := hid hml
      have hkn : (k : Int) < (n : Int) := by omega
      have hk0 : (0 : Int) ≤ (k : Int) := Int.natCast_nonneg _
      obtain ⟨A1, c1, rfl, p1, p2, p3, p4⟩ := hv.slice
      have hvn := hv
      obtain ⟨y, hy⟩ : ∃ y, C.length = y := ⟨_, rfl⟩
      rw [hy] at hv hcl p1 ⊢
      have hy' := hid hy
      clear hl hj hC hml hy hP hc p3 p4 hvn
      go_wp2_with fail
      go_region_held3 (fun w' => w'.cell? ⟨b, o + k, none⟩ = some (.slice A' m c')) (first | exact hcr | (rw [hb3.cell (p := ⟨b, o + k, none⟩) (by simp; omega)]; assumption) | (rw [hb2.cell (p := ⟨b, o + k, none⟩) (by simp; omega)]; assumption) | (rw [b1.cell (p := ⟨b, o + k, none⟩) (by simp; omega)]; assumption))
        (first
          | (refine (reight_any m (by omega) _).mono ?_; rintro e w1 ⟨v1, rfl, h1, b1⟩; obtain ⟨A3, c3, rfl, s1, s2, s3, s4⟩ := h1.slice; have nn3 := h1.none0; have hv1 := (show Byt wr.drew _ _ _ from hv).step b1; have B1q : Below w.heap.size w w1 := hB.trans (((step_drew wr).mono hz).trans (b1.mono hz)); have z1 := B1q.size)
          | (refine step_append_byt (by rfl) (.tmp 11) (.tmp 17) (by rfl) w.heap.size _ C (eightL m) (by rfl) hv1 A3 _ c3 (by rfl) (by rfl) nn3 s3 (by rw [eightL_len, hy'.out]; omega) z1 ?_; intro A4 c4 w2 h2 hb2; have B2q := B1q.trans hb2; have z2 := B2q.size)
          | (refine step_append_byt (by rfl) (.tmp 18) (.tmp 22) (by rfl) w.heap.size _ (C ++ eightL m) l (by rfl) h2 A' m c' (by rfl) hml'.out q3 (q4.below B2q (Nat.le_refl _)) (by rw [List.length_append, eightL_len, hy'.out, hml'.out]; omega) z2 ?_; intro A5 c5 w3 h3 hb3; have B3q := B2q.trans hb3))
      rw [hsnoc.out, List.length_append] at h3
      clear hsnoc
      go_wp2
      go_roundw
      case rel => exact ⟨k + 1, by omega, by go_num, h3, B3q⟩
      case measure => simp [intOf]; omega
    · obtain rfl : k = n := by omega
      have hcl := CL.out k
      rw [List.take_of_length_le (by rw [HN.out]; omega)] at hv hcl
      go_wp2
      go_ret
      exact ⟨_, rfl, hv, hcl, hB⟩
set_option maxHeartbeats 4000000 in
set_option maxRecDepth 100000 in
theorem rmac_any (A : Option Addr) (key : List UInt8) (n c : Nat) (hn : key.length = n) (hA : A = none → c = 0) (hnl : n ≤ 2000) (B : Option Addr) (L : List (List UInt8)) (k d : Nat) (hk : L.length = k) (hd : k ≤ d) (hkl : k ≤ 10) (hl : ∀ l ∈ L, l.length ≤ 2000) (hcl : (cat L).length ≤ 5000) (w : World) (hR : Rd w A key) (hP : PRd w B L) :
    Calls Try.prog 25 #[.slice A n c, .slice B k d] w fun e w' => e = .returned (.agg (arr16 (outF (macW key L)))) ∧ Below w.heap.size w w' := by
  have b0 := step_alloc w (.cells #[Value.int .u8 0, .int .u8 0, .int .u8 0, .int .u8 0, .int .u8 0, .int .u8 0, .int .u8 0, .int .u8 0, .int .u8 0, .int .u8 0, .int .u8 0, .int .u8 0, .int .u8 0, .int .u8 0, .int .u8 0, .int .u8 0] 35)
  have z0 := Blk.new w 35 #[Value.int .u8 0, .int .u8 0, .int .u8 0, .int .u8 0, .int .u8 0, .int .u8 0, .int .u8 0, .int .u8 0, .int .u8 0, .int .u8 0, .int .u8 0, .int .u8 0, .int .u8 0, .int .u8 0, .int .u8 0, .int .u8 0]
  have P0 := hP.step b0
  have R0 := hR.step b0
  go_enter Try.func25, Try.ntmps25
  go_wp2_with fail
  refine (rparts_any B L k d hk hd hkl hl _ P0).mono ?_
  rintro e w1 ⟨v1, rfl, h1, _, b1⟩
  obtain ⟨A1, c1, rfl, q1, q2, q3, q4⟩ := h1.slice
  have nn1 := h1.none0
  have z1 := z0.step b1
  have R1 := R0.step b1
  have B1 := step_trans b0 b1
  clear h1 b1 z0 P0 R0 b0 hR hP
  go_wp2_with fail
  refine (rraw_any A key n c hn hA hnl A1 (cat L) _ c1 rfl nn1 hcl w1 R1 q3).mono ?_
  rintro e w2 ⟨rfl, b2⟩
  have z2 := z1.step b2
  have B2 := step_trans B1 b2
  obtain ⟨F, hF⟩ : ∃ F, F = sumW (initW key) (cat L) := ⟨_, rfl⟩
  have HF : Hid (macW key L = F) := hid (by unfold macW; rw [sumW_feed, hF])
  rw [← hF]
  clear hF z1 b2 B1 R1 q3
  go_wp2_with (refine wpList_store_blk rfl _ (.tmp 4) _ rfl _ rfl _ rfl (arr16_one _) _ z2 rfl size35 ?_; intro w5 g5 c5)
  exact bodyPost_ret (results_blk rfl rfl c5 Try.underlying35 rfl size35) rfl ⟨by rw [HF.out], below_of_grown B2 g5 B2.size (Nat.le_refl _)⟩
set_option maxHeartbeats 4000000 in
set_option maxRecDepth 100000 in
theorem rof_any (B : Option Addr) (L : List (List UInt8)) (k d : Nat) (hk : L.length = k) (hd : k ≤ d) (hkl : k ≤ 10) (hl : ∀ l ∈ L, l.length ≤ 2000) (hcl : (cat L).length ≤ 5000) (w : World) (hP : PRd w B L) :
    Calls Try.prog 27 #[.slice B k d] w fun e w' => e = .returned (.agg (arr16 (outF (macW [] L)))) ∧ Below w.heap.size w w' := by
  have b0 := step_alloc w (.cells #[Value.int .u8 0, .int .u8 0, .int .u8 0, .int .u8 0, .int .u8 0, .int .u8 0, .int .u8 0, .int .u8 0, .int .u8 0, .int .u8 0, .int .u8 0, .int .u8 0, .int .u8 0, .int .u8 0, .int .u8 0, .int .u8 0] 35)
  have z0 := Blk.new w 35 #[Value.int .u8 0, .int .u8 0, .int .u8 0, .int .u8 0, .int .u8 0, .int .u8 0, .int .u8 0, .int .u8 0, .int .u8 0, .int .u8 0, .int .u8 0, .int .u8 0, .int .u8 0, .int .u8 0, .int .u8 0, .int .u8 0]
  have P0 := hP.step b0
  go_enter Try.func27, Try.ntmps27
  go_wp2_with fail
  refine (rparts_any B L k d hk hd hkl hl _ P0).mono ?_
  rintro e w1 ⟨v1, rfl, h1, _, b1⟩
  obtain ⟨A1, c1, rfl, q1, q2, q3, q4⟩ := h1.slice
  have nn1 := h1.none0
  have z1 := z0.step b1
  have B1 := step_trans b0 b1
  clear h1 b1 z0 P0 b0 hP
  go_wp2_with fail
  refine (rraw_any none [] 0 0 rfl (fun _ => rfl) (by omega) A1 (cat L) _ c1 rfl nn1 hcl w1 (fun h => absurd h (by simp)) q3).mono ?_
  rintro e w2 ⟨rfl, b2⟩
  have z2 := z1.step b2
  have B2 := step_trans B1 b2
  obtain ⟨F, hF⟩ : ∃ F, F = sumW (initW []) (cat L) := ⟨_, rfl⟩
  have HF : Hid (macW [] L = F) := hid (by unfold macW; rw [sumW_feed, hF])
  rw [← hF]
  clear hF z1 b2 B1 q3
  go_wp2_with (refine wpList_store_blk rfl _ (.tmp 2) _ rfl _ rfl _ rfl (arr16_one _) _ z2 rfl size35 ?_; intro w5 g5 c5)
  exact bodyPost_ret (results_blk rfl rfl c5 Try.underlying35 rfl size35) rfl ⟨by rw [HF.out], below_of_grown B2 g5 B2.size (Nat.le_refl _)⟩
end Go.Proofs.Ytajombnckgehbaa
