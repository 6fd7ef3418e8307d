/- sponge.Stream, slices.Clip. -/
import Derived.Test.YtajombnckgehbaaSRaw
namespace Go.Proofs.Ytajombnckgehbaa
set_option linter.unusedVariables false
set_option linter.unusedSimpArgs false
open Go.ChangeShapes Go.WideShapes Go.ChangeAt Go.RowKit Go.Shelf

theorem add_zero' (a : Addr) : a.add 0 = a := by obtain ⟨b, o, s⟩ := a; simp [Addr.add]
theorem map_add_zero (A : Option Addr) (k : Nat) : A.map (·.add (0 * k)) = A := by cases A <;> simp [add_zero']
theorem slice_h (w : World) (A : Option Addr) (n c k : Nat) (hk : k ≤ c) : (Instr.sliceAt 29 (.slice A n c) none (some (.int .i64 (k : Int))) none).run Try.prog w = .ok (.slice A k c) w := by
  have hu : Try.prog.underlying 29 = some (.slice (Try.prog.elem 29)) := by rw [elem_u8s]; exact Try.underlying29
  rw [run_sliceAt_slice _ _ _ _ _ _ hu, run_slice_h _ _ _ _ _ hu .i64 k (by omega) (by omega), elem_u8s, sizeOf_u8]
  simp only [Result.andThen_ok, sliced, Int.toNat_natCast, map_add_zero, ite_self, Nat.sub_zero]
theorem slice_hm (w : World) (A : Option Addr) (n c k : Nat) (hk : k ≤ c) : (Instr.sliceAt 29 (.slice A n c) none (some (.int .i64 (k : Int))) (some (.int .i64 (k : Int)))).run Try.prog w = .ok (.slice A k k) w := by
  have hu : Try.prog.underlying 29 = some (.slice (Try.prog.elem 29)) := by rw [elem_u8s]; exact Try.underlying29
  rw [run_sliceAt_slice _ _ _ _ _ _ hu, run_slice_hm _ _ _ _ _ hu .i64 .i64 k k (by omega) (by omega) (by omega), elem_u8s, sizeOf_u8]
  simp only [Result.andThen_ok, sliced, Int.toNat_natCast, map_add_zero, ite_self, Nat.sub_zero]
theorem slice_sum (w : World) (g : Nat) : (Instr.sliceAt 35 (.pointer (some ⟨g, 0, none⟩)) none none none).run Try.prog w = .ok (.slice (some ⟨g, 0, none⟩) 16 16) w := by
  have hl : Try.prog.arrayLen 35 = 16 := by kernel_rfl
  have he : Try.prog.elem 35 = 5 := by kernel_rfl
  have hu : Try.prog.underlying 35 = some (.array (Try.prog.arrayLen 35) (Try.prog.elem 35)) := by rw [hl, he]; exact Try.underlying35
  rw [run_sliceAt_array_all w 35 ⟨g, 0, none⟩ hu, he, sizeOf_u8]
  simp only [Result.andThen_ok, slicedAt, hl]
  simp [add_zero']
/-- A Sum's bytes. -/
def sumL (s : W8) : List UInt8 := (List.range 16).map fun j => UInt8.ofNat (outF s j).toNat
theorem sumL_len (s : W8) : (sumL s).length = 16 := by simp [sumL]
theorem sumL_val (s : W8) (j : Nat) : (((UInt8.ofNat (outF s j).toNat).toNat : Nat) : Int) = outF s j := by
  have := outF_bd s j
  have e : (UInt8.ofNat (outF s j).toNat).toNat = (outF s j).toNat := by simp; omega
  rw [e, Int.toNat_of_nonneg this.1]
theorem sumL_bvs (s : W8) : bvs (sumL s) = arr16 (outF s) := by
  unfold bvs sumL
  rw [List.map_map]
  have : (bv ∘ fun j => UInt8.ofNat (outF s j).toNat) = fun j => Value.int .u8 (outF s j) := by
    funext j
    simp only [Function.comp, bv, sumL_val]
  rw [this]
  rfl
theorem sum_rd {w : World} {g : Nat} {t : TypeId} {s : W8} (h : Blk w g t (arr16 (outF s))) : Rd w (some ⟨g, 0, none⟩) (sumL s) :=
  Bts.rd (t := t) (by unfold Bts; rw [sumL_bvs]; exact h)
def stB (key : List UInt8) : Nat → List UInt8
  | 0 => []
  | k + 1 => stB key k ++ sumL (macW key [eightL k])
theorem stB_len (key : List UInt8) (k : Nat) : (stB key k).length = 16 * k := by
  induction k with
  | zero => rfl
  | succ k ih => rw [stB, List.length_append, ih, sumL_len]; omega
theorem stB_take (key : List UInt8) (n : Nat) : ∀ k, n ≤ 16 * k → (stB key k).take n = (stB key ((n + 15) / 16)).take n := by
  have h : ∀ j k, n ≤ 16 * k → (stB key (k + j)).take n = (stB key k).take n := fun j => by
    induction j with
    | zero => intros; rfl
    | succ j ih => intro k hk; rw [← Nat.add_assoc, stB, List.take_append_of_le_length (by rw [stB_len]; omega), ih k hk]
  intro k hk
  have := h (k - (n + 15) / 16) ((n + 15) / 16) (by omega)
  rwa [show (n + 15) / 16 + (k - (n + 15) / 16) = k by omega] at this
/-- A Stream's bytes. -/
def streamL (key : List UInt8) (n : Nat) : List UInt8 := (stB key ((n + 15) / 16)).take n
theorem streamL_len (key : List UInt8) (n : Nat) : (streamL key n).length = n := by
  unfold streamL; rw [List.length_take, stB_len]; omega
theorem Rd.take {w : World} {A : Option Addr} {l : List UInt8} (h : Rd w A l) (k : Nat) : Rd w A (l.take k) := fun hp => by
  have hp' : 0 < l.length := by rw [List.length_take] at hp; omega
  obtain ⟨ad, e, hb, hc⟩ := h hp'
  refine ⟨ad, e, hb, fun j b hj => hc j b ?_⟩
  rw [List.getElem?_take] at hj
  split at hj
  · exact hj
  · cases hj
set_option maxHeartbeats 4000000 in
set_option maxRecDepth 100000 in
theorem clip_any (A : Option Addr) (n c : Nat) (hn : n ≤ c) (w : World) :
    Calls Try.prog 45 #[.slice A n c] w fun e w' => e = .returned (.slice A n n) ∧ Below w.heap.size w w' := by
  have hs := slice_hm w A n c n hn
  go_enter Try.func45, Try.ntmps45
  go_wp2
  go_ret
  exact ⟨rfl, Below.refl _ _⟩
theorem eight_rd (n : Nat) (hn : (n : Int) < 9223372036854775808) (w : World) :
    Calls Try.prog 44 #[.int .i64 (n : Int)] w fun e w' => e = .returned (.slice (some ⟨w.heap.size, 0, none⟩) 8 8) ∧ Below w.heap.size w w' ∧ Rd w' (some ⟨w.heap.size, 0, none⟩) (eightL n) := by
  refine (eight_any (n : Int) (Int.natCast_nonneg _) hn w).mono ?_
  rintro e w' ⟨rfl, hb, hr⟩
  refine ⟨rfl, hb, fun _ => ⟨_, rfl, hr.lt, fun j b hj => ?_⟩⟩
  have hj8 : j < 8 := by have := (List.getElem?_eq_some_iff.1 hj).1; rwa [eightL_len] at this
  rw [addr_add, Nat.zero_add, hr.cell hj8]
  unfold eightL at hj
  rw [List.getElem?_map, List.getElem?_range hj8] at hj
  obtain rfl := Option.some.inj hj
  unfold bv
  have := byt_bd (n : Int) j
  have e : (UInt8.ofNat (byt (n : Int) j).toNat).toNat = (byt (n : Int) j).toNat := by simp; omega
  rw [e, Int.toNat_of_nonneg this.1]
/-- One part, in a slice of its own. -/
theorem prd_one {w : World} {A : Option Addr} {l : List UInt8} {n c : Nat} (hn : l.length = n) (h1 : n ≤ c) (h2 : c ≤ maxLen) (h3 : A = none → c = 0) (hR : Rd w A l) :
    PRd (w.alloc (.cells #[.slice A n c] 29)) (some ⟨w.heap.size, 0, none⟩) [l] := fun _ => by
  refine ⟨w.heap.size, 0, rfl, by simp, fun j l' hj => ?_⟩
  obtain rfl : j = 0 := by
    have := (List.getElem?_eq_some_iff.1 hj).1
    simp at this; omega
  obtain rfl : l = l' := Option.some.inj hj
  exact ⟨A, c, by rw [hn]; exact (Blk.new w 29 #[.slice A n c]).cell (k := 0) rfl, by rw [hn]; exact h1, h2, h3, hR.step (step_alloc w _)⟩
set_option maxHeartbeats 4000000 in
set_option maxRecDepth 100000 in
theorem stream_any (A : Option Addr) (key : List UInt8) (n c : Nat) (hn : key.length = n) (hc : n ≤ c) (hm : c ≤ maxLen) (hA : A = none → c = 0) (m : Nat) (hmm : m ≤ 1000) (w : World) (hR : Rd w A key) :
    Calls Try.prog 28 #[.slice A n c, .int .i64 (m : Int)] w fun e w' => ∃ v, e = .returned v ∧ IsB w' (streamL key m) v ∧ Below w.heap.size w w' := by
  have SL := hid (stB_len key)
  have ST := hid (fun k hk => stB_take key m k hk)
  have HM := hid hmm
  go_enter Try.func28, Try.ntmps28
  have d1 : decide ((m : Int) < 0) = false := by rw [decide_eq_false_iff_not]; omega
  have d2 : decide ((1000 : Int) < (m : Int)) = false := by rw [decide_eq_false_iff_not]; omega
  go_wp2
  go_loopw [5, 6] (fun v i wr => ∃ k : Nat, k ≤ 64 ∧ 16 * k < m + 16 ∧ i = .int .i64 (k : Int) ∧ Byt wr w.heap.size v (stB key k) ∧ Below w.heap.size w wr) (fun _ i _ => 100 - (intOf i).toNat)
  case atStart => exact ⟨0, by omega, by omega, rfl, Byt.nil _ _, Below.refl _ _⟩
  case round =>
    obtain ⟨k, hk, hkm, rfl, hv, hB⟩ := hrel
    have hlen := SL.out k
    have hz := hB.size
    obtain ⟨A1, c1, rfl, hc1, hm1, R1, hl1⟩ := hv.slice
    have nn1 := hv.none0
    rw [hlen] at hc1 hv ⊢
    by_cases hlt : 16 * k < m
    · have d3 : decide ((((16 * k : Nat) : Int)) < (m : Int)) = true := by rw [decide_eq_true_iff]; omega
      have hRr := hR.below hB (Nat.le_refl _)
      go_wp2_with fail
      refine (eight_rd k (by omega) _).mono ?_
      rintro e w1 ⟨rfl, b1, Re⟩
      have P1 := prd_one (eightL_len k) (Nat.le_refl 8) (by unfold maxLen; omega) (fun h => by cases h) Re
      have b1' := step_trans b1 (step_alloc w1 (.cells #[.slice (some ⟨wr.heap.size, 0, none⟩) 8 8] 29))
      have R2 := hRr.step b1'
      go_wp2_with fail
      refine (mac_any A key n c hn hc hm hA _ [eightL k] 1 1 rfl (Nat.le_refl _) (by unfold maxLen; omega) _ R2 P1).mono ?_
      rintro e w2 ⟨rfl, b2⟩
      have B2 : Below wr.heap.size wr w2 := step_trans b1' b2
      have v2 := hv.step B2
      obtain ⟨F, hF⟩ : ∃ F, F = macW key [eightL k] := ⟨_, rfl⟩
      have HF : Hid (stB key (k + 1) = stB key k ++ sumL F) := hid (by rw [hF]; rfl)
      rw [← hF]
      have z2 := Blk.new w2 35 #[Value.int .u8 0, .int .u8 0, .int .u8 0, .int .u8 0, .int .u8 0, .int .u8 0, .int .u8 0, .int .u8 0, .int .u8 0, .int .u8 0, .int .u8 0, .int .u8 0, .int .u8 0, .int .u8 0, .int .u8 0, .int .u8 0]
      have a2 := step_alloc w2 (.cells #[Value.int .u8 0, .int .u8 0, .int .u8 0, .int .u8 0, .int .u8 0, .int .u8 0, .int .u8 0, .int .u8 0, .int .u8 0, .int .u8 0, .int .u8 0, .int .u8 0, .int .u8 0, .int .u8 0, .int .u8 0, .int .u8 0] 35)
      have v2a := v2.step a2
      have hsl := fun w' => slice_sum w' w2.heap.size
      have l2 : (stB key k).length + (sumL F).length ≤ 1000000 := by rw [hlen, sumL_len]; omega
      have l3 : (stB key k).length = 16 * k := hlen
      clear hF Re P1 b1 b1' R2 hRr d3
      go_wp2_with (first | (refine wpList_store_blk rfl _ (.tmp 7) _ rfl _ rfl _ rfl (arr16_one _) _ z2 rfl size35 ?_; intro w3 g3 c3; have v3 := v2a.below (below_of_grown (Below.refl w2.heap.size _) g3 (by simp) (Nat.le_refl _)) (fun k e => (v2.lt k e).2); have r3 := sum_rd c3; have B3 : Below wr.heap.size wr w3 := below_of_grown (step_trans B2 a2) g3 (Nat.le_trans B2.size a2.size) B2.size) | (refine wpList_append_bytes rfl (.tmp 25) (.tmp 26) rfl w.heap.size _ _ (sumL F) rfl v3 _ 16 16 rfl (sumL_len F) (fun h => by cases h) r3 l2 (Nat.le_trans hz B3.size) ?_; intro v4 w4 h4 k4 g4))
      have B4 : Below w.heap.size w w4 := (hB.trans (B3.mono hz)).trans k4
      rw [← HF.out] at h4
      clear v3 r3 B3 B2 v2 z2 a2 v2a hsl g4 k4 c3 g3
      go_roundw
      case rel => exact ⟨k + 1, by omega, by omega, by go_num, h4, B4⟩
      case measure => simp [intOf]; omega
    · have d3 : decide ((((16 * k : Nat) : Int)) < (m : Int)) = false := by rw [decide_eq_false_iff_not]; omega
      have hsl := slice_h wr A1 (16 * k) c1 m (by omega)
      go_wp2_with fail
      refine (clip_any A1 m c1 (by omega) wr).mono ?_
      rintro e w1 ⟨rfl, b1⟩
      go_wp2
      go_ret
      refine ⟨_, rfl, ⟨A1, m, by rw [streamL_len]; rfl, by rw [streamL_len]; exact Nat.le_refl _, by omega, fun h => by have := nn1 h; omega, ?_⟩, hB.trans (b1.mono hz)⟩
      have e1 : streamL key m = (stB key k).take m := (ST.out k (by omega)).symm
      rw [e1]
      exact (R1.take m).step b1
end Go.Proofs.Ytajombnckgehbaa
