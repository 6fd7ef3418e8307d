/- sponge.Stream, slices.Clip. -/
import Derived.Test.YtffoekgopooeaaaSRaw
namespace Go.Proofs.Ytffoekgopooeaaa
set_option linter.unusedVariables false
set_option linter.unusedSimpArgs false
open Go.ChangeShapes Go.WideShapes Go.ChangeAt Go.RowKit Go.Shelf

theorem add_zero' (a : Addr) : a.add 0 = a := by obtain ⟨b, o, s⟩ := a; simp [Addr.add]
theorem map_add_zero (A : Option Addr) (k : Nat) : A.map (·.add (0 * k)) = A := by cases A <;> simp [add_zero']
theorem slice_h (w : World) (A : Option Addr) (n c k : Nat) (hk : k ≤ c) : (Instr.sliceAt 23 (.slice A n c) none (some (.int .i64 (k : Int))) none).run Try.prog w = .ok (.slice A k c) w := by
  have hu : Try.prog.underlying 23 = some (.slice (Try.prog.elem 23)) := by rw [elem_u8s]; exact Try.underlying23
  rw [run_sliceAt_slice _ _ _ _ _ _ hu, run_slice_h _ _ _ _ _ hu .i64 k (by omega) (by omega), elem_u8s, sizeOf_u8]
  simp only [Result.andThen_ok, sliced, Int.toNat_natCast, map_add_zero, ite_self, Nat.sub_zero]
theorem slice_hm (w : World) (A : Option Addr) (n c k : Nat) (hk : k ≤ c) : (Instr.sliceAt 23 (.slice A n c) none (some (.int .i64 (k : Int))) (some (.int .i64 (k : Int)))).run Try.prog w = .ok (.slice A k k) w := by
  have hu : Try.prog.underlying 23 = some (.slice (Try.prog.elem 23)) := by rw [elem_u8s]; exact Try.underlying23
  rw [run_sliceAt_slice _ _ _ _ _ _ hu, run_slice_hm _ _ _ _ _ hu .i64 .i64 k k (by omega) (by omega) (by omega), elem_u8s, sizeOf_u8]
  simp only [Result.andThen_ok, sliced, Int.toNat_natCast, map_add_zero, ite_self, Nat.sub_zero]
theorem slice_sum (w : World) (g : Nat) : (Instr.sliceAt 69 (.pointer (some ⟨g, 0, none⟩)) none none none).run Try.prog w = .ok (.slice (some ⟨g, 0, none⟩) 16 16) w := by
  have hl : Try.prog.arrayLen 69 = 16 := by kernel_rfl
  have he : Try.prog.elem 69 = 5 := by kernel_rfl
  have hu : Try.prog.underlying 69 = some (.array (Try.prog.arrayLen 69) (Try.prog.elem 69)) := by rw [hl, he]; exact Try.underlying69
  rw [run_sliceAt_array_all w 69 ⟨g, 0, none⟩ hu, he, sizeOf_u8]
  simp only [Result.andThen_ok, slicedAt, hl]
  simp [add_zero']
/-- A Sum's bytes. -/
def sumL (s : W8) : List UInt8 := (List.range 16).map fun j => UInt8.ofNat (outF s j).toNat
theorem sumL_len (s : W8) : (sumL s).length = 16 := by simp [sumL]
theorem sumL_val (s : W8) (j : Nat) : (((UInt8.ofNat (outF s j).toNat).toNat : Nat) : Int) = outF s j := by
  have := outF_bd s j
  have e : (UInt8.ofNat (outF s j).toNat).toNat = (outF s j).toNat := by simp; omega
  rw [e, Int.toNat_of_nonneg this.1]
theorem sumL_bvs (s : W8) : bvs (sumL s) = arr16 (outF s) := by
  unfold bvs sumL
  rw [List.map_map]
  have : (bv ∘ fun j => UInt8.ofNat (outF s j).toNat) = fun j => Value.int .u8 (outF s j) := by
    funext j
    simp only [Function.comp, bv, sumL_val]
  rw [this]
  rfl
theorem sum_rd {w : World} {g : Nat} {t : TypeId} {s : W8} (h : Blk w g t (arr16 (outF s))) : Rd w (some ⟨g, 0, none⟩) (sumL s) :=
  Bts.rd (t := t) (by unfold Bts; rw [sumL_bvs]; exact h)
def stB (key : List UInt8) : Nat → List UInt8
  | 0 => []
  | k + 1 => stB key k ++ sumL (macW key [eightL k])
theorem stB_len (key : List UInt8) (k : Nat) : (stB key k).length = 16 * k := by
  induction k with
  | zero => rfl
  | succ k ih => rw [stB, List.length_append, ih, sumL_len]; omega
theorem stB_take (key : List UInt8) (n : Nat) : ∀ k, n ≤ 16 * k → (stB key k).take n = (stB key ((n + 15) / 16)).take n := by
  have h : ∀ j k, n ≤ 16 * k → (stB key (k + j)).take n = (stB key k).take n := fun j => by
    induction j with
    | zero => intros; rfl
    | succ j ih => intro k hk; rw [← Nat.add_assoc, stB, List.take_append_of_le_length (by rw [stB_len]; omega), ih k hk]
  intro k hk
  have := h (k - (n + 15) / 16) ((n + 15) / 16) (by omega)
  rwa [show (n + 15) / 16 + (k - (n + 15) / 16) = k by omega] at this
/-- A Stream's bytes. -/
def streamL (key : List UInt8) (n : Nat) : List UInt8 := (stB key ((n + 15) / 16)).take n
theorem streamL_len (key : List UInt8) (n : Nat) : (streamL key n).length = n := by
  unfold streamL; rw [List.length_take, stB_len]; omega
theorem Rd.take {w : World} {A : Option Addr} {l : List UInt8} (h : Rd w A l) (k : Nat) : Rd w A (l.take k) := fun hp => by
  have hp' : 0 < l.length := by rw [List.length_take] at hp; omega
  obtain ⟨ad, e, hb, hc⟩ := h hp'
  refine ⟨ad, e, hb, fun j b hj => hc j b ?_⟩
  rw [List.getElem?_take] at hj
  split at hj
  · exact hj
  · cases hj
theorem eight_rd (n : Nat) (hn : (n : Int) < 9223372036854775808) (w : World) :
    Calls Try.prog 39 #[.int .i64 (n : Int)] w fun e w' => e = .returned (.slice (some ⟨w.heap.size, 0, none⟩) 8 8) ∧ Below w.heap.size w w' ∧ Rd w' (some ⟨w.heap.size, 0, none⟩) (eightL n) := by
  refine (eight_any (n : Int) (Int.natCast_nonneg _) hn w).mono ?_
  rintro e w' ⟨rfl, hb, hr⟩
  refine ⟨rfl, hb, fun _ => ⟨_, rfl, hr.lt, fun j b hj => ?_⟩⟩
  have hj8 : j < 8 := by have := (List.getElem?_eq_some_iff.1 hj).1; rwa [eightL_len] at this
  rw [addr_add, Nat.zero_add, hr.cell hj8]
  unfold eightL at hj
  rw [List.getElem?_map, List.getElem?_range hj8] at hj
  obtain rfl := Option.some.inj hj
  unfold bv
  have := byt_bd (n : Int) j
  have e : (UInt8.ofNat (byt (n : Int) j).toNat).toNat = (byt (n : Int) j).toNat := by simp; omega
  rw [e, Int.toNat_of_nonneg this.1]
/-- One part, in a slice of its own. -/
theorem prd_one {w : World} {A : Option Addr} {l : List UInt8} {n c : Nat} (hn : l.length = n) (h1 : n ≤ c) (h2 : c ≤ maxLen) (h3 : A = none → c = 0) (hR : Rd w A l) :
    PRd (w.alloc (.cells #[.slice A n c] 23)) (some ⟨w.heap.size, 0, none⟩) [l] := fun _ => by
  refine ⟨w.heap.size, 0, rfl, by simp, fun j l' hj => ?_⟩
  obtain rfl : j = 0 := by
    have := (List.getElem?_eq_some_iff.1 hj).1
    simp at this; omega
  obtain rfl : l = l' := Option.some.inj hj
  exact ⟨A, c, by rw [hn]; exact (Blk.new w 23 #[.slice A n c]).cell (k := 0) rfl, by rw [hn]; exact h1, h2, h3, hR.step (step_alloc w _)⟩
end Go.Proofs.Ytffoekgopooeaaa
