/- mont: add. -/
import Derived.Test.YtgccbfkofkohpaaGaMt
import Derived.Test.YtgccbfkofkohpaaMul
namespace Go.Proofs.Ytgccbfkofkohpaa
set_option linter.unusedVariables false
set_option maxRecDepth 20000
set_option linter.unusedSimpArgs false
open Go.ChangeShapes Go.WideShapes Go.ChangeAt Go.RowKit
/-- A sum's digits, and what is carried. -/
theorem mt_digits {S d B : Nat} (hS : S < 4294967296 ^ 8) (hB : B < 4294967296 ^ 8) :
    cyM (d : Int) (digI S) (digI B) 8 = (((S + d * B) / 4294967296 ^ 8 : Nat) : Int) ∧ ∀ j, j < 8 → zM (d : Int) (digI S) (digI B) j = digI ((S + d * B) % 4294967296 ^ 8) j := by
  have hv := valM (d : Int) (digI S) (digI B) 8
  rw [valI_dig, valI_dig, Nat.mod_eq_of_lt hS, Nat.mod_eq_of_lt hB] at hv
  obtain ⟨N, hN⟩ : ∃ N, S + d * B = N := ⟨_, rfl⟩
  have hN' : (S : Int) + (d : Int) * (B : Int) = (N : Int) := by rw [← hN]; push_cast; rfl
  rw [hN'] at hv
  rw [hN]
  have hb := valI_bd (z := zM (d : Int) (digI S) (digI B)) (m := 8) (fun k _ => zM_bd _ _ _ k)
  have hP : (0 : Int) < 4294967296 ^ 8 := by decide
  have c1 : ((N / 4294967296 ^ 8 : Nat) : Int) = (N : Int) / 4294967296 ^ 8 := by rw [Int.natCast_ediv, Int.natCast_pow]; rfl
  have c2 : ((N % 4294967296 ^ 8 : Nat) : Int) = (N : Int) % 4294967296 ^ 8 := by rw [Int.natCast_emod, Int.natCast_pow]; rfl
  refine ⟨?_, digI_of (fun k _ => zM_bd _ _ _ k) (Nat.mod_lt _ (by decide)) ?_⟩
  · rw [c1, ← hv, Int.add_mul_ediv_right _ _ (by decide), Int.ediv_eq_zero_of_lt hb.1 hb.2, Int.zero_add]
  · rw [c2, ← hv, Int.add_mul_emod_self_right, Int.emod_eq_of_lt hb.1 hb.2]
set_option maxRecDepth 100000 in
set_option maxHeartbeats 8000000 in
theorem mtadd_any (g S d B : Nat) (T : TypeId) (hS : S < 4294967296 ^ 8) (hd : d < 4294967296) (hB : B < 4294967296 ^ 8) (w : World) (hG : Num w g T S) :
    Calls Try.prog 97 #[.pointer (some ⟨g, 0, none⟩), .int .u32 (d : Int), numV B] w fun e w' => e = .returned (.int .u64 (((S + d * B) / 4294967296 ^ 8 : Nat) : Int)) ∧ Num w' g T ((S + d * B) % 4294967296 ^ 8) ∧ w.grownBy w' (some g) := by
  obtain ⟨q1, q2⟩ := mt_digits (d := d) hS hB
  have Q1 := hid q1
  have Q2 := hid q2
  obtain ⟨D, hD⟩ : ∃ D : Int, (d : Int) = D := ⟨_, rfl⟩
  have hd1 : 0 ≤ D ∧ D < 4294967296 := by omega
  rw [hD] at Q1 Q2 ⊢
  have HCB := hid (fun j => cyM_bd (d := D) (x := digI S) (y := digI B) hd1 (fun i => ⟨digI_ge _ _, digI_lt _ _⟩) (fun i => ⟨digI_ge _ _, digI_lt _ _⟩) j)
  have h0 := hG.row
  have hgl := hG.lt
  have b0 : w.grownBy (w.alloc (.cells (numA B) 26)) (some g) := World.grownBy_alloc w _ _
  have hr0 : (w.alloc (.cells (numA B) 26)).rowIs g T 8 (numF S) := (hG.alloc _).row
  have nb := Num.new w 26 B
  have hne : g ≠ w.heap.size := by omega
  obtain ⟨d1, d2⟩ := hd1
  clear q1 q2 hD hd hG h0
  go_enter Try.func97, Try.ntmps97
  go_wp2_with (refine wpList_load_num rfl _ (.tmp 5) rfl _ rfl _ _ _ nb Try.underlying26 rfl size26 ?_)
  generalize World.alloc w _ = W at *
  go_loopw [7, 11] (fun cy j wi => ∃ p : Nat, p ≤ 8 ∧ j = .int .i64 (p : Int) ∧ cy = .int .u64 (cyM D (digI S) (digI B) p) ∧ wi.rowIs g T 8 (fun j => if j < p then .int .u32 (zM D (digI S) (digI B) j) else numF S j) ∧ w.grownBy wi (some g)) (fun _ j _ => 8 - (intOf j).toNat)
  case atStart => exact ⟨0, by omega, rfl, rfl, hr0.congr fun j _ => by rw [if_neg (by omega)], b0⟩
  case round =>
    obtain ⟨p, hp, rfl, rfl, hq, hg⟩ := hrel
    clear hr0 b0 nb
    by_cases hlp : p < 8
    · have s2 := hq.cell (i := p) hlp
      rw [if_neg (by omega), numF] at s2
      have s3 := hq.frozen p
      obtain ⟨cb0, cb1⟩ := HCB.out p
      have y0 := digI_ge B p
      have y1 := digI_lt B p
      have x0 := digI_ge S p
      have x1 := digI_lt S p
      obtain ⟨pd0, pd1⟩ := prod_bd ⟨d1, d2⟩ ⟨y0, y1⟩
      have e1 := Go.IntWalk.u64_in (D * digI B p) (by omega)
      have e2 := Go.IntWalk.u64_in (D * digI B p + digI S p) (by omega)
      have e3 := Go.IntWalk.u64_in (cyM D (digI S) (digI B) p + (D * digI B p + digI S p)) (by omega)
      have hix := fun w' => index_num B p hlp w'
      go_wp2
      go_roundw
      case rel =>
        refine ⟨p + 1, by omega, by go_num, rfl, ?_, grown_set hg rfl _⟩
        refine (hq.set p _).congr fun j hj => ?_
        by_cases e : j = p
        · subst e
          rw [if_pos rfl, if_pos (by omega), zM]
        · rw [if_neg e]
          by_cases h1 : j < p
          · rw [if_pos h1, if_pos (by omega)]
          · rw [if_neg h1, if_neg (by omega)]
      case measure => simp [intOf] <;> omega
    · obtain rfl : p = 8 := by omega
      rw [Q1.out]
      go_wp2
      go_ret
      exact ⟨rfl, num_of_row hq fun j hj => by rw [if_pos hj, Q2.out j hj]; rfl, hg⟩
end Go.Proofs.Ytgccbfkofkohpaa
