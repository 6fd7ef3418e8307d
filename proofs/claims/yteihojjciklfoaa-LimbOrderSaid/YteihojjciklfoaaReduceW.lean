/- limb.reduce: contract. -/
import Derived.Test.YteihojjciklfoaaReduce
namespace Go.Proofs.Yteihojjciklfoaa
set_option linter.unusedVariables false
set_option linter.unusedSimpArgs false
open Go.ChangeShapes Go.WideShapes Go.ChangeAt Go.RowKit

theorem valAI (x y : Nat → Int) (c : Int) : ∀ m, valI (zI x y c) m + cyI x y c m * 4294967296 ^ m = valI x m + valI y m + c
  | 0 => by simp [valI, cyI]
  | m + 1 => by
    have ih := valAI x y c m
    have e : zI x y c m + cyI x y c (m + 1) * 4294967296 = x m + y m + cyI x y c m := by simp only [zI, cyI]; omega
    simp only [valI, Int.pow_succ]
    generalize (4294967296 : Int) ^ m = P at *
    grind
theorem zI_bd (x y : Nat → Int) (c : Int) (k : Nat) : 0 ≤ zI x y c k ∧ zI x y c k < 4294967296 := by unfold zI; omega
/-- The window's number in a world. -/
def winI (w : World) (b o n : Nat) : Int := valI (fun k => cellI w b (o + k)) n
theorem winI_of {w : World} {b o n N : Nat} {T : TypeId} {f : Nat → Value} {z : Nat → Int} (h : w.rowIs b T N (fun j => if o ≤ j ∧ j < o + n then .int .u32 (z (j - o)) else f j)) (hN : o + n ≤ N) : winI w b o n = valI z n :=
  valI_congr fun k hk => cellI_of (by rw [h.cell (by omega), if_pos (by omega), Nat.add_sub_cancel_left])
set_option maxHeartbeats 800000 in
theorem reduce_any (b o n cap b2 o2 cap2 N : Nat) (T : TypeId) (f : Nat → Value) (x y : Nat → Int) (w : World)
   (hn : 1 ≤ n) (hn' : n ≤ 8) (hN : o + (n + 1) ≤ N) (hb : w.rowIs b T N f) (hf : ∀ k, k < n + 1 → f (o + k) = .int .u32 (x k))
   (hy : ∀ k, k < n → w.cell? ⟨b2, o2 + k, none⟩ = some (.int .u32 (y k))) (hne : b2 ≠ b) (hb2 : b2 < w.heap.size)
   (bx : ∀ k, 0 ≤ x k ∧ x k < 4294967296) (by_ : ∀ k, 0 ≤ y k ∧ y k < 4294967296) (hpos : 0 < y (n - 1)) (hW : valI x (n + 1) < valI y n * 4294967296) :
    Calls Try.prog 46 #[.slice (some ⟨b, o, none⟩) (n + 1) cap, .slice (some ⟨b2, o2, none⟩) n cap2] w fun e w' =>
      e = .returned (.tuple #[]) ∧ w.grownBy w' (some b) ∧ ∃ z : Nat → Int, (∀ k, 0 ≤ z k ∧ z k < 4294967296) ∧ valI z n = valI x (n + 1) % valI y n ∧
        w'.rowIs b T N (fun j => if o ≤ j ∧ j < o + n then .int .u32 (z (j - o)) else f j) := by
  have c1 : w.cell? ⟨b, o + n, none⟩ = some (.int .u32 (x n)) := by rw [hb.cell (by omega), hf n (by omega)]
  have c0 : w.cell? ⟨b, o + (n - 1), none⟩ = some (.int .u32 (x (n - 1))) := by rw [hb.cell (by omega), hf (n - 1) (by omega)]
  have cy := hy (n - 1) (by omega)
  have hs := hid (reduce_start hn bx by_ hpos hW _ rfl)
  have hgb : 0 ≤ guessI (x n) (x (n - 1)) (y (n - 1)) ∧ guessI (x n) (x (n - 1)) (y (n - 1)) < 4294967296 := by
    have : 0 ≤ (x n * 4294967296 + x (n - 1)) / y (n - 1) := Int.ediv_nonneg (by have := bx n; have := bx (n - 1); omega) (Int.le_of_lt hpos)
    unfold guessI; split <;> omega
  have HQ := hid hgb
  have hbl := hb.lt
  go_enter Try.func46, Try.ntmps46
  go_wp2_with fail
  refine (guess_any b o n cap b2 o2 cap2 (x n) (x (n - 1)) (y (n - 1)) w hn (by omega) c1 c0 cy (bx n) (bx (n - 1)) ⟨hpos, (by_ _).2⟩).mono ?_
  rintro e w1 ⟨rfl, hB1⟩
  generalize guessI (x n) (x (n - 1)) (y (n - 1)) = q at *
  clear hgb
  have r1 := hb.of_block (hB1.block b hbl)
  have s1 := hB1.size
  have y1 : ∀ k, k < n → w1.cell? ⟨b2, o2 + k, none⟩ = some (.int .u32 (y k)) := fun k hk => (hB1.cell (p := ⟨b2, o2 + k, none⟩) hb2).trans (hy k hk)
  go_wp2_with fail
  refine (less_any q _).mono ?_
  rintro e w2 ⟨rfl, rfl⟩
  go_wp2_with fail
  refine (along_debt b o (n + 1) cap b2 o2 n cap2 N T f x y q ⟨w1.heap.size, 0, none⟩ _ (by omega) (by unfold maxLen; omega) hN (r1.alloc _) (fun k hk => hf k (by omega)) (fun k hk => (grown_al (World.grownBy.refl w1 none) _).cell (y1 k hk) (by simp)) hne (by simp <;> omega) (World.cell?_alloc_new w1 _ _ 0) (by simp <;> omega) bx by_ HQ.out).mono ?_
  rintro e w3 ⟨rfl, hg3, hr3⟩
  obtain ⟨p1, p2⟩ := cP_bd HQ.out by_ n
  obtain ⟨l1, l2⟩ := bwI_bd bx (pP_bd q y) n
  obtain ⟨xn1, xn2⟩ := bx n
  have hx3 : (w3.alloc (.cells #[.int .u64 (cP q y n), .int .u32 (bwI x (pP q y) n)] 72)).cell? ⟨b, o + n, none⟩ = some (.int .u32 (x n)) := by
    rw [(hr3.alloc _).cell (by omega), if_neg (by omega), hf n (by omega)]
  have hix : (n : Int) < (n : Int) + 1 := by omega
  go_wp2_with fail
  go_quiet ((go_at_call 40; exact Calls.quiet_of_same ((sub32_any _ _ _ (by omega) (by omega) (by omega) (by omega) (by omega) (by omega) _).mono fun _ _ h => ⟨h.1, h.2.symm⟩)))
  obtain ⟨hs1, hs2, hs3, hs4⟩ := hs.out
  obtain ⟨P, hP⟩ : ∃ P : Int, P = 4294967296 ^ n := ⟨_, rfl⟩
  rw [← hP] at hs2 hs4
  obtain ⟨L, hL⟩ : ∃ L : Int, L = -((x n - cP q y n - bwI x (pP q y) n) / 4294967296) := ⟨_, rfl⟩
  have hL2 : L = -(x n - cP q y n - bwI x (pP q y) n) := by omega
  have hL1 : L = 0 ∨ L = 1 := by omega
  have hz : valI (zS x (pP q y)) n - L * P = valI x (n + 1) - q * valI y n := by rw [hL2]; grind
  have g4 : w.grownBy ((w3.alloc (.cells #[.int .u64 (cP q y n), .int .u32 (bwI x (pP q y) n)] 72)).drewN nq) (some b) :=
    have := grown_trans' (grown_trans' (grown_al (grown_of_below (row := some b) hB1) _) hg3) (grown_al (World.grownBy.refl _ _) _)
    ⟨this.os, this.tape, this.output, this.size, this.block⟩
  have r4 : ((w3.alloc (.cells #[.int .u64 (cP q y n), .int .u32 (bwI x (pP q y) n)] 72)).drewN nq).rowIs b T N (fun j => if o ≤ j ∧ j < o + n then .int .u32 (zS x (pP q y) (j - o)) else f j) := (hr3.alloc _)
  rw [← hL]
  generalize hW4 : (w3.alloc (.cells #[.int .u64 (cP q y n), .int .u32 (bwI x (pP q y) n)] 72)).drewN nq = W at *
  have HY := hid hy
  clear hL hL2 hs1 hs2 hs hx3 hr3 hg3 r1 y1 hy hW4 hix p1 p2 l1 l2 xn1 xn2 c1 c0 cy
  go_wp2_with fail
  go_loopw [6] (fun v wr => ∃ (l : Int) (z : Nat → Int) (q' : Int), (l = 0 ∨ l = 1) ∧ v = .int .u32 l ∧ (∀ k, 0 ≤ z k ∧ z k < 4294967296) ∧ valI z n - l * P = valI x (n + 1) - q' * valI y n ∧ valI z n - l * P < valI y n ∧ w.grownBy wr (some b) ∧ wr.rowIs b T N (fun j => if o ≤ j ∧ j < o + n then .int .u32 (z (j - o)) else f j)) (fun v wr => (intOf v).toNat * ((P - winI wr b o n).toNat + 1))
  case atStart => exact ⟨L, zS x (pP q y), q, hL1, rfl, zS_bd x (pP q y), hz, by rw [hz]; exact hs3, g4, r4⟩
  case round =>
    obtain ⟨l, z, q', hl, rfl, bz, h1, h2, hg, hr⟩ := hrel
    have bz' := valI_bd (z := z) (m := n) fun k _ => bz k
    rw [← hP] at bz'
    rcases hl with rfl | rfl
    · go_wp2
      go_end0
      refine ⟨rfl, hg, z, bz, ?_, hr⟩
      have e : valI x (n + 1) = valI z n + valI y n * q' := by grind
      rw [e, Int.add_mul_emod_self_left, Int.emod_eq_of_lt bz'.1 (by omega)]
    · have hyr : ∀ k, k < n → wr.cell? ⟨b2, o2 + k, none⟩ = some (.int .u32 (y k)) := fun k hk => hg.cell (HY.out k hk) (fun e => hne (by simpa using e))
      have hsz := hg.size
      have hcy := cyI_bd (x := z) (y := y) (c := 0) bz by_ (by omega) n
      have hva := valAI z y 0 n
      rw [← hP] at hva
      have hzb := valI_bd (z := zI z y 0) (m := n) fun k _ => zI_bd _ _ _ k
      rw [← hP] at hzb
      have HVA := hid hva
      have HZB := hid hzb
      have HBZ := hid bz'
      have H1 := hid h1
      have H2 := hid h2
      have HS4 := hid hs4
      have HS3 := hid hs3
      have HZ := hid hz
      clear hva hzb bz' h1 h2 hs4 hs3 hz
      go_wp2_with fail
      refine (along_add b o (n + 1) cap b2 o2 n cap2 N T _ z y 0 wr (by omega) (by unfold maxLen; omega) hN hr (fun k hk => by rw [if_pos (by omega), Nat.add_sub_cancel_left]) hyr hne (by omega) bz by_ (by omega)).mono ?_
      rintro e w5 ⟨rfl, hg5, hr5⟩
      have hr6 : w5.rowIs b T N (fun j => if o ≤ j ∧ j < o + n then .int .u32 (zI z y 0 (j - o)) else f j) := hr5.congr fun j hj => by
        by_cases h : o ≤ j ∧ j < o + n
        · rw [if_pos h, if_pos h]
        · rw [if_neg h, if_neg h, if_neg h]
      have hwin := winI_of hr (by omega)
      have hwin' := winI_of hr6 (by omega)
      generalize cyI z y 0 n = cy at *
      go_wp2
      go_roundw
      case rel =>
        refine ⟨1 - cy, zI z y 0, q' - 1, by omega, ?_, zI_bd _ _ _, ?_, ?_, grown_trans' hg hg5, hr6⟩
        · rfl
        · have a1 := HVA.out
          have a2 := H1.out
          grind
        · have a1 := HVA.out
          have a2 := H2.out
          have a3 := HBZ.out
          have : (1 - cy) * P = P - cy * P := by grind
          omega
      case measure =>
        rw [hwin, hwin']
        have a1 := HVA.out
        have a2 := HZB.out
        have a3 := HBZ.out
        have a4 : 0 < valI y n := by
          have := valI_bd (z := x) (m := n + 1) fun k _ => bx k
          omega
        have hcc : cy = 0 ∨ cy = 1 := by omega
        rcases hcc with rfl | rfl
        · have e1 : (intOf (Value.int IntKind.u32 (1 - 0))).toNat = 1 := rfl
          have e2 : (intOf (Value.int IntKind.u32 1)).toNat = 1 := rfl
          rw [e1, e2]
          omega
        · have e1 : (intOf (Value.int IntKind.u32 (1 - 1))).toNat = 0 := rfl
          have e2 : (intOf (Value.int IntKind.u32 1)).toNat = 1 := rfl
          rw [e1, e2]
          omega
end Go.Proofs.Yteihojjciklfoaa
