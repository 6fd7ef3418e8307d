/- What SrpWrong stands on, part 4. -/
import Derived.Laws.AppendOwn
import Derived.Lib.ItoaNum
import Derived.WalkKit
import Derived.Test.YtcfepoopkfhojaaGreatSrpWrongP1
import Derived.Test.YtcfepoopkfhojaaGreatSrpWrongP2
import Derived.Test.YtcfepoopkfhojaaGreatSrpWrongP3
set_option maxRecDepth 100000
set_option maxHeartbeats 8000000
set_option linter.unusedVariables false
set_option linter.unusedSimpArgs false
namespace Go.Proofs.YtcfepoopkfhojaaGreat
open Go.ChangeShapes Go.WideShapes Go.ChangeAt Go.RowKit
def guessI (x1 x0 y : Int) : Int := if (x1 * 4294967296 + x0) / y ≤ 4294967295 then (x1 * 4294967296 + x0) / y else 4294967295
theorem guess_eq (x1 x0 y : Int) (bx1 : 0 ≤ x1 ∧ x1 < 4294967296) (bx0 : 0 ≤ x0 ∧ x0 < 4294967296) (hy : 0 < y) : min (IntKind.u64.wrap ((x1 * 4294967296 + x0).tdiv y)) 4294967295 % 4294967296 = guessI x1 x0 y := by
 have hN : 0 ≤ x1 * 4294967296 + x0 := by omega
 have hN2 : x1 * 4294967296 + x0 < 18446744073709551616 := by omega
 rw [Int.tdiv_eq_ediv_of_nonneg hN]
 have h2 : 0 ≤ (x1 * 4294967296 + x0) / y := Int.ediv_nonneg hN (Int.le_of_lt hy)
 have h3 : (x1 * 4294967296 + x0) / y ≤ x1 * 4294967296 + x0 := Int.ediv_le_self _ hN
 unfold guessI
 generalize (x1 * 4294967296 + x0) / y = d at *
 have hw : IntKind.u64.wrap d = d := by
  have : IntKind.u64.wrap d = d % 18446744073709551616 := rfl
  rw [this]; omega
 rw [hw]
 split <;> omega
theorem guess_spec {Xl x0 x1 Dl y1 P q : Int} (hP : 0 < P) (hXl : 0 ≤ Xl ∧ Xl < P) (hDl : 0 ≤ Dl ∧ Dl < P) (hy : 0 < y1) (hx0 : 0 ≤ x0) (hx1 : 0 ≤ x1) (hq : q = guessI x1 x0 y1)
  (hX : Xl + P * (x0 + 4294967296 * x1) < (Dl + P * y1) * 4294967296) :
  -(P * 4294967296) < Xl + P * (x0 + 4294967296 * x1) - q * (Dl + P * y1) ∧ Xl + P * (x0 + 4294967296 * x1) - q * (Dl + P * y1) < Dl + P * y1 := by
 have hT : 0 ≤ x1 * 4294967296 + x0 := by omega
 have h1 := Int.ediv_mul_le (x1 * 4294967296 + x0) (Int.ne_of_gt hy)
 have h2 := Int.lt_ediv_add_one_mul_self (x1 * 4294967296 + x0) hy
 have h3 : 0 ≤ (x1 * 4294967296 + x0) / y1 := Int.ediv_nonneg hT (Int.le_of_lt hy)
 unfold guessI at hq
 generalize (x1 * 4294967296 + x0) / y1 = d at *
 have key : ∀ T, T = x1 * 4294967296 + x0 → Xl + P * (x0 + 4294967296 * x1) - q * (Dl + P * y1) = Xl + P * (T - q * y1) - q * Dl := by
  intro T e; rw [e]; grind
 have hq1 : 0 ≤ q ∧ q ≤ 4294967295 := by split at hq <;> omega
 have hq2 : q * y1 ≤ x1 * 4294967296 + x0 := by
  split at hq
  ·rw [hq]; exact h1
  ·exact Int.le_trans (Int.mul_le_mul_of_nonneg_right (by omega) (Int.le_of_lt hy)) h1
 have a1 : q * Dl ≤ 4294967295 * Dl := Int.mul_le_mul_of_nonneg_right hq1.2 hDl.1
 have a2 : 0 ≤ P * (x1 * 4294967296 + x0 - q * y1) := Int.mul_nonneg (Int.le_of_lt hP) (by omega)
 refine ⟨?_, ?_⟩
 ·rw [key _ rfl]; omega
 ·split at hq
  ·have a3 : 0 ≤ P * ((q + 1) * y1 - (x1 * 4294967296 + x0) - 1) := Int.mul_nonneg (Int.le_of_lt hP) (by rw [hq]; omega)
   have a4 : 0 ≤ (q + 1) * Dl := Int.mul_nonneg (by omega) hDl.1
   have e : Xl + P * (x0 + 4294967296 * x1) - q * (Dl + P * y1) - (Dl + P * y1) = Xl - P - P * ((q + 1) * y1 - (x1 * 4294967296 + x0) - 1) - (q + 1) * Dl := by grind
   omega
  ·rw [hq]; omega
theorem or_high (x y : Int) (hx : 0 ≤ x ∧ x < 4294967296) (hy : 0 ≤ y ∧ y < 4294967296) : bits .or .u64 (x * 4294967296) y = x * 4294967296 + y := by
 obtain ⟨x, rfl⟩ := Int.eq_ofNat_of_zero_le hx.1
 obtain ⟨y, rfl⟩ := Int.eq_ofNat_of_zero_le hy.1
 have e : (x : Int) * 4294967296 = ((x * 4294967296 : Nat) : Int) := by omega
 have h := Nat.two_pow_add_eq_or_of_lt (i := 32) (b := y) (by omega) x
 have e2 : 2 ^ 32 * x = x * 4294967296 := by omega
 rw [e2] at h
 rw [e, u64_or_nat _ _ (by omega) (by omega), ← h]
 omega
theorem guess_any (b o n cap b2 o2 cap2 : Nat) (x1 x0 y : Int) (w : World) (hn : 1 ≤ n) (hn' : n ≤ 16)
   (hx1 : w.cell? ⟨b, o + n, none⟩ = some (.int .u32 x1)) (hx0 : w.cell? ⟨b, o + (n - 1), none⟩ = some (.int .u32 x0)) (hy : w.cell? ⟨b2, o2 + (n - 1), none⟩ = some (.int .u32 y))
   (bx1 : 0 ≤ x1 ∧ x1 < 4294967296) (bx0 : 0 ≤ x0 ∧ x0 < 4294967296) (by_ : 0 < y ∧ y < 4294967296) :
    Calls Tryz.prog 119 #[.slice (some ⟨b, o, none⟩) (n + 1) cap, .slice (some ⟨b2, o2, none⟩) n cap2] w fun e w' => e = .returned (.int .u32 (guessI x1 x0 y)) ∧ Below w.heap.size w w' := by
  obtain ⟨k, rfl⟩ : ∃ k, n = k + 1 := ⟨n - 1, by omega⟩
  rw [Nat.add_sub_cancel] at hx0 hy
  go_enter Tryz.func119, Tryz.ntmps119
  go_wp2_with fail
  go_quiet (fail)
  go_wp2
  go_ret
  refine ⟨?_, zz (Below.refl _ _) _⟩
  rw [or_high _ _ bx1 bx0]
  exact congrArg (fun v => Ending.returned (.int .u32 v)) (guess_eq x1 x0 y bx1 bx0 by_.1)
def cellI (w : World) (b i : Nat) : Int := match w.cell? ⟨b, i, none⟩ with | some (.int _ v) => v | _ => 0
theorem cellI_of {w : World} {b i : Nat} {k : IntKind} {v : Int} (h : w.cell? ⟨b, i, none⟩ = some (.int k v)) : cellI w b i = v := by unfold cellI; rw [h]
theorem reduce_start {n : Nat} {x y : Nat → Int} (hn : 1 ≤ n) (bx : ∀ k, 0 ≤ x k ∧ x k < 4294967296) (by_ : ∀ k, 0 ≤ y k ∧ y k < 4294967296) (hpos : 0 < y (n - 1))
  (hW : valI x (n + 1) < valI y n * 4294967296) (q : Int) (hq : q = guessI (x n) (x (n - 1)) (y (n - 1))) :
  (x n - cP q y n - bwI x (pP q y) n = 0 ∨ x n - cP q y n - bwI x (pP q y) n = -1) ∧
   valI (zS x (pP q y)) n + (x n - cP q y n - bwI x (pP q y) n) * 4294967296 ^ n = valI x (n + 1) - q * valI y n ∧ valI x (n + 1) - q * valI y n < valI y n ∧ valI y n < 4294967296 ^ n := by
 obtain ⟨k, rfl⟩ : ∃ k, n = k + 1 := ⟨n - 1, by omega⟩
 rw [Nat.add_sub_cancel] at hpos hq
 have e1 : valI x (k + 1 + 1) = valI x k + 4294967296 ^ k * (x k + 4294967296 * x (k + 1)) := by simp only [valI, Int.pow_succ]; grind
 have e2 : valI y (k + 1) = valI y k + 4294967296 ^ k * y k := by simp only [valI]; grind
 have hP : (0 : Int) < 4294967296 ^ k := Int.pow_pos (by decide)
 have b1 := valI_bd (z := x) (m := k) fun j _ => bx j
 have b2 := valI_bd (z := y) (m := k) fun j _ => by_ j
 have b3 := valI_bd (z := zS x (pP q y)) (m := k + 1) fun j _ => zS_bd _ _ j
 have b4 := valI_bd (z := y) (m := k + 1) fun j _ => by_ j
 have h1 := guess_spec (q := q) hP b1 b2 hpos (bx k).1 (bx (k + 1)).1 hq (by rw [← e1, ← e2]; exact hW)
 rw [← e1, ← e2] at h1
 have h2 := valS x (pP q y) (k + 1)
 have h3 := valP q y (k + 1)
 have e3 : valI x (k + 1 + 1) = valI x (k + 1) + x (k + 1) * 4294967296 ^ (k + 1) := by simp only [valI]
 have h4 : valI (zS x (pP q y)) (k + 1) + (x (k + 1) - cP q y (k + 1) - bwI x (pP q y) (k + 1)) * 4294967296 ^ (k + 1) = valI x (k + 1 + 1) - q * valI y (k + 1) := by
  rw [e3]; grind
 refine ⟨?_, h4, h1.2, b4.2⟩
 have e4 : (4294967296 : Int) ^ k * 4294967296 = 4294967296 ^ (k + 1) := by rw [Int.pow_succ]
 rw [e4] at h1
 generalize x (k + 1) - cP q y (k + 1) - bwI x (pP q y) (k + 1) = s at *
 have hPP : (0 : Int) < 4294967296 ^ (k + 1) := Int.pow_pos (by decide)
 generalize (4294967296 : Int) ^ (k + 1) = P at *
 have c1 : -2 < s := by
  refine Int.lt_of_not_ge fun h => ?_
  have := Int.mul_le_mul_of_nonneg_right h (Int.le_of_lt hPP)
  omega
 have c2 : s < 1 := by
  refine Int.lt_of_not_ge fun h => ?_
  have := Int.mul_le_mul_of_nonneg_right h (Int.le_of_lt hPP)
  omega
 omega
end Go.Proofs.YtcfepoopkfhojaaGreat
namespace Go.Proofs.YtcfepoopkfhojaaGreat
open Go.ChangeShapes Go.WideShapes Go.ChangeAt Go.RowKit
theorem valAI (x y : Nat → Int) (c : Int) : ∀ m, valI (zI x y c) m + cyI x y c m * 4294967296 ^ m = valI x m + valI y m + c
 | 0 => by simp [valI, cyI]
 | m + 1 => by
  have ih := valAI x y c m
  have e : zI x y c m + cyI x y c (m + 1) * 4294967296 = x m + y m + cyI x y c m := by simp only [zI, cyI]; omega
  simp only [valI, Int.pow_succ]
  generalize (4294967296 : Int) ^ m = P at *
  grind
theorem zI_bd (x y : Nat → Int) (c : Int) (k : Nat) : 0 ≤ zI x y c k ∧ zI x y c k < 4294967296 := by unfold zI; omega
def winI (w : World) (b o n : Nat) : Int := valI (fun k => cellI w b (o + k)) n
theorem winI_of {w : World} {b o n N : Nat} {T : TypeId} {f : Nat → Value} {z : Nat → Int} (h : w.rowIs b T N (fun j => if o ≤ j ∧ j < o + n then .int .u32 (z (j - o)) else f j)) (hN : o + n ≤ N) : winI w b o n = valI z n :=
 zec fun k hk => cellI_of (by rw [h.cell (by omega), if_pos (by omega), Nat.add_sub_cancel_left])
theorem reduce_any (b o n cap b2 o2 cap2 N : Nat) (T : TypeId) (f : Nat → Value) (x y : Nat → Int) (w : World)
   (hn : 1 ≤ n) (hn' : n ≤ 8) (hN : o + (n + 1) ≤ N) (hb : w.rowIs b T N f) (hf : ∀ k, k < n + 1 → f (o + k) = .int .u32 (x k))
   (hy : ∀ k, k < n → w.cell? ⟨b2, o2 + k, none⟩ = some (.int .u32 (y k))) (hne : b2 ≠ b) (hb2 : b2 < w.heap.size)
   (bx : ∀ k, 0 ≤ x k ∧ x k < 4294967296) (by_ : ∀ k, 0 ≤ y k ∧ y k < 4294967296) (hpos : 0 < y (n - 1)) (hW : valI x (n + 1) < valI y n * 4294967296) :
    Calls Tryz.prog 87 #[.slice (some ⟨b, o, none⟩) (n + 1) cap, .slice (some ⟨b2, o2, none⟩) n cap2] w fun e w' =>
      e = .returned (.tuple #[]) ∧ w.grownBy w' (some b) ∧ ∃ z : Nat → Int, (∀ k, 0 ≤ z k ∧ z k < 4294967296) ∧ valI z n = valI x (n + 1) % valI y n ∧
        w'.rowIs b T N (fun j => if o ≤ j ∧ j < o + n then .int .u32 (z (j - o)) else f j) := by
  have c1 : w.cell? ⟨b, o + n, none⟩ = some (.int .u32 (x n)) := by rw [hb.cell (by omega), hf n (by omega)]
  have c0 : w.cell? ⟨b, o + (n - 1), none⟩ = some (.int .u32 (x (n - 1))) := by rw [hb.cell (by omega), hf (n - 1) (by omega)]
  have cy := hy (n - 1) (by omega)
  have hs := hid (reduce_start hn bx by_ hpos hW _ rfl)
  have hgb : 0 ≤ guessI (x n) (x (n - 1)) (y (n - 1)) ∧ guessI (x n) (x (n - 1)) (y (n - 1)) < 4294967296 := by
    have : 0 ≤ (x n * 4294967296 + x (n - 1)) / y (n - 1) := Int.ediv_nonneg (by have := bx n; have := bx (n - 1); omega) (Int.le_of_lt hpos)
    unfold guessI; split <;> omega
  have HQ := hid hgb
  have hbl := hb.lt
  go_enter Tryz.func87, Tryz.ntmps87
  go_wp2_with fail
  refine (guess_any b o n cap b2 o2 cap2 (x n) (x (n - 1)) (y (n - 1)) w hn (by omega) c1 c0 cy (bx n) (bx (n - 1)) ⟨hpos, (by_ _).2⟩).mono ?_
  rintro e w1 ⟨rfl, hB1⟩
  generalize guessI (x n) (x (n - 1)) (y (n - 1)) = q at *
  clear hgb
  have r1 := hb.of_block (hB1.block b hbl)
  have s1 := hB1.size
  have y1 : ∀ k, k < n → w1.cell? ⟨b2, o2 + k, none⟩ = some (.int .u32 (y k)) := fun k hk => (hB1.cell (p := ⟨b2, o2 + k, none⟩) hb2).trans (hy k hk)
  go_wp2_with fail
  refine (less_any q _).mono ?_
  rintro e w2 ⟨rfl, rfl⟩
  go_wp2_with fail
  refine (along_debt b o (n + 1) cap b2 o2 n cap2 N T f x y q ⟨w1.heap.size, 0, none⟩ _ (by omega) (by unfold maxLen; omega) hN (r1.alloc _) (fun k hk => hf k (by omega)) (fun k hk => (grown_al (World.grownBy.refl w1 none) _).cell (y1 k hk) (by simp)) hne (by simp <;> omega) (World.cell?_alloc_new w1 _ _ 0) (by simp <;> omega) bx by_ HQ.out).mono ?_
  rintro e w3 ⟨rfl, hg3, hr3⟩
  obtain ⟨p1, p2⟩ := cP_bd HQ.out by_ n
  obtain ⟨l1, l2⟩ := bwI_bd bx (pP_bd q y) n
  obtain ⟨xn1, xn2⟩ := bx n
  have hx3 : (w3.alloc (.cells #[.int .u64 (cP q y n), .int .u32 (bwI x (pP q y) n)] 148)).cell? ⟨b, o + n, none⟩ = some (.int .u32 (x n)) := by
    rw [(hr3.alloc _).cell (by omega), if_neg (by omega), hf n (by omega)]
  have hix : (n : Int) < (n : Int) + 1 := by omega
  go_wp2_with fail
  go_quiet ((go_at_call 80; exact Calls.quiet_of_same ((sub32_any _ _ _ (by omega) (by omega) (by omega) (by omega) (by omega) (by omega) _).mono fun _ _ h => ⟨h.1, h.2.symm⟩)))
  obtain ⟨hs1, hs2, hs3, hs4⟩ := hs.out
  obtain ⟨P, hP⟩ : ∃ P : Int, P = 4294967296 ^ n := ⟨_, rfl⟩
  rw [← hP] at hs2 hs4
  obtain ⟨L, hL⟩ : ∃ L : Int, L = -((x n - cP q y n - bwI x (pP q y) n) / 4294967296) := ⟨_, rfl⟩
  have hL2 : L = -(x n - cP q y n - bwI x (pP q y) n) := by omega
  have hL1 : L = 0 ∨ L = 1 := by omega
  have hz : valI (zS x (pP q y)) n - L * P = valI x (n + 1) - q * valI y n := by rw [hL2]; grind
  have g4 : w.grownBy ((w3.alloc (.cells #[.int .u64 (cP q y n), .int .u32 (bwI x (pP q y) n)] 148)).drewN nq) (some b) :=
    have := grown_trans' (grown_trans' (grown_al (grown_of_below (row := some b) hB1) _) hg3) (grown_al (World.grownBy.refl _ _) _)
    ⟨this.os, this.tape, this.output, this.size, this.block⟩
  have r4 : ((w3.alloc (.cells #[.int .u64 (cP q y n), .int .u32 (bwI x (pP q y) n)] 148)).drewN nq).rowIs b T N (fun j => if o ≤ j ∧ j < o + n then .int .u32 (zS x (pP q y) (j - o)) else f j) := (hr3.alloc _)
  rw [← hL]
  generalize hW4 : (w3.alloc (.cells #[.int .u64 (cP q y n), .int .u32 (bwI x (pP q y) n)] 148)).drewN nq = W at *
  have HY := hid hy
  clear hL hL2 hs1 hs2 hs hx3 hr3 hg3 r1 y1 hy hW4 hix p1 p2 l1 l2 xn1 xn2 c1 c0 cy
  go_wp2_with fail
  go_loopw [6] (fun v wr => ∃ (l : Int) (z : Nat → Int) (q' : Int), (l = 0 ∨ l = 1) ∧ v = .int .u32 l ∧ (∀ k, 0 ≤ z k ∧ z k < 4294967296) ∧ valI z n - l * P = valI x (n + 1) - q' * valI y n ∧ valI z n - l * P < valI y n ∧ w.grownBy wr (some b) ∧ wr.rowIs b T N (fun j => if o ≤ j ∧ j < o + n then .int .u32 (z (j - o)) else f j)) (fun v wr => (intOf v).toNat * ((P - winI wr b o n).toNat + 1))
  case atStart => exact ⟨L, zS x (pP q y), q, hL1, rfl, zS_bd x (pP q y), hz, by rw [hz]; exact hs3, g4, r4⟩
  case round =>
    obtain ⟨l, z, q', hl, rfl, bz, h1, h2, hg, hr⟩ := hrel
    have bz' := valI_bd (z := z) (m := n) fun k _ => bz k
    rw [← hP] at bz'
    rcases hl with rfl | rfl
    · go_wp2
      go_end0
      refine ⟨rfl, hg, z, bz, ?_, hr⟩
      have e : valI x (n + 1) = valI z n + valI y n * q' := by grind
      rw [e, Int.add_mul_emod_self_left, Int.emod_eq_of_lt bz'.1 (by omega)]
    · have hyr : ∀ k, k < n → wr.cell? ⟨b2, o2 + k, none⟩ = some (.int .u32 (y k)) := fun k hk => hg.cell (HY.out k hk) (fun e => hne (by simpa using e))
      have hsz := hg.size
      have hcy := cyI_bd (x := z) (y := y) (c := 0) bz by_ (by omega) n
      have hva := valAI z y 0 n
      rw [← hP] at hva
      have hzb := valI_bd (z := zI z y 0) (m := n) fun k _ => zI_bd _ _ _ k
      rw [← hP] at hzb
      have HVA := hid hva
      have HZB := hid hzb
      have HBZ := hid bz'
      have H1 := hid h1
      have H2 := hid h2
      have HS4 := hid hs4
      have HS3 := hid hs3
      have HZ := hid hz
      clear hva hzb bz' h1 h2 hs4 hs3 hz
      go_wp2_with fail
      refine (along_add b o (n + 1) cap b2 o2 n cap2 N T _ z y 0 wr (by omega) (by unfold maxLen; omega) hN hr (fun k hk => by rw [if_pos (by omega), Nat.add_sub_cancel_left]) hyr hne (by omega) bz by_ (by omega)).mono ?_
      rintro e w5 ⟨rfl, hg5, hr5⟩
      have hr6 : w5.rowIs b T N (fun j => if o ≤ j ∧ j < o + n then .int .u32 (zI z y 0 (j - o)) else f j) := hr5.congr fun j hj => by
        by_cases h : o ≤ j ∧ j < o + n
        · rw [if_pos h, if_pos h]
        · rw [if_neg h, if_neg h, if_neg h]
      have hwin := winI_of hr (by omega)
      have hwin' := winI_of hr6 (by omega)
      generalize cyI z y 0 n = cy at *
      go_wp2
      go_roundw
      case rel =>
        refine ⟨1 - cy, zI z y 0, q' - 1, by omega, ?_, zI_bd _ _ _, ?_, ?_, grown_trans' hg hg5, hr6⟩
        · rfl
        · have a1 := HVA.out
          have a2 := H1.out
          grind
        · have a1 := HVA.out
          have a2 := H2.out
          have a3 := HBZ.out
          have : (1 - cy) * P = P - cy * P := by grind
          omega
      case measure =>
        rw [hwin, hwin']
        have a1 := HVA.out
        have a2 := HZB.out
        have a3 := HBZ.out
        have a4 : 0 < valI y n := by
          have := valI_bd (z := x) (m := n + 1) fun k _ => bx k
          omega
        have hcc : cy = 0 ∨ cy = 1 := by omega
        rcases hcc with rfl | rfl
        · have e1 : (intOf (Value.int IntKind.u32 (1 - 0))).toNat = 1 := rfl
          have e2 : (intOf (Value.int IntKind.u32 1)).toNat = 1 := rfl
          rw [e1, e2]
          omega
        · have e1 : (intOf (Value.int IntKind.u32 (1 - 1))).toNat = 0 := rfl
          have e2 : (intOf (Value.int IntKind.u32 1)).toNat = 1 := rfl
          rw [e1, e2]
          omega
end Go.Proofs.YtcfepoopkfhojaaGreat
namespace Go.Proofs.YtcfepoopkfhojaaGreat
open Go.ChangeShapes Go.WideShapes Go.ChangeAt Go.RowKit
def abv (V j : Nat) : Int := digI V (j + 1) * 4294967296 + digI V j
theorem abv_bd (V j : Nat) : 0 ≤ abv V j ∧ abv V j < 18446744073709551616 := by
 have h1 := zka V (j + 1); have h2 := zla V (j + 1); have h3 := zka V j; have h4 := zla V j
 unfold abv; omega
theorem abv_or (V j : Nat) : bits .or .u64 (abv V (j + 1) * 4294967296 % 18446744073709551616) (digI V j) = abv V j := by
 have h1 := zka V (j + 1); have h2 := zla V (j + 1); have h3 := zka V j; have h4 := zla V j
 have e : abv V (j + 1) * 4294967296 % 18446744073709551616 = digI V (j + 1) * 4294967296 := by unfold abv; omega
 rw [e, or_high _ _ ⟨h1, h2⟩ ⟨h3, h4⟩, abv]
theorem abv_shr (V j s : Nat) (hs : s < 32) : abv V j / 2 ^ s % 4294967296 = digI (V / 2 ^ s) j := by
 have e : abv V j = ((V / 4294967296 ^ j % 18446744073709551616 : Nat) : Int) := by
  unfold abv digI dig
  rw [Nat.pow_succ, ← Nat.div_div_eq_div_mul]
  omega
 have e2 : V / 2 ^ s / 4294967296 ^ j = V / 4294967296 ^ j / 2 ^ s := by rw [Nat.div_div_eq_div_mul, Nat.mul_comm, ← Nat.div_div_eq_div_mul]
 have e3 : (V / 4294967296 ^ j % 18446744073709551616) / 2 ^ s % 4294967296 = V / 4294967296 ^ j / 2 ^ s % 4294967296 := by
  generalize V / 4294967296 ^ j = q
  have h64 : (18446744073709551616 : Nat) = 2 ^ s * 2 ^ (64 - s) := by
   have h : s + (64 - s) = 64 := by omega
   rw [← Nat.pow_add, h]
  have h32 : (2 : Nat) ^ (64 - s) = 4294967296 * 2 ^ (32 - s) := by
   have h : 32 + (32 - s) = 64 - s := by omega
   rw [show (4294967296 : Nat) = 2 ^ 32 by decide, ← Nat.pow_add, h]
  rw [h64, Nat.mod_mul_right_div_self, h32, Nat.mod_mul_right_mod]
 rw [e]
 unfold digI dig
 rw [e2, ← e3]
 simp
theorem back_any (b o n cap s V : Nat) (w : World) (hn : n ≤ 8) (hs : s < 32) (hV : V < 4294967296 ^ n) (hx : ∀ k, k < n → w.cell? ⟨b, o + k, none⟩ = some (.int .u32 (digI V k))) (hb : b < w.heap.size) :
  Calls Tryz.prog 88 #[.slice (some ⟨b, o, none⟩) n cap, .int .i64 (s : Int)] w fun e w' => e = .returned (numV (V / 2 ^ s)) ∧ Below w.heap.size w w' := by
 have g1 : ((w.alloc (.cells #[Value.int .u32 0, .int .u32 0, .int .u32 0, .int .u32 0, .int .u32 0, .int .u32 0, .int .u32 0, .int .u32 0] 27)).alloc (.cells #[Value.int .u32 0, .int .u32 0, .int .u32 0, .int .u32 0, .int .u32 0, .int .u32 0, .int .u32 0, .int .u32 0] 27)).rowIs (w.heap.size + 1) 27 8 (fun i => .int .u32 (if n ≤ i then digI (V / 2 ^ s) i else 0)) := by
  have := (Num.new (w.alloc (.cells #[Value.int .u32 0, .int .u32 0, .int .u32 0, .int .u32 0, .int .u32 0, .int .u32 0, .int .u32 0, .int .u32 0] 27)) 27 0)
  rw [World.size_alloc, ← zeroA] at this
  exact this.row.congr fun i hi => by
   unfold numF
   rw [digI_zeroN]
   split
   ·rename_i h
    rw [digI_high (m := n) (Nat.lt_of_le_of_lt (Nat.div_le_self _ _) hV) h]
   ·rfl
 have g0 : ((w.alloc (.cells #[Value.int .u32 0, .int .u32 0, .int .u32 0, .int .u32 0, .int .u32 0, .int .u32 0, .int .u32 0, .int .u32 0] 27)).alloc (.cells #[Value.int .u32 0, .int .u32 0, .int .u32 0, .int .u32 0, .int .u32 0, .int .u32 0, .int .u32 0, .int .u32 0] 27)).heap[w.heap.size]? = some (.cells #[Value.int .u32 0, .int .u32 0, .int .u32 0, .int .u32 0, .int .u32 0, .int .u32 0, .int .u32 0, .int .u32 0] 27 (0, 0)) := heap_new1 w _ _
 have gb : Below w.heap.size w ((w.alloc (.cells #[Value.int .u32 0, .int .u32 0, .int .u32 0, .int .u32 0, .int .u32 0, .int .u32 0, .int .u32 0, .int .u32 0] 27)).alloc (.cells #[Value.int .u32 0, .int .u32 0, .int .u32 0, .int .u32 0, .int .u32 0, .int .u32 0, .int .u32 0, .int .u32 0] 27)) := ((Below.refl _ _).alloc (Nat.le_refl _) _).alloc (by simp) _
 have hA0 : abv V n = 0 := by unfold abv; rw [digI_high hV (Nat.le_refl n), digI_high hV (Nat.le_succ n)]; rfl
 go_enter Tryz.func88, Tryz.ntmps88
 go_wp2_with fail
 generalize hW : World.alloc _ _ = W at *
 go_loopw [6, 7] (fun v i wr => ∃ j : Nat, j ≤ n ∧ i = .int .i64 ((j : Int) - 1) ∧ v = .int .u64 (abv V j) ∧ W.grownBy wr (some (w.heap.size + 1)) ∧ wr.rowIs (w.heap.size + 1) 27 8 (fun i => .int .u32 (if j ≤ i then digI (V / 2 ^ s) i else 0))) (fun _ i _ => ((intOf i) + 1).toNat)
 case atStart => exact ⟨n, Nat.le_refl n, rfl, by rw [hA0], World.grownBy.refl _ _, g1⟩
 case round =>
  obtain ⟨j, hj, rfl, rfl, hg, hr⟩ := hrel
  rcases j with _ | j
  ·have n0 : Num wr (w.heap.size + 1) 27 (V / 2 ^ s) := zlb hr fun j _ => by rw [if_pos (Nat.zero_le j)]; rfl
   have m0 := (hg.block w.heap.size ((Array.getElem?_eq_some_iff.1 g0).1) (by simp)).trans g0
   go_wp2_with (first | (refine ze rfl _ _ rfl _ rfl _ _ _ n0 Tryz.underlying27 rfl zd ?_) | (refine zl rfl _ _ _ rfl _ rfl _ rfl _ rfl m0 zd ?_; intro w2 hg2 m2))
   have s0 := hg.size
   exact bodyPost_ret (z6a rfl rfl m2 Tryz.underlying27 rfl zd) rfl ⟨rfl, zf (zf gb hg (by rw [← hW]; simp; omega) (by omega)) hg2 (by have := (Array.getElem?_eq_some_iff.1 m0).1; omega) (Nat.le_refl _)⟩
  ·have e : (((j + 1 : Nat) : Int) - 1) = (j : Int) := by omega
   rw [e]
   have hc : wr.cell? ⟨b, o + j, none⟩ = some (.int .u32 (digI V j)) := hg.cell ((gb.cell (p := ⟨b, o + j, none⟩) hb).trans (hx j (by omega))) (by simp <;> omega)
   have hf : wr.frozen? ⟨w.heap.size + 1, j, none⟩ = false := hr.frozen _
   have hcl : wr.cell? ⟨w.heap.size + 1, j, none⟩ = some (.int .u32 0) := by rw [hr.cell (by omega), if_neg (by omega)]
   have h1 := zka V j
   have h2 := zla V j
   obtain ⟨a1, a2⟩ := abv_bd V (j + 1)
   have hj1 : (j : Int) < (n : Int) := by omega
   have hj2 : (j : Int) < 8 := by omega
   go_wp2_with fail
   have hw : IntKind.u64.wrap (abv V (j + 1) * 4294967296) = abv V (j + 1) * 4294967296 % 18446744073709551616 := rfl
   rw [hw, abv_or, abv_shr V j s hs]
   refine ⟨⟨j, by omega, rfl, rfl, zsa hg rfl _, (hr.set j _).congr fun i hi => ?_⟩, by simp [intOf] <;> omega⟩
   by_cases h : i = j
   ·subst h
    rw [if_pos rfl, if_pos (Nat.le_refl _)]
   ·rw [if_neg h]
    by_cases h2 : j ≤ i
    ·rw [if_pos h2, if_pos (by omega)]
    ·rw [if_neg h2, if_neg (by omega)]
end Go.Proofs.YtcfepoopkfhojaaGreat
namespace Go.Proofs.YtcfepoopkfhojaaGreat
open Go.ChangeShapes Go.WideShapes Go.ChangeAt Go.RowKit
def shlN (V s k : Nat) : Nat := V % 4294967296 ^ k * 2 ^ s
theorem shl_next (V s k : Nat) : shlN V s (k + 1) = shlN V s k + 4294967296 ^ k * (dig V k * 2 ^ s) := by
 unfold shlN dig
 rw [Nat.pow_succ, Nat.mod_mul, Nat.add_mul, Nat.mul_assoc]
theorem shl_lt (V s k : Nat) : shlN V s k < 4294967296 ^ k * 2 ^ s := by
 unfold shlN
 exact Nat.mul_lt_mul_of_pos_right (Nat.mod_lt _ (pow_pos' k)) (Nat.pow_pos (by decide))
theorem pow_s {s : Nat} (hs : s < 32) : (2 : Nat) ^ s * 2 ^ (32 - s) = 4294967296 := by
 have h : s + (32 - s) = 32 := by omega
 rw [← Nat.pow_add, h]
theorem pow_lt {s : Nat} (hs : s < 32) : (2 : Nat) ^ s < 4294967296 := Nat.lt_of_lt_of_le (Nat.pow_lt_pow_right (by decide) hs) (by decide)
theorem shl_high {V s k j : Nat} (hs : s < 32) (hj : k + 1 ≤ j) : dig (shlN V s k) j = 0 := by
 refine dig_of_lt (m := k + 1) (Nat.lt_of_lt_of_le (shl_lt V s k) ?_) hj
 rw [Nat.pow_succ]
 exact Nat.mul_le_mul_left _ (Nat.le_of_lt (pow_lt hs))
theorem shl_digs {V s k : Nat} (hs : s < 32) : (dig (shlN V s k) k ||| (dig V k * 2 ^ s % 4294967296)) = dig (shlN V s (k + 1)) k ∧ dig V k * 2 ^ s / 4294967296 = dig (shlN V s (k + 1)) (k + 1) := by
 have hP := pow_pos' k
 have hc : shlN V s k / 4294967296 ^ k < 2 ^ s := by
  rw [Nat.div_lt_iff_lt_mul hP, Nat.mul_comm]; exact shl_lt V s k
 have h32 := pow_lt hs
 have hps := pow_s hs
 have hd := dig_lt V k
 have e1 : shlN V s (k + 1) / 4294967296 ^ k = shlN V s k / 4294967296 ^ k + dig V k * 2 ^ s := by rw [shl_next, Nat.add_mul_div_left _ _ hP]
 have hmod : dig V k * 2 ^ s % 4294967296 = 2 ^ s * (dig V k % 2 ^ (32 - s)) := by
  rw [← hps, Nat.mul_comm (dig V k), Nat.mul_mod_mul_left]
 have hle : dig V k % 2 ^ (32 - s) + 1 ≤ 2 ^ (32 - s) := Nat.mod_lt _ (Nat.pow_pos (by decide))
 have hle2 := Nat.mul_le_mul_left (2 ^ s) hle
 rw [hps, Nat.mul_add, Nat.mul_one] at hle2
 have hor := Nat.two_pow_add_eq_or_of_lt hc (dig V k % 2 ^ (32 - s))
 have e2 : dig (shlN V s k) k = shlN V s k / 4294967296 ^ k := by unfold dig; rw [Nat.mod_eq_of_lt]; omega
 have hdig : ∀ a j, dig a j = a / 4294967296 ^ j % 4294967296 := fun a j => by unfold dig; rfl
 have e3 : dig (shlN V s (k + 1)) k = (shlN V s k / 4294967296 ^ k + dig V k * 2 ^ s) % 4294967296 := by rw [hdig (shlN V s (k + 1)) k, e1]
 have e4 : dig (shlN V s (k + 1)) (k + 1) = (shlN V s k / 4294967296 ^ k + dig V k * 2 ^ s) / 4294967296 % 4294967296 := by
  rw [hdig (shlN V s (k + 1)) (k + 1), Nat.pow_succ, ← Nat.div_div_eq_div_mul, e1]
 have hb : dig V k * 2 ^ s < 4294967296 * 4294967296 := Nat.mul_lt_mul'' hd h32
 rw [e2, e3, e4, Nat.or_comm, hmod, ← hor]
 generalize shlN V s k / 4294967296 ^ k = c at *
 generalize dig V k * 2 ^ s = X at *
 generalize 2 ^ s * (dig V k % 2 ^ (32 - s)) = T at *
 omega
theorem shl_other {V s k j : Nat} (hs : s < 32) (h1 : j ≠ k) (h2 : j ≠ k + 1) : dig (shlN V s (k + 1)) j = dig (shlN V s k) j := by
 by_cases h : j < k
 ·rw [← dig_mod (shlN V s (k + 1)) h, ← dig_mod (shlN V s k) h, shl_next, Nat.add_mul_mod_self_left]
 ·rw [shl_high hs (by omega), shl_high hs (by omega)]
theorem shl_or {V s k : Nat} (hs : s < 32) : bits .or .u32 (digI (shlN V s k) k) (digI V k * 2 ^ s % 4294967296) = digI (shlN V s (k + 1)) k ∧ digI V k * 2 ^ s / 4294967296 = digI (shlN V s (k + 1)) (k + 1) := by
 obtain ⟨h1, h2⟩ := shl_digs (V := V) (k := k) hs
 have e : digI V k * 2 ^ s = ((dig V k * 2 ^ s : Nat) : Int) := by unfold digI; simp
 rw [e]
 unfold digI
 rw [← h1, ← h2]
 have e2 : ((dig V k * 2 ^ s : Nat) : Int) % 4294967296 = ((dig V k * 2 ^ s % 4294967296 : Nat) : Int) := by omega
 rw [e2, u32_or_nat _ _ (dig_lt _ _) (Nat.mod_lt _ (by decide))]
 refine ⟨rfl, ?_⟩
 omega
theorem shl_bd {V s k : Nat} (hs : s < 32) : 0 ≤ digI V k * 2 ^ s ∧ digI V k * 2 ^ s < 18446744073709551616 := by
 have e : digI V k * 2 ^ s = ((dig V k * 2 ^ s : Nat) : Int) := by unfold digI; simp
 have hb : dig V k * 2 ^ s < 4294967296 * 4294967296 := Nat.mul_lt_mul'' (dig_lt V k) (pow_lt hs)
 rw [e]; omega
theorem info_u32 : ∃ i, Tryz.prog.info? 25 = some i ∧ i.zero = some (.int .u32 0) ∧ i.size = 1 ∧ i.bytes = 4 := by
 have h0 : (Tryz.prog.info? 25).isSome = true := by kernel_rfl
 have h1 : (Tryz.prog.info? 25).map (·.size) = some 1 := by kernel_rfl
 have h2 : (Tryz.prog.info? 25).bind (·.zero) = some (.int .u32 0) := by kernel_rfl
 have h3 : (Tryz.prog.info? 25).map (·.bytes) = some 4 := by kernel_rfl
 cases h : Tryz.prog.info? 25 with
 | none => rw [h] at h0; cases h0
 | some i =>
  rw [h] at h1 h2 h3
  exact ⟨i, rfl, h2, Option.some.inj h1, Option.some.inj h3⟩
theorem make_u32 (n : Nat) (hn : n ≤ 1000) (w : World) : (Instr.makeSlice 111 (.int .i64 (n : Int)) (.int .i64 (n : Int))).run Tryz.prog w = .ok (.slice (some ⟨w.heap.size, 0, none⟩) n n) (w.alloc (.cells (madeCells #[.int .u32 0] n) 25)) := by
 obtain ⟨i, h1, h2, h3, h4⟩ := info_u32
 exact run_make_row 111 25 i (.int .u32 0) Tryz.underlying111 h1 h2 h3 rfl .i64 .i64 n (by rw [h4]; omega) (by omega) w
theorem shifted_any (b o n cap s V : Nat) (w : World) (hn : n ≤ 16) (hs : s < 32) (hV : V < 4294967296 ^ n) (hx : ∀ k, k < n → w.cell? ⟨b, o + k, none⟩ = some (.int .u32 (digI V k))) (hb : b < w.heap.size) :
  Calls Tryz.prog 85 #[.slice (some ⟨b, o, none⟩) n cap, .int .i64 (s : Int)] w fun e w' =>
   e = .returned (.slice (some ⟨w.heap.size, 0, none⟩) (n + 1) (n + 1)) ∧ w'.rowIs w.heap.size 25 (n + 1) (numF (V * 2 ^ s)) ∧ Below w.heap.size w w' := by
 have hmk : ∀ w, (Instr.makeSlice 111 (.int .i64 ((n : Int) + 1)) (.int .i64 ((n : Int) + 1))).run Tryz.prog w = .ok (.slice (some ⟨w.heap.size, 0, none⟩) (n + 1) (n + 1)) (w.alloc (.cells (madeCells #[.int .u32 0] (n + 1)) 25)) := fun w => make_u32 (n + 1) (by omega) w
 have r0 : (w.alloc (.cells (madeCells #[.int .u32 0] (n + 1)) 25)).rowIs w.heap.size 25 (n + 1) (numF (shlN V s 0)) := (World.rowIs_made w (.int .u32 0) (n + 1) 25).congr fun i hi => by
  unfold numF shlN
  rw [Nat.pow_zero, Nat.mod_one, Nat.zero_mul, digI_zeroN]
 have gb : Below w.heap.size w (w.alloc (.cells (madeCells #[.int .u32 0] (n + 1)) 25)) := (Below.refl _ _).alloc (Nat.le_refl _) _
 go_enter Tryz.func85, Tryz.ntmps85
 go_wp2_with fail
 generalize hW : World.alloc _ _ = W at *
 have hgs : w.heap.size < W.heap.size := by rw [← hW]; simp
 clear hW hmk
 go_loopw [15] (fun i wr => ∃ k : Nat, k ≤ n ∧ i = .int .i64 k ∧ W.grownBy wr (some w.heap.size) ∧ wr.rowIs w.heap.size 25 (n + 1) (numF (shlN V s k))) (fun i _ => n - (intOf i).toNat)
 case atStart => exact ⟨0, Nat.zero_le _, rfl, World.grownBy.refl _ _, r0⟩
 case round =>
  obtain ⟨k, hk, rfl, hg, hr⟩ := hrel
  by_cases hlt : k < n
  ·have hkn : (k : Int) < (n : Int) := by omega
   have hk1 : (k : Int) < (n : Int) + 1 := by omega
   have hk2 : (k : Int) + 1 < (n : Int) + 1 := by omega
   have hc : wr.cell? ⟨b, o + k, none⟩ = some (.int .u32 (digI V k)) := hg.cell ((gb.cell (p := ⟨b, o + k, none⟩) hb).trans (hx k hlt)) (by simp <;> omega)
   have hc1 : wr.cell? ⟨w.heap.size, k, none⟩ = some (.int .u32 (digI (shlN V s k) k)) := hr.cell (by omega)
   have hc2 : wr.cell? ⟨w.heap.size, k + 1, none⟩ = some (.int .u32 (digI (shlN V s k) (k + 1))) := hr.cell (by omega)
   have hf1 : wr.frozen? ⟨w.heap.size, k, none⟩ = false := hr.frozen _
   have hf2 : wr.frozen? ⟨w.heap.size, k + 1, none⟩ = false := hr.frozen _
   obtain ⟨hL1, hL2⟩ := shl_bd (V := V) (k := k) hs
   have h1 := zka V k
   have h2 := zla V k
   go_wp2_with fail
   obtain ⟨o1, o2⟩ := shl_or (V := V) (k := k) hs
   rw [o1, o2]
   refine ⟨⟨k + 1, by omega, by go_num, zsa (zsa hg rfl _) rfl _, ((hr.set k _).set (k + 1) _).congr fun j hj => ?_⟩, by simp [intOf] <;> omega⟩
   by_cases e1 : j = k + 1
   ·subst e1
    rw [if_pos rfl]; rfl
   ·rw [if_neg e1]
    by_cases e2 : j = k
    ·subst e2
     rw [if_pos rfl]; rfl
    ·rw [if_neg e2]
     unfold numF digI
     rw [shl_other hs e2 e1]
  ·have : k = n := by omega
   subst this
   go_wp2_with fail
   go_ret
   refine ⟨rfl, ?_, zf gb hg (Nat.le_of_lt hgs) (Nat.le_refl _)⟩
   have e : shlN V s k = V * 2 ^ s := by unfold shlN; rw [Nat.mod_eq_of_lt hV]
   rw [e] at hr
   exact hr
end Go.Proofs.YtcfepoopkfhojaaGreat
namespace Go.Proofs.YtcfepoopkfhojaaGreat
open Go.ChangeShapes Go.WideShapes Go.ChangeAt Go.RowKit
theorem grow_any (w : World) :
  Calls Tryz.prog 116 #[.slice none 0 0, .int .i64 16] w fun e w' =>
   ∃ v, e = .returned v ∧ w'.ownsRow w.heap.size 25 1 v 0 [] ∧ Below w.heap.size w w' := by
 go_enter Tryz.func116, Tryz.ntmps116
 go_wp2_with fail
 have hc1 := grownCap_ge w 16 0 25
 have hc2 := grownCap_le_maxLen w 16 0 25 (by unfold maxLen; omega)
 go_ret
 refine ⟨_, rfl, ⟨rfl, .inr ⟨w.heap.size, grownCap w 16 0 25, _, rfl, Nat.le_refl _, heap_alloc_new w _, Nat.zero_le _, hc2, ?_, ?_⟩⟩, ((Below.refl _ _).alloc (Nat.le_refl _) _).drew⟩
 ·simp only [Array.size_append, size_zeroCells]
  change 16 * 1 + (grownCap w 16 0 25 - 16) * 1 = grownCap w 16 0 25 * 1
  omega
 ·simp
def digL (N m : Nat) : List Value := (List.range m).map (numF N)
theorem digL_len (N m : Nat) : (digL N m).length = m := by simp [digL]
theorem digL_get {N m j : Nat} {u : Value} (h : (digL N m)[j]? = some u) : j < m ∧ u = numF N j := by
 unfold digL at h
 rw [List.getElem?_map] at h
 by_cases hj : j < m
 ·rw [List.getElem?_range hj] at h
  exact ⟨hj, (Option.some.inj h).symm⟩
 ·rw [List.getElem?_eq_none (by simp; omega)] at h; cases h
theorem digL_add (N m k : Nat) : digL N (m + k) = digL N m ++ digL (N / 4294967296 ^ m) k := by
 unfold digL
 rw [List.range_add, List.map_append, List.map_map]
 congr 1
 apply List.map_congr_left
 intro j _
 simp only [Function.comp]
 unfold numF
 rw [dig_shift]
theorem digL_congr {N M m : Nat} (h : ∀ j, j < m → digI N j = digI M j) : digL N m = digL M m := by
 unfold digL
 apply List.map_congr_left
 intro j hj
 unfold numF
 rw [h j (List.mem_range.1 hj)]
theorem owns_below {B : Nat} {a w w' : World} {v : Value} (hv : ∀ k, v.ownBlock = some k → B ≤ k) (h : Below B a w) (hg : w.grownBy w' v.ownBlock) (hB : B ≤ w.heap.size) : Below B a w' :=
 h.grown hg hB hv
theorem concat_any (bb b1 b2 lo hi : Nat) (t1 t2 : TypeId) (w : World) (h1 : w.cell? ⟨bb, 0, none⟩ = some (.slice (some ⟨b1, 0, none⟩) 8 8)) (h2 : w.cell? ⟨bb, 1, none⟩ = some (.slice (some ⟨b2, 0, none⟩) 8 8))
  (n1 : Num w b1 t1 lo) (n2 : Num w b2 t2 hi) (hbb : bb < w.heap.size) (hlo : lo < 4294967296 ^ 8) :
  Calls Tryz.prog 86 #[.slice (some ⟨bb, 0, none⟩) 2 2] w fun e w' =>
   ∃ g c, e = .returned (.slice (some ⟨g, 0, none⟩) 16 c) ∧ w.heap.size ≤ g ∧ g < w'.heap.size ∧ (∀ k, k < 16 → w'.cell? ⟨g, 0 + k, none⟩ = some (.int .u32 (digI (lo + hi * 4294967296 ^ 8) k))) ∧ Below w.heap.size w w' := by
 have hb1 := n1.lt
 have hb2 := n2.lt
 obtain ⟨N, hN⟩ : ∃ N, N = lo + hi * 4294967296 ^ 8 := ⟨_, rfl⟩
 rw [← hN]
 go_enter Tryz.func86, Tryz.ntmps86
 go_wp2_with fail
 go_loopw [3, 11] (fun v i wr => w = wr ∧ ∃ k : Nat, k ≤ 2 ∧ i = .int .i64 k ∧ v = .int .i64 ((8 * k : Nat) : Int)) (fun _ i _ => 2 - (intOf i).toNat)
 case atStart => exact ⟨rfl, 0, Nat.zero_le _, rfl, rfl⟩
 case round =>
  obtain ⟨rfl, k, hk, rfl, rfl⟩ := hrel
  have hk3 : k = 0 ∨ k = 1 ∨ k = 2 := by omega
  rcases hk3 with rfl | rfl | rfl
  ·go_wp2_with fail
   exact ⟨⟨trivial, 1, by omega, rfl, rfl⟩, by decide⟩
  ·go_wp2_with fail
   exact ⟨⟨trivial, 2, by omega, rfl, rfl⟩, by decide⟩
  ·go_wp2_with fail
   refine (grow_any _).mono ?_
   rintro e wG ⟨v, rfl, hown, hB⟩
   obtain ⟨iU, hi1, hi2, hi3, hi4⟩ := info_u32
   have dlo : digL lo 8 = digL N 8 := digL_congr fun j hj => by
    unfold digI
    rw [← dig_mod lo hj, ← dig_mod N hj, hN, Nat.add_mul_mod_self_right]
   have dhi : N / 4294967296 ^ 8 = hi := by
    rw [hN, Nat.add_mul_div_right _ _ (pow_pos' 8), Nat.div_eq_of_lt hlo, Nat.zero_add]
   have dN : digL N 16 = digL N 8 ++ digL hi 8 := by rw [digL_add N 8 8, dhi]
   have hone : ∀ M, ∀ u ∈ digL M 8, u.oneCell' = true := fun M u hu => by
    obtain ⟨j, _, rfl⟩ := List.mem_map.1 hu
    rfl
   go_wp2_with fail
   go_loopw [6, 27] (fun v i wr' => ∃ k : Nat, k ≤ 2 ∧ i = .int .i64 k ∧ wr'.ownsRow w.heap.size 25 1 v (8 * k) (digL N (8 * k)) ∧ Below w.heap.size w wr') (fun _ i _ => 2 - (intOf i).toNat)
   case atStart => exact ⟨0, Nat.zero_le _, rfl, hown, hB⟩
   case round =>
    obtain ⟨k, hk, rfl, hown, hB⟩ := hrel
    have m1 := n1.below hB hb1
    have m2 := n2.below hB hb2
    have q1 := (hB.cell (p := ⟨bb, 0, none⟩) hbb).trans h1
    have q2 := (hB.cell (p := ⟨bb, 1, none⟩) hbb).trans h2
    have hsz := hB.size
    have hob : ∀ k, Value.ownBlock _ = some k → w.heap.size ≤ k := fun k h => (hown.lt k h).1
    have hk3 : k = 0 ∨ k = 1 ∨ k = 2 := by omega
    rcases hk3 with rfl | rfl | rfl
    ·go_wp2_with (at_builtin; refine wpList_append_own _ rfl (.tmp 31) (.tmp 32) 111 rfl w.heap.size 25 iU (.int .u32 0) 1 4 Tryz.underlying111 hi1 hi2 hi3 hi4 rfl (by decide) _ _ _ rfl hown ⟨b1, 0, none⟩ 8 8 (digL lo 8) rfl (digL_len _ _) (fun j u hj => by
      obtain ⟨hj8, rfl⟩ := digL_get hj
      rw [zva, Nat.zero_add]; exact m1.cell hj8) (hone lo) (by unfold maxLen; omega) (by omega) hsz ?_; intro v' w' hown' hg' hnil)
     rw [dlo] at hown'
     exact ⟨⟨1, by omega, rfl, hown', owns_below hob hB hg' hsz⟩, by decide⟩
    ·go_wp2_with (at_builtin; refine wpList_append_own _ rfl (.tmp 31) (.tmp 32) 111 rfl w.heap.size 25 iU (.int .u32 0) 1 4 Tryz.underlying111 hi1 hi2 hi3 hi4 rfl (by decide) _ _ _ rfl hown ⟨b2, 0, none⟩ 8 8 (digL hi 8) rfl (digL_len _ _) (fun j u hj => by
      obtain ⟨hj8, rfl⟩ := digL_get hj
      rw [zva, Nat.zero_add]; exact m2.cell hj8) (hone hi) (by unfold maxLen; omega) (by omega) hsz ?_; intro v' w' hown' hg' hnil)
     have hown2 : w'.ownsRow w.heap.size 25 1 v' 16 (digL N 8 ++ digL hi 8) := hown'
     rw [← dN] at hown2
     exact ⟨⟨2, by omega, rfl, hown2, owns_below hob hB hg' hsz⟩, by decide⟩
    ·go_wp2_with fail
     go_ret
     rcases hown.2 with ⟨_, h⟩ | ⟨g, c, cur, rfl, hg, hcur, _⟩
     ·omega
     ·refine ⟨g, c, rfl, hg, (hown.lt g rfl).2, fun k hk => ?_, hB⟩
      have := hown.cells (g := g) rfl k (numF N k) (by
       unfold digL
       rw [List.getElem?_map, List.getElem?_range (by omega)]; rfl)
      rw [zva] at this
      exact this
end Go.Proofs.YtcfepoopkfhojaaGreat
namespace Go.Proofs.YtcfepoopkfhojaaGreat
open Go.ChangeShapes Go.WideShapes Go.ChangeAt Go.RowKit
theorem top_ind {m : Nat} (h0 : 0 < m) : ∀ i, m < 4294967296 ^ i → ∃ n, 1 ≤ n ∧ n ≤ i ∧ dig m (n - 1) ≠ 0 ∧ topI m i = 32 * ((n - 1 : Nat) : Int) + Lib.bitLen (dig m (n - 1)) ∧ m < 4294967296 ^ n
 | 0, h => by simp at h; omega
 | i + 1, h => by
  by_cases hz : digI m i = 0
  ·have hd : m / 4294967296 ^ i < 4294967296 := by rw [Nat.div_lt_iff_lt_mul (pow_pos' i), Nat.mul_comm, ← Nat.pow_succ]; exact h
   have hz' : dig m i = 0 := by unfold digI at hz; omega
   have e : dig m i = m / 4294967296 ^ i := by unfold dig; rw [Nat.mod_eq_of_lt hd]
   have hlt : m < 4294967296 ^ i := by
    rw [e] at hz'
    rcases Nat.div_eq_zero_iff.1 hz' with h2 | h2
    ·have := pow_pos' i; omega
    ·exact h2
   obtain ⟨n, h1, h2, h3, h4, h5⟩ := top_ind h0 i hlt
   exact ⟨n, h1, by omega, h3, by rw [topI_zero hz]; exact h4, h5⟩
  ·refine ⟨i + 1, by omega, Nat.le_refl _, ?_, ?_, h⟩
   ·rw [Nat.add_sub_cancel]; intro e; exact hz (by unfold digI; rw [e]; rfl)
   ·rw [topI_here hz, Nat.add_sub_cancel]
    have e : (digI m i).toNat = dig m i := by unfold digI; omega
    rw [e]
theorem top_spec {m : Nat} (h0 : 0 < m) (hm : m < 4294967296 ^ 8) : ∃ n s : Nat, 1 ≤ n ∧ n ≤ 8 ∧ s < 32 ∧ (topI m 8 + 31) / 32 = (n : Int) ∧ 1 ≤ topI m 8 ∧ topI m 8 ≤ 256 ∧ 0 < digI m (n - 1) ∧ 32 - (Lib.bitLen (digI m (n - 1)).toNat : Int) = (s : Int) ∧
  4294967296 ^ (n - 1) ≤ m ∧ m < 4294967296 ^ n ∧ m * 2 ^ s < 4294967296 ^ n := by
 obtain ⟨n, h1, h2, h3, h4, h5⟩ := top_ind h0 8 hm
 obtain ⟨k, rfl⟩ : ∃ k, n = k + 1 := ⟨n - 1, by omega⟩
 rw [Nat.add_sub_cancel] at *
 have hd := dig_lt m k
 obtain ⟨b1, b2, b3⟩ := Lib.bitLenAux_bounds 64 (dig m k) (by omega) h3
 have b4 := Lib.bitLen_le (dig m k) 32 (by omega) (by omega)
 change 1 ≤ Lib.bitLen (dig m k) at b1
 change dig m k < 2 ^ Lib.bitLen (dig m k) at b3
 have e : (digI m k).toNat = dig m k := by unfold digI; omega
 have hk := pow_pos' k
 have hq : m / 4294967296 ^ k < 4294967296 := by rw [Nat.div_lt_iff_lt_mul hk, Nat.mul_comm, ← Nat.pow_succ]; exact h5
 have e2 : dig m k = m / 4294967296 ^ k := by unfold dig; rw [Nat.mod_eq_of_lt hq]
 refine ⟨k + 1, 32 - Lib.bitLen (dig m k), by omega, h2, by omega, ?_, ?_, ?_, ?_, ?_, ?_, h5, ?_⟩
 ·rw [h4]; omega
 ·rw [h4]; omega
 ·rw [h4]; omega
 ·rw [Nat.add_sub_cancel]; unfold digI; omega
 ·rw [Nat.add_sub_cancel, e]; omega
 ·rw [Nat.add_sub_cancel]
  refine Nat.le_of_not_lt fun h => h3 ?_
  rw [e2, Nat.div_eq_of_lt h]
 ·have h6 : m < (dig m k + 1) * 4294967296 ^ k := by
   rw [e2, Nat.mul_comm]; exact Nat.lt_mul_div_succ m hk
  have h7 : (dig m k + 1) * 4294967296 ^ k ≤ 2 ^ Lib.bitLen (dig m k) * 4294967296 ^ k := Nat.mul_le_mul_right _ b3
  have h8 : 2 ^ Lib.bitLen (dig m k) * 2 ^ (32 - Lib.bitLen (dig m k)) = 4294967296 := by
   have h : Lib.bitLen (dig m k) + (32 - Lib.bitLen (dig m k)) = 32 := by omega
   rw [← Nat.pow_add, h]
  have h9 : m * 2 ^ (32 - Lib.bitLen (dig m k)) < (2 ^ Lib.bitLen (dig m k) * 4294967296 ^ k) * 2 ^ (32 - Lib.bitLen (dig m k)) := Nat.mul_lt_mul_of_pos_right (Nat.lt_of_lt_of_le h6 h7) (Nat.pow_pos (by decide))
  have h10 : (2 ^ Lib.bitLen (dig m k) * 4294967296 ^ k) * 2 ^ (32 - Lib.bitLen (dig m k)) = 4294967296 ^ (k + 1) := by
   rw [Nat.pow_succ, Nat.mul_comm (2 ^ Lib.bitLen (dig m k)), Nat.mul_assoc, h8]
  rw [h10] at h9
  exact h9
theorem slice_num (g n : Nat) (hn : n ≤ 8) (w : World) : (Instr.sliceAt 27 (.pointer (some ⟨g, 0, none⟩)) none (some (.int .i64 (n : Int))) (some (.int .i64 (n : Int)))).run Tryz.prog w = .ok (.slice (some ⟨g, 0, none⟩) n n) w := by
 have hl : Tryz.prog.arrayLen 27 = 8 := by kernel_rfl
 have he : Tryz.prog.elem 27 = 25 := by kernel_rfl
 have hu : Tryz.prog.underlying 27 = some (.array (Tryz.prog.arrayLen 27) (Tryz.prog.elem 27)) := by rw [hl, he]; exact underlying_num
 rw [run_sliceAt_array_hm w 27 ⟨g, 0, none⟩ hu .i64 .i64 n n (by omega) (by omega) (by rw [hl]; omega), he, sizeOf_u32]
 simp [slicedAt]
 intro _
 rw [zva]
/-! The rounds. -/
theorem rest_first {N m n s : Nat} (hn1 : 1 ≤ n) (hn8 : n ≤ 8) (hN : N < 4294967296 ^ 16) (hs : s < 32) (hB1 : 4294967296 ^ (n - 1) ≤ m) :
  valI (digI (N * 2 ^ s)) 17 = ((N * 2 ^ s : Nat) : Int) ∧ valI (fun j => digI (N * 2 ^ s) (17 - n + j)) n < ((m * 2 ^ s : Nat) : Int) := by
 have h2 := pow_lt hs
 have h17 : N * 2 ^ s < 4294967296 ^ 17 := by
  rw [Nat.pow_succ]; exact Nat.mul_lt_mul'' hN h2
 refine ⟨by rw [valI_dig, Nat.mod_eq_of_lt h17], ?_⟩
 have e : valI (fun j => digI (N * 2 ^ s) (17 - n + j)) n = ((N * 2 ^ s / 4294967296 ^ (17 - n) % 4294967296 ^ n : Nat) : Int) := by
  rw [← valI_dig]; exact zec fun j _ => (dig_shift _ _ _).symm
 rw [e]
 have h3 : N * 2 ^ s < 4294967296 ^ (17 - n) * (4294967296 ^ (n - 1) * 2 ^ s) := by
  have h : (17 - n) + (n - 1) = 16 := by omega
  rw [← Nat.mul_assoc, ← Nat.pow_add, h]
  exact Nat.mul_lt_mul_of_pos_right hN (Nat.pow_pos (by decide))
 have h4 : N * 2 ^ s / 4294967296 ^ (17 - n) < 4294967296 ^ (n - 1) * 2 ^ s := by
  rw [Nat.div_lt_iff_lt_mul (pow_pos' _), Nat.mul_comm (4294967296 ^ (n - 1) * 2 ^ s)]; exact h3
 have h5 : 4294967296 ^ (n - 1) * 2 ^ s ≤ m * 2 ^ s := Nat.mul_le_mul_right _ hB1
 have h6 := Nat.mod_le (N * 2 ^ s / 4294967296 ^ (17 - n)) (4294967296 ^ n)
 omega
theorem rest_div {m n s : Nat} (hn1 : 1 ≤ n) (hB1 : 4294967296 ^ (n - 1) ≤ m) (hD : m * 2 ^ s < 4294967296 ^ n) : valI (digI (m * 2 ^ s)) n = ((m * 2 ^ s : Nat) : Int) ∧ 0 < digI (m * 2 ^ s) (n - 1) := by
 refine ⟨by rw [valI_dig, Nat.mod_eq_of_lt hD], ?_⟩
 obtain ⟨k, rfl⟩ : ∃ k, n = k + 1 := ⟨n - 1, by omega⟩
 rw [Nat.add_sub_cancel] at *
 have h1 : m * 2 ^ s / 4294967296 ^ k < 4294967296 := by rw [Nat.div_lt_iff_lt_mul (pow_pos' k), Nat.mul_comm 4294967296, ← Nat.pow_succ]; exact hD
 have h2 : 1 ≤ m * 2 ^ s / 4294967296 ^ k := by
  rw [Nat.le_div_iff_mul_le (pow_pos' k), Nat.one_mul]
  exact Nat.le_trans hB1 (Nat.le_mul_of_pos_right _ (Nat.pow_pos (by decide)))
 unfold digI dig
 rw [Nat.mod_eq_of_lt h1]
 omega
theorem rest_room {z : Nat → Int} {d n : Nat} {D : Int} (bz : ∀ k, 0 ≤ z k ∧ z k < 4294967296) (h : valI (fun j => z (d + 1 + j)) n < D) : valI (fun j => z (d + j)) (n + 1) < D * 4294967296 := by
 have e : valI (fun j => z (d + j)) (n + 1) = z d + 4294967296 * valI (fun j => z (d + 1 + j)) n := by
  rw [Nat.add_comm n 1, zkc]
  simp only [valI, Nat.add_zero]
  have : valI (fun j => z (d + (1 + j))) n = valI (fun j => z (d + 1 + j)) n := zec fun j _ => by rw [Nat.add_assoc]
  rw [this]; simp
 rw [e]
 have := bz d
 omega
def mixZ (z z' : Nat → Int) (d n j : Nat) : Int := if d ≤ j ∧ j < d + n then z' (j - d) else z j
theorem rest_next {z z' : Nat → Int} {d n : Nat} {D V q : Int} (h : valI z (d + 1 + n) = V - q * D) (h' : valI z' n = valI (fun j => z (d + j)) (n + 1) % D) :
  valI (mixZ z z' d n) (d + n) = V - (q + 4294967296 ^ d * (valI (fun j => z (d + j)) (n + 1) / D)) * D ∧ valI (fun j => mixZ z z' d n (d + j)) n = valI z' n := by
 have e1 : valI (fun j => mixZ z z' d n (d + j)) n = valI z' n := zec fun j hj => by unfold mixZ; rw [if_pos (by omega), Nat.add_sub_cancel_left]
 refine ⟨?_, e1⟩
 have e2 : valI (mixZ z z' d n) d = valI z d := zec fun j hj => by unfold mixZ; rw [if_neg (by omega)]
 rw [zkc, e1, e2, h']
 rw [Nat.add_assoc, zkc, Nat.add_comm 1 n] at h
 have e3 := Int.emod_def (valI (fun j => z (d + j)) (n + 1)) D
 rw [e3]
 generalize valI (fun j => z (d + j)) (n + 1) / D = Q at *
 generalize (4294967296 : Int) ^ d = P at *
 grind
theorem rest_last {z : Nat → Int} {n N m s : Nat} {q : Int} (bz : ∀ k, 0 ≤ z k ∧ z k < 4294967296) (h0 : 0 < m) (hD : m * 2 ^ s < 4294967296 ^ n) (h : valI z n = ((N * 2 ^ s : Nat) : Int) - q * ((m * 2 ^ s : Nat) : Int)) (h1 : valI z n < ((m * 2 ^ s : Nat) : Int)) :
  N % m * 2 ^ s < 4294967296 ^ n ∧ ∀ k, k < n → z k = digI (N % m * 2 ^ s) k := by
 have hb := valI_bd (z := z) (m := n) fun k _ => bz k
 have e : valI z n = ((N * 2 ^ s : Nat) : Int) % ((m * 2 ^ s : Nat) : Int) := by
  have e2 : ((N * 2 ^ s : Nat) : Int) = valI z n + ((m * 2 ^ s : Nat) : Int) * q := by grind
  rw [e2, Int.add_mul_emod_self_left, Int.emod_eq_of_lt hb.1 h1]
 have e3 : N * 2 ^ s % (m * 2 ^ s) = N % m * 2 ^ s := Nat.mul_mod_mul_right (2 ^ s) N m
 have e4 : valI z n = ((N % m * 2 ^ s : Nat) : Int) := by rw [e, ← e3]; omega
 have h2 : N % m * 2 ^ s < 4294967296 ^ n := Nat.lt_of_le_of_lt (Nat.mul_le_mul_right _ (Nat.le_of_lt (Nat.mod_lt _ h0))) hD
 exact ⟨h2, digI_of (fun k _ => bz k) h2 e4⟩
theorem rest_pos (lo hi m : Nat) (hlo : lo < 4294967296 ^ 8) (hhi : hi < 4294967296 ^ 8) (hm : m < 4294967296 ^ 8) (h0 : 0 < m) (w : World) :
  Calls Tryz.prog 50 #[numV lo, numV hi, numV m] w fun e w' => e = .returned (.tuple #[numV ((lo + hi * 4294967296 ^ 8) % m), .bool true]) ∧ Below w.heap.size w w' := by
 obtain ⟨n, s, hn1, hn8, hs, hT, hT1, hT2, hd, hby, hB1, hB2, hD⟩ := top_spec h0 hm
 obtain ⟨W, hW⟩ : ∃ W, W = (((w.alloc (.cells (numA lo) 27)).alloc (.cells (numA hi) 27)).alloc (.cells (numA m) 27)).alloc (.cells #[Value.int .u32 0, .int .u32 0, .int .u32 0, .int .u32 0, .int .u32 0, .int .u32 0, .int .u32 0, .int .u32 0] 27) := ⟨_, rfl⟩
 have g0 : Num W w.heap.size 27 lo := by rw [hW]; exact (((Num.new w _ lo).alloc _).alloc _).alloc _
 have g1 : Num W (w.heap.size + 1) 27 hi := by
  have := ((Num.new (w.alloc (.cells (numA lo) 27)) 27 hi).alloc (.cells (numA m) 27)).alloc (.cells #[Value.int .u32 0, .int .u32 0, .int .u32 0, .int .u32 0, .int .u32 0, .int .u32 0, .int .u32 0, .int .u32 0] 27)
  rw [World.size_alloc] at this; rw [hW]; exact this
 have g2 : Num W (w.heap.size + 1 + 1) 27 m := by
  have := (Num.new ((w.alloc (.cells (numA lo) 27)).alloc (.cells (numA hi) 27)) 27 m).alloc (.cells #[Value.int .u32 0, .int .u32 0, .int .u32 0, .int .u32 0, .int .u32 0, .int .u32 0, .int .u32 0, .int .u32 0] 27)
  rw [World.size_alloc, World.size_alloc] at this; rw [hW]; exact this
 have g3 : W.heap[w.heap.size + 1 + 1 + 1]? = some (.cells #[Value.int .u32 0, .int .u32 0, .int .u32 0, .int .u32 0, .int .u32 0, .int .u32 0, .int .u32 0, .int .u32 0] 27 (0, 0)) := by
  have := heap_alloc_new (((w.alloc (.cells (numA lo) 27)).alloc (.cells (numA hi) 27)).alloc (.cells (numA m) 27)) (.cells #[Value.int .u32 0, .int .u32 0, .int .u32 0, .int .u32 0, .int .u32 0, .int .u32 0, .int .u32 0, .int .u32 0] 27)
  rw [World.size_alloc, World.size_alloc, World.size_alloc] at this; rw [hW]; exact this
 have gb : Below w.heap.size w W := by rw [hW]; exact ((((Below.refl _ _).alloc (Nat.le_refl _) _).alloc (by simp) _).alloc (by simp; omega) _).alloc (by simp; omega) _
 have gs : W.heap.size = w.heap.size + 4 := by rw [hW]; simp
 go_enter Tryz.func50, Tryz.ntmps50
 go_wp2_with (first | (rw [← hW]; clear hW; refine ze rfl _ _ rfl _ rfl _ _ _ g2 Tryz.underlying27 rfl zd ?_) | (refine ze rfl _ _ rfl _ rfl _ _ _ (hW ▸ g2) Tryz.underlying27 rfl zd ?_))
 refine (bits_any m _).mono ?_
 rintro e w1 ⟨rfl, b1⟩
 generalize topI m 8 = T at *
 have k0 := g0.below b1 g0.lt
 have k1 := g1.below b1 g1.lt
 have k2 := g2.below b1 g2.lt
 have k3 := (b1.block _ (by omega)).trans g3
 have kb := zvb gb b1 (by omega)
 have ks := b1.size
 have hTd : (T + 31).tdiv 32 = (n : Int) := by rw [Int.tdiv_eq_ediv_of_nonneg (by omega)]; exact hT
 have hne : (n : Int) ≠ 0 := by omega
 have hnf : ((n : Int) == 0) = false := by simpa using hne
 have c2 : w1.cell? ⟨w.heap.size + 1 + 1, n - 1, none⟩ = some (.int .u32 (digI m (n - 1))) := k2.cell (by omega)
 have hsl := fun w' => slice_num (w.heap.size + 1 + 1) n hn8 w'
 have hd2 := zla m (n - 1)
 go_wp2_with fail
 refine (lead32_any (digI m (n - 1)) w1 (by omega) (by omega)).mono ?_
 rintro e w1' ⟨rfl, rfl⟩
 rw [hby]
 go_wp2_with fail
 refine (shifted_any (w.heap.size + 1 + 1) 0 n n s m w1 (by omega) hs hB2 (fun k hk => by rw [Nat.zero_add]; exact k2.cell (by omega)) k2.lt).mono ?_
 rintro e w2 ⟨rfl, r2, b2⟩
 have j0 := k0.below b2 k0.lt
 have j1 := k1.below b2 k1.lt
 have j3 := (b2.block _ (by omega)).trans k3
 have jb := zvb kb b2 (by omega)
 have js := b2.size
 go_wp2_with fail
 have hN16 : lo + hi * 4294967296 ^ 8 < 4294967296 ^ 16 := by
  have e : (4294967296 : Nat) ^ 16 = 4294967296 ^ 8 * 4294967296 ^ 8 := by rw [← Nat.pow_add]
  have h := Nat.mul_le_mul_right (4294967296 ^ 8) (show hi + 1 ≤ 4294967296 ^ 8 from hhi)
  rw [e]
  rw [Nat.add_mul, Nat.one_mul] at h
  omega
 have hcc := concat_any w2.heap.size w.heap.size (w.heap.size + 1) lo hi 27 27 ((w2.alloc (.cells #[.slice (some ⟨w.heap.size, 0, none⟩) 8 8, .slice (some ⟨w.heap.size + 1, 0, none⟩) 8 8] 111)).drew) (World.cell?_alloc_new w2 _ _ 0) (World.cell?_alloc_new w2 _ _ 1) (j0.alloc _) (j1.alloc _) (by simp) hlo
 generalize hNe : lo + hi * 4294967296 ^ 8 = N at *
 have hs3 : ((w2.alloc (.cells #[.slice (some ⟨w.heap.size, 0, none⟩) 8 8, .slice (some ⟨w.heap.size + 1, 0, none⟩) 8 8] 111)).drew).heap.size = w2.heap.size + 1 := by simp
 have b2' : Below w2.heap.size w2 ((w2.alloc (.cells #[.slice (some ⟨w.heap.size, 0, none⟩) 8 8, .slice (some ⟨w.heap.size + 1, 0, none⟩) 8 8] 111)).drew) := ((Below.refl _ _).alloc (Nat.le_refl _) _).drew
 rw [hs3] at hcc
 go_region_with (first | (go_at_call 86; refine hcc.mono ?_; rintro e w3 ⟨g, c, rfl, hgl, hgs, hgc, b3⟩) | (go_at_call 85; refine (shifted_any g 0 16 c s N w3 (by omega) hs hN16 hgc hgs).mono ?_; rintro e w4 ⟨rfl, r4, b4⟩))
 have gb3 := zvb jb b2' (by omega)
 have gs3 := b3.size
 have gb4 := zvb (zvb gb3 b3 (by omega)) b4 (by omega)
 have gr := ((r2.of_block (b2'.block _ r2.lt)).of_block (b3.block _ (by have := r2.lt; omega))).of_block (b4.block _ (by have := r2.lt; omega))
 have gm := (b4.block _ (by omega)).trans ((b3.block _ (by omega)).trans ((b2'.block _ (by omega)).trans j3))
 have gs4 := b4.size
 have hr2 := r2.lt
 go_wp2_with fail
 obtain ⟨D, hDe⟩ : ∃ D : Int, D = ((m * 2 ^ s : Nat) : Int) := ⟨_, rfl⟩
 obtain ⟨f1, f2⟩ := rest_first hn1 hn8 hN16 hs hB1
 obtain ⟨v1, v2⟩ := rest_div hn1 hB1 hD
 rw [← hDe] at f2 v1
 obtain ⟨V, hV⟩ : ∃ V : Int, V = ((N * 2 ^ s : Nat) : Int) := ⟨_, rfl⟩
 rw [← hV] at f1
 obtain ⟨G, hG⟩ : ∃ G, G = w3.heap.size := ⟨_, rfl⟩
 obtain ⟨G1, hG1⟩ : ∃ G1, G1 = w1.heap.size := ⟨_, rfl⟩
 rw [← hG] at r4
 rw [← hG1] at gr
 rw [← hG, ← hG1]
 have l1 : G1 ≠ G := by omega
 have l2 : G1 < w4.heap.size := gr.lt
 have l3 : w.heap.size + 4 ≤ G := by omega
 have l4 : w.heap.size + 4 ≤ G1 := by omega
 clear hG hG1
 have HF := hid f1
 have HF2 := hid f2
 have HV1 := hid v1
 have HV2 := hid v2
 have HDD := hid hD
 have HB1 := hid hB1
 clear f1 f2 v1 v2 hD hB1 hB2 hd hd2 hby hT hT1 hT2 hTd c2 hsl hcc hgc hs3 b2' b3 b4 k0 k1 k2 k3 j0 j1 j3 r2 g0 g1 g2 g3 gb kb jb b1 b2 hgl hgs ks js gs3 gb3 gs4 hr2
 go_loopw [12] (fun i wr => ∃ (d : Nat) (z : Nat → Int) (q : Int), d + n ≤ 17 ∧ i = .int .i64 ((d : Int) + n) ∧ (∀ k, 0 ≤ z k ∧ z k < 4294967296) ∧ valI z (d + n) = V - q * D ∧ valI (fun j => z (d + j)) n < D ∧ w4.grownBy wr (some G) ∧ wr.rowIs G 25 17 (fun j => .int .u32 (z j))) (fun i _ => (intOf i).toNat)
 case atStart =>
  refine ⟨17 - n, digI (N * 2 ^ s), 0, by omega, ?_, fun k => ⟨zka _ _, zla _ _⟩, ?_, ?_, World.grownBy.refl _ _, r4⟩
  ·have e : ((17 - n : Nat) : Int) + n = 17 := by omega
   rw [e]
  ·have e : 17 - n + n = 17 := by omega
   rw [e, HF.out]; simp
  ·exact HF2.out
 case round =>
  obtain ⟨d, z, q, hd, rfl, bz, h1, h2, hg, hr⟩ := hrel
  have gmr' := (hg.block (w.heap.size + 1 + 1 + 1) (by omega) (by simp <;> omega)).trans gm
  rcases d with _ | d
  ·have t3 : ¬ ((n : Int) < ((0 : Nat) : Int) + n) := by omega
   have hl := rest_last (N := N) (m := m) (s := s) (q := q) bz h0 HDD.out (by rw [← hV, ← hDe]; rw [Nat.zero_add] at h1; exact h1) (by
    rw [← hDe]
    have e : valI (fun j => z (0 + j)) n = valI z n := zec fun j _ => by rw [Nat.zero_add]
    rw [e] at h2; exact h2)
   have sg := hg.size
   have gw := hr.lt
   have hback := back_any G 0 n n s (N % m * 2 ^ s) wr hn8 hs hl.1 (fun k hk => by rw [Nat.zero_add, hr.cell (by omega), hl.2 k hk]) gw
   rw [Nat.mul_div_cancel _ (Nat.pow_pos (by decide))] at hback
   have hbw := zf gb4 hg (by omega) (by omega)
   go_wp2_with fail
   refine hback.mono ?_
   rintro e w5 ⟨rfl, b5⟩
   have m5 := (b5.block (w.heap.size + 1 + 1 + 1) (by omega)).trans gmr'
   have s5 := b5.size
   go_wp2_with (refine zl rfl _ _ _ rfl _ rfl _ rfl _ rfl m5 zd ?_; intro w6 hg6 m6)
   exact bodyPost_ret (z2a rfl rfl m6 Tryz.underlying27 rfl zd) rfl ⟨by rw [hNe]; rfl, zf (zvb hbw b5 (by omega)) hg6 (by omega) (by omega)⟩
  ·have t1 : ((d + 1 : Nat) : Int) + n - n - 1 = d := by omega
   have t2 : (n : Int) < ((d + 1 : Nat) : Int) + n := by omega
   go_wp2_with fail
   have e5 : d + 1 + n - d = n + 1 := by omega
   rw [e5]
   have sg := hg.size
   refine (reduce_any G d n (n + 1) G1 0 (n + 1) 17 25 (fun j => .int .u32 (z j)) (fun k => z (d + k)) (digI (m * 2 ^ s)) wr hn1 hn8 (by omega) hr (fun k _ => rfl) (fun k hk => by
    rw [Nat.zero_add]; exact hg.cell (gr.cell (by omega)) (by simp <;> omega)) l1 (by omega) (fun k => bz _) (fun k => ⟨zka _ _, zla _ _⟩) HV2.out (by rw [HV1.out]; exact rest_room bz h2)).mono ?_
   rintro e w5 ⟨rfl, hg5, z', bz', hz', hr5⟩
   rw [HV1.out] at hz'
   obtain ⟨n1, n2⟩ := rest_next h1 hz'
   have hX : 0 ≤ valI z' n ∧ valI z' n < D := by
    have b0 := valI_bd (z := fun j => z (d + 1 + j)) (m := n) fun k _ => bz _
    have : 0 < D := by omega
    rw [hz']
    exact ⟨Int.emod_nonneg _ (by omega), Int.emod_lt_of_pos _ this⟩
   go_wp2_with fail
   refine ⟨⟨d, mixZ z z' d n, _, by omega, ?_, fun k => ?_, n1, by rw [n2]; exact hX.2, grown_trans' hg hg5, hr5.congr fun j hj => ?_⟩, ?_⟩
   ·have e : (d : Int) + 1 + n - 1 = d + n := by omega
    rw [e]
   ·unfold mixZ
    split
    ·exact bz' _
    ·exact bz _
   ·unfold mixZ
    by_cases h : d ≤ j ∧ j < d + n
    ·rw [if_pos h, if_pos h]
    ·rw [if_neg h, if_neg h]
   ·simp only [intOf]; omega
theorem topI_none : ∀ i, topI 0 i = 0
 | 0 => by simp [topI]
 | i + 1 => by rw [topI_zero (digI_zeroN i)]; exact topI_none i
theorem rest_zero (lo hi : Nat) (w : World) :
  Calls Tryz.prog 50 #[numV lo, numV hi, numV 0] w fun e w' => e = .returned (.tuple #[numV 0, .bool false]) ∧ Below w.heap.size w w' := by
 obtain ⟨m, hm0⟩ : ∃ m, m = 0 := ⟨0, rfl⟩
 have hz : numV 0 = numV m := by rw [hm0]
 have ht : topI m 8 = 0 := by rw [hm0]; exact topI_none 8
 rw [hz]
 have HZ := hid (show Value.agg #[Value.int .u32 0, .int .u32 0, .int .u32 0, .int .u32 0, .int .u32 0, .int .u32 0, .int .u32 0, .int .u32 0] = .agg (numA m) by rw [hm0, ← zeroA])
 clear hz hm0
 obtain ⟨W, hW⟩ : ∃ W, W = (((w.alloc (.cells (numA lo) 27)).alloc (.cells (numA hi) 27)).alloc (.cells (numA m) 27)).alloc (.cells #[Value.int .u32 0, .int .u32 0, .int .u32 0, .int .u32 0, .int .u32 0, .int .u32 0, .int .u32 0, .int .u32 0] 27) := ⟨_, rfl⟩
 have g0 : Num W w.heap.size 27 lo := by rw [hW]; exact (((Num.new w _ lo).alloc _).alloc _).alloc _
 have g1 : Num W (w.heap.size + 1) 27 hi := by
  have := ((Num.new (w.alloc (.cells (numA lo) 27)) 27 hi).alloc (.cells (numA m) 27)).alloc (.cells #[Value.int .u32 0, .int .u32 0, .int .u32 0, .int .u32 0, .int .u32 0, .int .u32 0, .int .u32 0, .int .u32 0] 27)
  rw [World.size_alloc] at this; rw [hW]; exact this
 have g2 : Num W (w.heap.size + 1 + 1) 27 m := by
  have := (Num.new ((w.alloc (.cells (numA lo) 27)).alloc (.cells (numA hi) 27)) 27 m).alloc (.cells #[Value.int .u32 0, .int .u32 0, .int .u32 0, .int .u32 0, .int .u32 0, .int .u32 0, .int .u32 0, .int .u32 0] 27)
  rw [World.size_alloc, World.size_alloc] at this; rw [hW]; exact this
 have g3 : W.heap[w.heap.size + 1 + 1 + 1]? = some (.cells #[Value.int .u32 0, .int .u32 0, .int .u32 0, .int .u32 0, .int .u32 0, .int .u32 0, .int .u32 0, .int .u32 0] 27 (0, 0)) := by
  have := heap_alloc_new (((w.alloc (.cells (numA lo) 27)).alloc (.cells (numA hi) 27)).alloc (.cells (numA m) 27)) (.cells #[Value.int .u32 0, .int .u32 0, .int .u32 0, .int .u32 0, .int .u32 0, .int .u32 0, .int .u32 0, .int .u32 0] 27)
  rw [World.size_alloc, World.size_alloc, World.size_alloc] at this; rw [hW]; exact this
 have gb : Below w.heap.size w W := by rw [hW]; exact ((((Below.refl _ _).alloc (Nat.le_refl _) _).alloc (by simp) _).alloc (by simp; omega) _).alloc (by simp; omega) _
 have gs : W.heap.size = w.heap.size + 4 := by rw [hW]; simp
 go_enter Tryz.func50, Tryz.ntmps50
 go_wp2_with (first | (rw [← hW]; clear hW; refine ze rfl _ _ rfl _ rfl _ _ _ g2 Tryz.underlying27 rfl zd ?_) | (refine ze rfl _ _ rfl _ rfl _ _ _ (hW ▸ g2) Tryz.underlying27 rfl zd ?_))
 refine (bits_any m _).mono ?_
 rintro e w1 ⟨rfl, b1⟩
 rw [ht]
 have k3 := (b1.block (w.heap.size + 1 + 1 + 1) (by omega)).trans g3
 have kb := zvb gb b1 (by omega)
 have ks := b1.size
 go_wp2_with (refine zl rfl _ _ _ rfl _ rfl m (by exact HZ.out) _ rfl k3 zd ?_; intro w6 hg6 m6)
 exact bodyPost_ret (z2a rfl rfl m6 Tryz.underlying27 rfl zd) rfl ⟨rfl, zf kb hg6 (by omega) (by omega)⟩
theorem rest_any (lo hi m : Nat) (hlo : lo < 4294967296 ^ 8) (hhi : hi < 4294967296 ^ 8) (hm : m < 4294967296 ^ 8) (w : World) :
  Calls Tryz.prog 50 #[numV lo, numV hi, numV m] w fun e w' => e = .returned (.tuple #[numV (if m = 0 then 0 else (lo + hi * 4294967296 ^ 8) % m), .bool (decide (m ≠ 0))]) ∧ Below w.heap.size w w' := by
 by_cases h : m = 0
 ·subst h
  rw [if_pos rfl, show decide ((0 : Nat) ≠ 0) = false by decide]
  exact rest_zero lo hi w
 ·rw [if_neg h, show decide (m ≠ 0) = true by simpa using h]
  exact rest_pos lo hi m hlo hhi hm (by omega) w
end Go.Proofs.YtcfepoopkfhojaaGreat
namespace Go.Proofs.YtcfepoopkfhojaaGreat
open Go.ChangeShapes Go.WideShapes Go.ChangeAt Go.RowKit
theorem pow32 (j : Nat) : 4294967296 ^ j = 2 ^ (32 * j) := by rw [Nat.pow_mul]
theorem top_one {a k : Nat} (ha : a < 4294967296 ^ 8) (h : a / 2 ^ k = 1) : topI a 8 = (k : Int) + 1 := by
 have h0 : 0 < a := by
  refine Nat.pos_of_ne_zero fun e => ?_
  rw [e, Nat.zero_div] at h
  cases h
 obtain ⟨n, h1, h2, h3, h4, h5⟩ := top_ind h0 8 ha
 obtain ⟨j, rfl⟩ : ∃ j, n = j + 1 := ⟨n - 1, by omega⟩
 rw [Nat.add_sub_cancel] at *
 have hd := dig_lt a j
 obtain ⟨b1, b2, b3⟩ := Lib.bitLenAux_bounds 64 (dig a j) (by omega) h3
 change 1 ≤ Lib.bitLen (dig a j) at b1
 change 2 ^ (Lib.bitLen (dig a j) - 1) ≤ dig a j at b2
 change dig a j < 2 ^ Lib.bitLen (dig a j) at b3
 have hk := pow_pos' j
 have hq : a / 4294967296 ^ j < 4294967296 := by rw [Nat.div_lt_iff_lt_mul hk, Nat.mul_comm, ← Nat.pow_succ]; exact h5
 have e2 : dig a j = a / 4294967296 ^ j := by unfold dig; rw [Nat.mod_eq_of_lt hq]
 have lo : 2 ^ (32 * j + (Lib.bitLen (dig a j) - 1)) ≤ a := by
  rw [Nat.pow_add, ← pow32, Nat.mul_comm]
  rw [e2] at b2 ⊢
  exact Nat.le_trans (Nat.mul_le_mul_right _ b2) (Nat.div_mul_le_self _ _)
 have hi : a < 2 ^ (32 * j + Lib.bitLen (dig a j)) := by
  rw [Nat.pow_add, ← pow32, Nat.mul_comm]
  rw [e2] at b3 ⊢
  exact (Nat.div_lt_iff_lt_mul hk).1 b3
 have lo' : 2 ^ k ≤ a := by
  refine Nat.le_of_not_lt fun hl => ?_
  rw [Nat.div_eq_of_lt hl] at h
  cases h
 have hi' : a < 2 ^ (k + 1) := by
  rw [Nat.pow_succ, Nat.mul_comm]
  exact (Nat.div_lt_iff_lt_mul (Nat.pow_pos (by decide))).1 (by omega)
 have p1 : k < 32 * j + Lib.bitLen (dig a j) := (Nat.pow_lt_pow_iff_right (by decide : 1 < 2)).1 (Nat.lt_of_le_of_lt lo' hi)
 have p2 : 32 * j + (Lib.bitLen (dig a j) - 1) < k + 1 := (Nat.pow_lt_pow_iff_right (by decide : 1 < 2)).1 (Nat.lt_of_le_of_lt lo hi')
 rw [h4]; omega
theorem bit_up {a k : Nat} (h : a / 2 ^ (k + 1) = 0) : (bitI a k = 1 ∧ a / 2 ^ k = 1) ∨ (bitI a k = 0 ∧ a / 2 ^ k = 0) := by
 rw [Nat.pow_succ, ← Nat.div_div_eq_div_mul] at h
 unfold bitI
 generalize a / 2 ^ k = q at *
 have : q = 0 ∨ q = 1 := by omega
 rcases this with rfl | rfl
 ·right; simp
 ·left; simp
theorem rbits_any (a : Nat) (ha : a < 4294967296 ^ 8) (w : World) :
  Calls Tryz.prog 62 #[numV a] w fun e w' => e = .returned (.int .i64 (topI a 8)) ∧ Below w.heap.size w w' := by
 have TOP := hid (fun k => @top_one a k ha)
 have ST : Hid (a / 2 ^ 256 = 0) := hid (Nat.div_eq_of_lt (by rw [show (2 : Nat) ^ 256 = 4294967296 ^ 8 by decide +kernel]; exact ha))
 clear ha
 have g0 := Num.new w 27 a
 have gb := zga w (.cells (numA a) 27)
 go_enter Tryz.func62, Tryz.ntmps62
 go_wp2
 generalize World.alloc _ _ = W at *
 go_loopw [3] (fun i wr => ∃ q : Int, -1 ≤ q ∧ q ≤ 255 ∧ i = .int .i64 q ∧ Hid (a / 2 ^ (q + 1).toNat = 0) ∧ Below (w.heap.size + 1) W wr) (fun i _ => (intOf i + 1).toNat)
 case atStart => exact ⟨255, by omega, by omega, rfl, ST, Below.refl _ _⟩
 case round =>
  obtain ⟨q, hq1, hq2, rfl, ht, hB⟩ := hrel
  have n0 := g0.below hB (by omega)
  have hlt := g0.lt
  by_cases hq : 0 ≤ q
  ·obtain ⟨k, rfl⟩ := Int.eq_ofNat_of_zero_le hq
   have hk := rbit_any a k (by omega)
   rcases bit_up (show a / 2 ^ (k + 1) = 0 from ht.out) with ⟨e1, e2⟩ | ⟨e1, e2⟩
   ·have E := hid e2
    rw [e1] at hk
    clear e1 e2 ht
    go_wp2_with (refine ze rfl _ _ rfl _ rfl _ _ _ n0 Tryz.underlying27 rfl zd ?_)
    refine (hk _).mono ?_
    rintro e w1 ⟨rfl, b1⟩
    clear hk
    go_wp2
    go_ret
    exact ⟨by rw [TOP.out k E.out]; rfl, gb.trans ((hB.trans (b1.mono (by have := hB.size; omega))).mono (by omega))⟩
   ·have E := hid e2
    rw [e1] at hk
    clear e1 e2 ht
    go_wp2_with (refine ze rfl _ _ rfl _ rfl _ _ _ n0 Tryz.underlying27 rfl zd ?_)
    refine (hk _).mono ?_
    rintro e w1 ⟨rfl, b1⟩
    clear hk
    go_wp2
    go_roundw
    case rel => exact ⟨(k : Int) - 1, by omega, by omega, by go_num, by rw [show ((k : Int) - 1 + 1).toNat = k by omega]; exact E, hB.trans (b1.mono (by have := hB.size; omega))⟩
    case measure => simp [intOf] <;> omega
  ·have hq' : q = -1 := by omega
   subst hq'
   have e : a = 0 := by have := ht.out; simpa using this
   have E := hid (show topI a 8 = 0 by rw [e]; exact topI_none 8)
   clear e
   go_wp2
   go_ret
   exact ⟨by rw [E.out]; rfl, gb.trans (hB.mono (by omega))⟩
section
variable {P : Program} {ops : Array Oper} {Q : Exit → Act → World → Prop}
theorem wpOp_load {i : Nat} {o : Oper} (ho : ops[i]? = some o) (hg : o.guard = none) (ty : TypeId) (x : Operand) (hop : o.op = .load ty x) {K : Act → World → Prop} {a : Act} {w : World}
  (g : Nat) (hx : a.eval x = .pointer (some ⟨g, 0, none⟩)) (t : TypeId) (n : Nat) (d : TypeDesc) (hn : Num w g t n) (hu : P.underlying ty = some d)
  (hd : (match d with | .struct _ | .array _ _ => true | _ => false) = true) (hi : (P.info? ty).map (·.size) = some 8) (h : K (a.put o.dst (.agg (numA n))) w) : wpOp P ops Q i K a w := by
 unfold wpOp
 rw [ho]
 dsimp only
 rw [if_pos (by simp [Region.wanted, hg])]
 exact .inl (wp_load_row ty x hop g hx t (numA n) (0, 0) d hn hu hd hi h)
theorem wpOp_store {i : Nat} {o : Oper} (ho : ops[i]? = some o) (hg : o.guard = none) (ty : TypeId) (x y : Operand) (hop : o.op = .store ty x y) {K : Act → World → Prop} {a : Act} {w : World}
  (g : Nat) (hx : a.eval x = .pointer (some ⟨g, 0, none⟩)) (n : Nat) (hy : a.eval y = .agg (numA n)) (cs : Array Value) (hb : w.heap[g]? = some (.cells cs ty (0, 0))) (hcs : cs.size = 8)
  (hi : (P.info? ty).map (·.size) = some 8) (h : ∀ w', w.grownBy w' (some g) → Num w' g ty n → K (a.put o.dst undef) w') : wpOp P ops Q i K a w := by
 unfold wpOp
 rw [ho]
 dsimp only
 rw [if_pos (by simp [Region.wanted, hg])]
 left
 unfold Oper.wp execOp
 simp only [hop, hx, hy, Sem.run_bind, run_store_num w ty g n cs hcs hb hi, Result.andThen_ok, Sem.run_pure]
 exact h _ (zfb _ _ _) (num_setRow n hb)
theorem wpAny_at {f : Nat} {listed : Array Bool} {a : Act} {w : World} {l : List Nat} (hr : Region.ready .any ops listed = l) (hl : l ≠ []) (h : ∀ i ∈ l, wpOp P ops Q i (wpAny P .any ops Q f (listed.setIfInBounds i true)) a w) :
  wpAny P .any ops Q (f + 1) listed a w := by
 refine ⟨fun e => absurd (hr.symm.trans e) hl, ?_⟩
 rw [hr]; exact h
theorem wpAny_over {f : Nat} {listed : Array Bool} {a : Act} {w : World} (hr : Region.ready .any ops listed = []) (h : Q .normal a w) : wpAny P .any ops Q f listed a w := by
 cases f with
 | zero => exact ⟨hr, h⟩
 | succ f => exact ⟨fun _ => h, fun i hi => by rw [hr] at hi; cases hi⟩
theorem z2b {a : Act} {d k : Nat} {v : Value} (h : k ≠ d) : (a.put (some d) v).eval (.tmp k) = a.eval (.tmp k) := by
 simp only [Act.put, Act.eval, Array.getD_eq_getD_getElem?, Array.getElem?_setIfInBounds_ne (Ne.symm h)]
theorem eval_put_selfP {a : Act} {d : Nat} {v : Value} (h : d < a.tmps.size) : (a.put (some d) v).eval (.tmp d) = v := by
 simp [Act.put, Act.eval, h]
end
theorem wp_two_rows {P : Program} {id : Nat} {Q : Exit → Act → World → Prop} {a : Act} {W : World} {o0 o1 o2 o3 : Oper} (hm : P.follows .mixedOrders = true) (ty : TypeId) (d : TypeDesc) (hu : P.underlying ty = some d)
  (hd : (match d with | .struct _ | .array _ _ => true | _ => false) = true) (hi : (P.info? ty).map (·.size) = some 8) (p0 p1 q0 q1 d0 d1 : Nat)
  (e0 : o0.op = .load ty (.tmp p0)) (e1 : o1.op = .load ty (.tmp p1)) (e2 : o2.op = .store ty (.tmp q0) (.tmp d0)) (e3 : o3.op = .store ty (.tmp q1) (.tmp d1))
  (s0 : o0.dst = some d0) (s1 : o1.dst = some d1) (s2 : o2.dst = none) (s3 : o3.dst = none) (g0 : o0.guard = none) (g1 : o1.guard = none) (g2 : o2.guard = none) (g3 : o3.guard = none)
  (r0 : Region.ready .any #[o0, o1, o2, o3] #[false, false, false, false] = [0, 1]) (r1 : Region.ready .any #[o0, o1, o2, o3] #[true, false, false, false] = [1, 2]) (r2 : Region.ready .any #[o0, o1, o2, o3] #[false, true, false, false] = [0])
  (r3 : Region.ready .any #[o0, o1, o2, o3] #[true, true, false, false] = [2]) (r4 : Region.ready .any #[o0, o1, o2, o3] #[true, false, true, false] = [1]) (r5 : Region.ready .any #[o0, o1, o2, o3] #[true, true, true, false] = [3])
  (r6 : Region.ready .any #[o0, o1, o2, o3] #[true, true, true, true] = [])
  (hne : p0 ≠ d0 ∧ p0 ≠ d1 ∧ p1 ≠ d0 ∧ p1 ≠ d1 ∧ q0 ≠ d0 ∧ q0 ≠ d1 ∧ q1 ≠ d0 ∧ q1 ≠ d1 ∧ d0 ≠ d1) (hs0 : d0 < a.tmps.size) (hs1 : d1 < a.tmps.size)
  (b0 b1 c0 c1 : Nat) (v0 : a.eval (.tmp p0) = .pointer (some ⟨b0, 0, none⟩)) (v1 : a.eval (.tmp p1) = .pointer (some ⟨b1, 0, none⟩)) (v2 : a.eval (.tmp q0) = .pointer (some ⟨c0, 0, none⟩)) (v3 : a.eval (.tmp q1) = .pointer (some ⟨c1, 0, none⟩))
  (t0 t1 : TypeId) (x y : Nat) (n0 : Num W b0 t0 x) (n1 : Num W b1 t1 y) (z0 z1 : Array Value) (m0 : W.heap[c0]? = some (.cells z0 ty (0, 0))) (m1 : W.heap[c1]? = some (.cells z1 ty (0, 0))) (k0 : z0.size = 8) (k1 : z1.size = 8)
  (hbc : b0 ≠ c0 ∧ b1 ≠ c0 ∧ c0 ≠ c1) (h : ∀ w' : World, (∀ B, B ≤ c0 → B ≤ c1 → Below B W w') → Num w' c0 ty x → Num w' c1 ty y → Q .normal ((a.put (some d0) (.agg (numA x))).put (some d1) (.agg (numA y))) w') :
  (Code.region id #[o0, o1, o2, o3] true).wp P Q a W := by
 obtain ⟨i1, i2, i3, i4, i5, i6, i7, i8, i9⟩ := hne
 obtain ⟨j1, j2, j3⟩ := hbc
 refine wp_region_any hm ?_
 have n0' : Num W.drew b0 t0 x := n0
 have n1' : Num W.drew b1 t1 y := n1
 have m0' : W.drew.heap[c0]? = some (.cells z0 ty (0, 0)) := m0
 have m1' : W.drew.heap[c1]? = some (.cells z1 ty (0, 0)) := m1
 change wpAny P .any #[o0, o1, o2, o3] Q 4 #[false, false, false, false] a W.drew
 have fin : ∀ (a' : Act) (w3 : World), a' = (a.put (some d0) (.agg (numA x))).put (some d1) (.agg (numA y)) → W.drew.grownBy w3 (some c0) → Num w3 c0 ty x → wpAny P .any #[o0, o1, o2, o3] Q 1 #[true, true, true, false] a' w3 := by
  intro a' w3 ha hg hn
  subst ha
  refine wpAny_at r5 (by simp) fun i hi' => ?_
  simp only [List.mem_singleton] at hi'; subst hi'
  refine wpOp_store (o := o3) rfl g3 ty _ _ e3 c1 (by rw [z2b i8, z2b i7]; exact v3) y (by rw [eval_put_selfP (by simp [Act.put]; exact hs1)]) z1 ((hg.block _ (zyb m1') (by simp; exact fun e => j3 e.symm)).trans m1') k1 hi fun w4 hg4 hn4 => ?_
  rw [s3]
  refine wpAny_over r6 (h w4 (fun B hB0 hB1 => ?_) (hn.grown hg4 (by simp; exact j3)) hn4)
  have B1 : Below B W W.drew := (Below.refl _ _).drew
  have hB : B ≤ W.drew.heap.size := Nat.le_trans hB0 (Nat.le_of_lt (zyb m0'))
  exact zf (zf B1 hg hB hB0) hg4 (Nat.le_trans hB hg.size) hB1
 have st2 : ∀ (a' : Act), a' = (a.put (some d0) (.agg (numA x))).put (some d1) (.agg (numA y)) → wpAny P .any #[o0, o1, o2, o3] Q 2 #[true, true, false, false] a' W.drew := by
  intro a' ha
  subst ha
  refine wpAny_at r3 (by simp) fun i hi' => ?_
  simp only [List.mem_singleton] at hi'; subst hi'
  refine wpOp_store (o := o2) rfl g2 ty _ _ e2 c0 (by rw [z2b i6, z2b i5]; exact v2) x (by rw [z2b i9, eval_put_selfP hs0]) z0 m0' k0 hi fun w3 hg3 hn3 => ?_
  rw [s2]
  exact fin _ _ rfl hg3 hn3
 refine wpAny_at r0 (by simp) fun i hi' => ?_
 simp only [List.mem_cons, List.not_mem_nil, or_false] at hi'
 rcases hi' with rfl | rfl
 ·refine wpOp_load (o := o0) rfl g0 ty _ e0 b0 v0 t0 x d n0' hu hd hi ?_
  rw [s0]
  change wpAny P .any #[o0, o1, o2, o3] Q 3 #[true, false, false, false] _ _
  refine wpAny_at r1 (by simp) fun i hi' => ?_
  simp only [List.mem_cons, List.not_mem_nil, or_false] at hi'
  rcases hi' with rfl | rfl
  ·refine wpOp_load (o := o1) rfl g1 ty _ e1 b1 (by rw [z2b i3]; exact v1) t1 y d n1' hu hd hi ?_
   rw [s1]
   exact st2 _ rfl
  ·refine wpOp_store (o := o2) rfl g2 ty _ _ e2 c0 (by rw [z2b i5]; exact v2) x (by rw [eval_put_selfP hs0]) z0 m0' k0 hi fun w3 hg3 hn3 => ?_
   rw [s2]
   change wpAny P .any #[o0, o1, o2, o3] Q 2 #[true, false, true, false] _ _
   refine wpAny_at r4 (by simp) fun i hi' => ?_
   simp only [List.mem_singleton] at hi'; subst hi'
   refine wpOp_load (o := o1) rfl g1 ty _ e1 b1 (by show (a.put (some d0) _).eval _ = _; rw [z2b i3]; exact v1) t1 y d (n1'.grown hg3 (by simp; exact j2)) hu hd hi ?_
   rw [s1]
   exact fin _ _ rfl hg3 hn3
 ·refine wpOp_load (o := o1) rfl g1 ty _ e1 b1 v1 t1 y d n1' hu hd hi ?_
  rw [s1]
  change wpAny P .any #[o0, o1, o2, o3] Q 3 #[false, true, false, false] _ _
  refine wpAny_at r2 (by simp) fun i hi' => ?_
  simp only [List.mem_singleton] at hi'; subst hi'
  refine wpOp_load (o := o0) rfl g0 ty _ e0 b0 (by rw [z2b i2]; exact v0) t0 x d n0' hu hd hi ?_
  rw [s0]
  exact st2 _ (Act.put_comm a _ _ (fun d e => by cases e; simp; exact i9))
theorem rmul_any (a b : Nat) (ha : a < 4294967296 ^ 8) (hb : b < 4294967296 ^ 8) (w : World) :
  Calls Tryz.prog 57 #[numV a, numV b] w fun e w' => e = .returned (.tuple #[numV (a * b % 4294967296 ^ 8), numV (a * b / 4294967296 ^ 8)]) ∧ Below w.heap.size w w' := by
 obtain ⟨W, hW⟩ : ∃ W, W = (((((w.alloc (.cells (numA a) 27)).alloc (.cells (numA b) 27)).alloc (.cells #[Value.int .u32 0, .int .u32 0, .int .u32 0, .int .u32 0, .int .u32 0, .int .u32 0, .int .u32 0, .int .u32 0] 27)).alloc (.cells #[Value.int .u32 0, .int .u32 0, .int .u32 0, .int .u32 0, .int .u32 0, .int .u32 0, .int .u32 0, .int .u32 0] 27)).alloc (.cells #[Value.int .u32 0, .int .u32 0, .int .u32 0, .int .u32 0, .int .u32 0, .int .u32 0, .int .u32 0, .int .u32 0, .int .u32 0, .int .u32 0, .int .u32 0, .int .u32 0, .int .u32 0, .int .u32 0, .int .u32 0, .int .u32 0] 113)) := ⟨_, rfl⟩
 have g0 : Num W w.heap.size 27 a := by rw [hW]; exact ((((Num.new w _ a).alloc _).alloc _).alloc _).alloc _
 have g1 : Num W (w.heap.size + 1) 27 b := by
  have := (((Num.new (w.alloc (.cells (numA a) 27)) 27 b).alloc (.cells #[Value.int .u32 0, .int .u32 0, .int .u32 0, .int .u32 0, .int .u32 0, .int .u32 0, .int .u32 0, .int .u32 0] 27)).alloc (.cells #[Value.int .u32 0, .int .u32 0, .int .u32 0, .int .u32 0, .int .u32 0, .int .u32 0, .int .u32 0, .int .u32 0] 27)).alloc (.cells #[Value.int .u32 0, .int .u32 0, .int .u32 0, .int .u32 0, .int .u32 0, .int .u32 0, .int .u32 0, .int .u32 0, .int .u32 0, .int .u32 0, .int .u32 0, .int .u32 0, .int .u32 0, .int .u32 0, .int .u32 0, .int .u32 0] 113)
  rw [World.size_alloc] at this; rw [hW]; exact this
 have g2 : W.heap[w.heap.size + 1 + 1]? = some (.cells #[Value.int .u32 0, .int .u32 0, .int .u32 0, .int .u32 0, .int .u32 0, .int .u32 0, .int .u32 0, .int .u32 0] 27 (0, 0)) := by
  have h := heap_alloc2_old ((w.alloc (.cells (numA a) 27)).alloc (.cells (numA b) 27)) (.cells #[Value.int .u32 0, .int .u32 0, .int .u32 0, .int .u32 0, .int .u32 0, .int .u32 0, .int .u32 0, .int .u32 0] 27) (.cells #[Value.int .u32 0, .int .u32 0, .int .u32 0, .int .u32 0, .int .u32 0, .int .u32 0, .int .u32 0, .int .u32 0] 27)
  have := (Below.heap_alloc (((((w.alloc (.cells (numA a) 27)).alloc (.cells (numA b) 27)).alloc (.cells #[Value.int .u32 0, .int .u32 0, .int .u32 0, .int .u32 0, .int .u32 0, .int .u32 0, .int .u32 0, .int .u32 0] 27)).alloc (.cells #[Value.int .u32 0, .int .u32 0, .int .u32 0, .int .u32 0, .int .u32 0, .int .u32 0, .int .u32 0, .int .u32 0] 27))) (.cells #[Value.int .u32 0, .int .u32 0, .int .u32 0, .int .u32 0, .int .u32 0, .int .u32 0, .int .u32 0, .int .u32 0, .int .u32 0, .int .u32 0, .int .u32 0, .int .u32 0, .int .u32 0, .int .u32 0, .int .u32 0, .int .u32 0] 113) _ (heap_lt' h)).trans h
  simp only [World.size_alloc] at this; rw [hW]; exact this
 have g3 : W.heap[w.heap.size + 1 + 1 + 1]? = some (.cells #[Value.int .u32 0, .int .u32 0, .int .u32 0, .int .u32 0, .int .u32 0, .int .u32 0, .int .u32 0, .int .u32 0] 27 (0, 0)) := by
  have h := heap_alloc2_new ((w.alloc (.cells (numA a) 27)).alloc (.cells (numA b) 27)) (.cells #[Value.int .u32 0, .int .u32 0, .int .u32 0, .int .u32 0, .int .u32 0, .int .u32 0, .int .u32 0, .int .u32 0] 27) (.cells #[Value.int .u32 0, .int .u32 0, .int .u32 0, .int .u32 0, .int .u32 0, .int .u32 0, .int .u32 0, .int .u32 0] 27)
  have := (Below.heap_alloc (((((w.alloc (.cells (numA a) 27)).alloc (.cells (numA b) 27)).alloc (.cells #[Value.int .u32 0, .int .u32 0, .int .u32 0, .int .u32 0, .int .u32 0, .int .u32 0, .int .u32 0, .int .u32 0] 27)).alloc (.cells #[Value.int .u32 0, .int .u32 0, .int .u32 0, .int .u32 0, .int .u32 0, .int .u32 0, .int .u32 0, .int .u32 0] 27))) (.cells #[Value.int .u32 0, .int .u32 0, .int .u32 0, .int .u32 0, .int .u32 0, .int .u32 0, .int .u32 0, .int .u32 0, .int .u32 0, .int .u32 0, .int .u32 0, .int .u32 0, .int .u32 0, .int .u32 0, .int .u32 0, .int .u32 0] 113) _ (heap_lt' h)).trans h
  simp only [World.size_alloc] at this; rw [hW]; exact this
 have g4 : W.rowIs (w.heap.size + 1 + 1 + 1 + 1) 113 16 (numF (rowN a b 0)) := by
  have := zero16 ((((w.alloc (.cells (numA a) 27)).alloc (.cells (numA b) 27)).alloc (.cells #[Value.int .u32 0, .int .u32 0, .int .u32 0, .int .u32 0, .int .u32 0, .int .u32 0, .int .u32 0, .int .u32 0] 27)).alloc (.cells #[Value.int .u32 0, .int .u32 0, .int .u32 0, .int .u32 0, .int .u32 0, .int .u32 0, .int .u32 0, .int .u32 0] 27))
  rw [World.size_alloc, World.size_alloc, World.size_alloc, World.size_alloc] at this; rw [rowN_zero, hW]; exact this
 have gb : Below w.heap.size w W := by rw [hW]; exact (((((Below.refl _ _).alloc (Nat.le_refl _) _).alloc (by simp) _).alloc (by simp; omega) _).alloc (by simp; omega) _).alloc (by simp; omega) _
 go_enter Tryz.func57, Tryz.ntmps57
 go_upto_region 2 with fail
 rw [← hW]
 clear hW
 go_wp2
 go_loopw [7] (fun i wr => ∃ k : Nat, k ≤ 8 ∧ i = .int .i64 k ∧ wr.rowIs (w.heap.size + 1 + 1 + 1 + 1) 113 16 (numF (rowN a b k)) ∧ W.grownBy wr (some (w.heap.size + 1 + 1 + 1 + 1))) (fun i _ => 8 - (intOf i).toNat)
 case atStart => exact ⟨0, by omega, rfl, g4, World.grownBy.refl _ _⟩
 case round =>
  obtain ⟨k, hk, rfl, hr, hg⟩ := hrel
  clear g4
  by_cases hlt : k < 8
  ·have ms := hid (mul_step (a := a) hb hlt)
   have c0 : Hid (digI a k = digI a k) := hid rfl
   have hd1 : 0 ≤ digI a k ∧ digI a k < 4294967296 := ⟨zka _ _, zla _ _⟩
   have HCB := hid (fun j => cyM_bd (d := digI a k) (x := fun i => digI (rowN a b k) (k + i)) (y := digI b) hd1 (fun i => ⟨zka _ _, zla _ _⟩) (fun i => ⟨zka _ _, zla _ _⟩) j)
   obtain ⟨d1, d2⟩ := hd1
   go_wp2
   go_loopw [8, 9] (fun cy j wi => ∃ p : Nat, p ≤ 8 ∧ j = .int .i64 p ∧ cy = .int .u64 (cyM (digI a k) (fun i => digI (rowN a b k) (k + i)) (digI b) p) ∧ wi.rowIs (w.heap.size + 1 + 1 + 1 + 1) 113 16 (fun j => if k ≤ j ∧ j < k + p then .int .u32 (zM (digI a k) (fun i => digI (rowN a b k) (k + i)) (digI b) (j - k)) else numF (rowN a b k) j) ∧ W.grownBy wi (some (w.heap.size + 1 + 1 + 1 + 1))) (fun _ j _ => 8 - (intOf j).toNat)
   case atStart => exact ⟨0, by omega, rfl, rfl, hr.congr fun j _ => by rw [if_neg (by omega)], hg⟩
   case round =>
    obtain ⟨p, hp, rfl, rfl, hq, hgi⟩ := hrel
    clear hr hg
    by_cases hlp : p < 8
    ·have s0 := (g0.grown hgi (by simp; omega)).cell hlt
     have s1 := (g1.grown hgi (by simp)).cell hlp
     have s2 := hq.cell (i := k + p) (by omega)
     rw [if_neg (by omega), numF] at s2
     have s3 := hq.frozen (k + p)
     obtain ⟨cb0, cb1⟩ := HCB.out p
     have y0 := zka b p
     have y1 := zla b p
     have x0 := zka (rowN a b k) (k + p)
     have x1 := zla (rowN a b k) (k + p)
     obtain ⟨pd0, pd1⟩ := prod_bd ⟨d1, d2⟩ ⟨y0, y1⟩
     have e1 := Go.IntWalk.u64_in (digI a k * digI b p) (by omega)
     have e2 := Go.IntWalk.u64_in (cyM (digI a k) (fun i => digI (rowN a b k) (k + i)) (digI b) p + digI a k * digI b p) (by omega)
     have e3 := Go.IntWalk.u64_in (cyM (digI a k) (fun i => digI (rowN a b k) (k + i)) (digI b) p + digI a k * digI b p + digI (rowN a b k) (k + p)) (by omega)
     go_wp2
     go_quiet (fail)
     clear e1 e2 e3 s0 s1
     go_wp2
     go_roundw
     case rel =>
      refine ⟨p + 1, by omega, by go_num, ?_, ?_, drewN_grown (zsa hgi rfl _) _⟩
      ·rw [cyM, Int.add_assoc]
      ·refine (hq.set (k + p) _).congr fun j hj => ?_
       by_cases e : j = k + p
       ·subst e
        rw [if_pos rfl, if_pos (by omega), Nat.add_sub_cancel_left, zM, Int.add_assoc]
       ·rw [if_neg e]
        by_cases h1 : k ≤ j ∧ j < k + p
        ·rw [if_pos h1, if_pos (by omega)]
        ·rw [if_neg h1, if_neg (by omega)]
     case measure => simp [intOf] <;> omega
    ·obtain rfl : p = 8 := by omega
     have s2 := hq.cell (i := k + 8) (by omega)
     rw [if_neg (by omega), numF] at s2
     have s3 := hq.frozen (k + 8)
     obtain ⟨C, hC⟩ : ∃ C, cyM (digI a k) (fun i => digI (rowN a b k) (k + i)) (digI b) 8 = C := ⟨_, rfl⟩
     obtain ⟨cb0, cb1⟩ := HCB.out 8
     rw [hC] at cb0 cb1 ⊢
     have HCC := hid hC
     clear hC
     go_wp2
     go_roundw
     case rel =>
      refine ⟨k + 1, by omega, by go_num, (hq.set (k + 8) _).congr fun j hj => ?_, zsa hgi rfl _⟩
      have e := ms.out j hj
      unfold numF
      rw [← e]
      unfold nextZ
      by_cases h8 : j = k + 8
      ·rw [if_pos h8, if_neg (by omega), if_pos h8, HCC.out]
      ·rw [if_neg h8]
       by_cases h9 : k ≤ j ∧ j < k + 8
       ·rw [if_pos h9, if_pos h9]
       ·rw [if_neg h9, if_neg h9, if_neg h8]
     case measure => simp [intOf] <;> omega
  ·obtain rfl : k = 8 := by omega
   rw [rowN_full b ha] at hr
   have B := zf gb hg gb.size (by omega)
   have q2 := (hg.block _ (heap_lt' g2) (by simp)).trans g2
   have q3 := (hg.block _ (heap_lt' g3) (by simp)).trans g3
   have hs4 := hr.lt
   obtain ⟨c, hc⟩ : ∃ c, c = wr.heap.size := ⟨_, rfl⟩
   have r := (hr.alloc (.cells #[Value.int .u32 0, .int .u32 0, .int .u32 0, .int .u32 0, .int .u32 0, .int .u32 0, .int .u32 0, .int .u32 0] 27)).alloc (.cells #[Value.int .u32 0, .int .u32 0, .int .u32 0, .int .u32 0, .int .u32 0, .int .u32 0, .int .u32 0, .int .u32 0] 27)
   have z1 := (zrow _ _ (heap_alloc_new wr (.cells #[Value.int .u32 0, .int .u32 0, .int .u32 0, .int .u32 0, .int .u32 0, .int .u32 0, .int .u32 0, .int .u32 0] 27))).alloc (.cells #[Value.int .u32 0, .int .u32 0, .int .u32 0, .int .u32 0, .int .u32 0, .int .u32 0, .int .u32 0, .int .u32 0] 27)
   have z2 := zrow _ _ (heap_alloc_new (wr.alloc (.cells #[Value.int .u32 0, .int .u32 0, .int .u32 0, .int .u32 0, .int .u32 0, .int .u32 0, .int .u32 0, .int .u32 0] 27)) (.cells #[Value.int .u32 0, .int .u32 0, .int .u32 0, .int .u32 0, .int .u32 0, .int .u32 0, .int .u32 0, .int .u32 0] 27))
   have p2 := (Below.heap_alloc (wr.alloc (.cells #[Value.int .u32 0, .int .u32 0, .int .u32 0, .int .u32 0, .int .u32 0, .int .u32 0, .int .u32 0, .int .u32 0] 27)) (.cells #[Value.int .u32 0, .int .u32 0, .int .u32 0, .int .u32 0, .int .u32 0, .int .u32 0, .int .u32 0, .int .u32 0] 27) _ (by simp; omega)).trans ((Below.heap_alloc wr (.cells #[Value.int .u32 0, .int .u32 0, .int .u32 0, .int .u32 0, .int .u32 0, .int .u32 0, .int .u32 0, .int .u32 0] 27) _ (by omega)).trans q2)
   have p3 := (Below.heap_alloc (wr.alloc (.cells #[Value.int .u32 0, .int .u32 0, .int .u32 0, .int .u32 0, .int .u32 0, .int .u32 0, .int .u32 0, .int .u32 0] 27)) (.cells #[Value.int .u32 0, .int .u32 0, .int .u32 0, .int .u32 0, .int .u32 0, .int .u32 0, .int .u32 0, .int .u32 0] 27) _ (by simp; omega)).trans ((Below.heap_alloc wr (.cells #[Value.int .u32 0, .int .u32 0, .int .u32 0, .int .u32 0, .int .u32 0, .int .u32 0, .int .u32 0, .int .u32 0] 27) _ (by omega)).trans q3)
   have B2 := (B.alloc B.size (.cells #[Value.int .u32 0, .int .u32 0, .int .u32 0, .int .u32 0, .int .u32 0, .int .u32 0, .int .u32 0, .int .u32 0] 27)).alloc (by simp; have := B.size; omega) (.cells #[Value.int .u32 0, .int .u32 0, .int .u32 0, .int .u32 0, .int .u32 0, .int .u32 0, .int .u32 0, .int .u32 0] 27)
   rw [World.size_alloc] at z2
   rw [← hc] at z1 z2 hs4
   go_upto_region 14 with fail
   rw [← hc]
   generalize World.alloc (World.alloc _ _) _ = V at *
   have hcw : w.heap.size + 1 + 1 + 1 + 1 < c := hs4
   clear hr hg g0 g1 g2 g3 gb q2 q3 B hs4 hc
   go_wp2
   go_loopw [12] (fun i wq => ∃ p : Nat, p ≤ 8 ∧ i = .int .i64 p ∧ wq.rowIs c 27 8 (fun j => if j < p then numF (a * b) j else .int .u32 0) ∧ wq.rowIs (c + 1) 27 8 (fun j => if j < p then numF (a * b) (j + 8) else .int .u32 0) ∧ Below c V wq) (fun i _ => 8 - (intOf i).toNat)
   case atStart => exact ⟨0, by omega, rfl, z1.congr fun j _ => by rw [if_neg (by omega)], z2.congr fun j _ => by rw [if_neg (by omega)], Below.refl _ _⟩
   case round =>
    obtain ⟨p, hp, rfl, h1, h2, hB⟩ := hrel
    clear z1 z2
    by_cases hlp : p < 8
    ·have s0 := (hB.cell (p := ⟨w.heap.size + 1 + 1 + 1 + 1, p, none⟩) hcw).trans (r.cell (i := p) (by omega))
     have s1 := (hB.cell (p := ⟨w.heap.size + 1 + 1 + 1 + 1, p + 8, none⟩) hcw).trans (r.cell (i := p + 8) (by omega))
     rw [numF] at s0 s1
     have t1 := h1.cell hlp
     have t2 := h2.cell hlp
     have f1 := h1.frozen p
     have f2 := h2.frozen p
     go_wp2
     go_region
     go_wp2
     go_roundw
     case rel =>
      refine ⟨p + 1, by omega, by go_num, ?_, ?_, ?_⟩
      ·refine (((h1.set p _).setOther (by simp) _).drew).congr fun j _ => ?_
       by_cases e : j = p
       ·subst e; rw [if_pos rfl, if_pos (by omega), numF]
       ·rw [if_neg e]
        by_cases h9 : j < p
        ·rw [if_pos h9, if_pos (by omega)]
        ·rw [if_neg h9, if_neg (by omega)]
      ·refine (((h2.setOther (by simp) _).set p _).drew).congr fun j _ => ?_
       by_cases e : j = p
       ·subst e; rw [if_pos rfl, if_pos (by omega), numF]
       ·rw [if_neg e]
        by_cases h9 : j < p
        ·rw [if_pos h9, if_pos (by omega)]
        ·rw [if_neg h9, if_neg (by omega)]
      ·exact (((hB.setCell (p := ⟨c, p, none⟩) (Nat.le_refl _) _).setCell (p := ⟨c + 1, p, none⟩) (Nat.le_succ _) _).drew)
     case measure => simp [intOf] <;> omega
    ·obtain rfl : p = 8 := by omega
     obtain ⟨x, hx⟩ : ∃ x, x = a * b % 4294967296 ^ 8 := ⟨_, rfl⟩
     obtain ⟨y, hy⟩ : ∃ y, y = a * b / 4294967296 ^ 8 := ⟨_, rfl⟩
     have m1 : Num wr c 27 x := zlb h1 fun j hj => by rw [if_pos hj, hx, numF, numF]; unfold digI; rw [dig_mod _ hj]
     have m2 : Num wr (c + 1) 27 y := zlb h2 fun j hj => by rw [if_pos hj, hy, numF, numF, dig_shift, Nat.add_comm]
     have X := hid hx
     have Y := hid hy
     have l2 := (hB.block _ (by omega)).trans p2
     have l3 := (hB.block _ (by omega)).trans p3
     clear hx hy h1 h2 p2 p3 r
     go_wp2
     refine wp_two_rows (by kernel_rfl) 27 _ Tryz.underlying27 rfl zd 10 11 4 5 67 68 rfl rfl rfl rfl rfl rfl rfl rfl rfl rfl rfl rfl (by kernel_rfl) (by kernel_rfl) (by kernel_rfl) (by kernel_rfl) (by kernel_rfl) (by kernel_rfl) (by kernel_rfl) (by decide) (by simp) (by simp)
      c (c + 1) (w.heap.size + 1 + 1) (w.heap.size + 1 + 1 + 1) rfl rfl rfl rfl 27 27 x y m1 m2 _ _ l2 l3 rfl rfl ⟨by omega, by omega, by omega⟩ ?_
     intro w9 b9 k9 l9
     simp only [Act.put, List.setIfInBounds_toArray, List.set_cons_zero, List.set_cons_succ]
     go_wp2
     exact bodyPost_ret (results_num2 rfl rfl k9 rfl l9 Tryz.underlying27 rfl zd) rfl ⟨by rw [← X.out, ← Y.out], (B2.trans (hB.mono (by omega))).trans (b9 _ (by omega) (by omega))⟩
def seqR (lo hi m k : Nat) : Nat := (lo + hi * 4294967296 ^ 8) / 2 ^ k % m
theorem seqR_top {lo hi m : Nat} (hlo : lo < 4294967296 ^ 8) (hhi : hi < 4294967296 ^ 8) : seqR lo hi m 512 = 0 := by
 unfold seqR
 rw [Nat.div_eq_of_lt (by rw [show (2 : Nat) ^ 512 = 4294967296 ^ 8 * 4294967296 ^ 8 by decide +kernel]; have : hi * 4294967296 ^ 8 ≤ (4294967296 ^ 8 - 1) * 4294967296 ^ 8 := Nat.mul_le_mul_right _ (by omega); omega)]
 exact Nat.zero_mod _
theorem seqR_step (lo hi m k : Nat) : seqR lo hi m k = (2 * seqR lo hi m (k + 1) + (lo + hi * 4294967296 ^ 8) / 2 ^ k % 2) % m := by
 unfold seqR
 generalize lo + hi * 4294967296 ^ 8 = X
 have h : X / 2 ^ k = 2 * (X / 2 ^ (k + 1)) + X / 2 ^ k % 2 := by
  rw [Nat.pow_succ, ← Nat.div_div_eq_div_mul]; omega
 conv => lhs; rw [h]
 rw [Nat.add_mod, Nat.mul_mod, Nat.add_mod (2 * _) (X / 2 ^ k % 2), Nat.mul_mod 2 (X / 2 ^ (k + 1) % m), Nat.mod_mod]
theorem bit_of (lo hi k : Nat) (hlo : lo < 4294967296 ^ 8) : (lo + hi * 4294967296 ^ 8) / 2 ^ k % 2 = if k < 256 then lo / 2 ^ k % 2 else hi / 2 ^ (k - 256) % 2 := by
 have e : lo + hi * 4294967296 ^ 8 = 2 ^ 256 * hi + lo := by rw [show (4294967296 : Nat) ^ 8 = 2 ^ 256 by decide +kernel, Nat.mul_comm]; omega
 rw [e, testBit_bit, Nat.testBit_two_pow_mul_add _ (by rw [show (2 : Nat) ^ 256 = 4294967296 ^ 8 by decide +kernel]; exact hlo)]
 split
 ·rw [testBit_bit]
 ·rw [testBit_bit]
theorem step_num {r m b : Nat} (hr : r < m) (hm : m < 4294967296 ^ 8) (hb : b ≤ 1) :
  (overI r r = 1 ∧ subN (addN r r + b) m = (2 * r + b) % m ∧ addN r r + b < 4294967296 ^ 8) ∨ (overI r r = 0 ∧ 0 ≤ cmpI (addN r r + b) m ∧ cmpI (addN r r + b) m ≤ 1 ∧ subN (addN r r + b) m = (2 * r + b) % m ∧ addN r r + b < 4294967296 ^ 8) ∨
  (overI r r = 0 ∧ cmpI (addN r r + b) m = -1 ∧ addN r r + b = (2 * r + b) % m ∧ addN r r + b < 4294967296 ^ 8) := by
 by_cases h : r + r < 4294967296 ^ 8
 ·have e1 : overI r r = 0 := by unfold overI; rw [if_pos h]
  have e2 : addN r r = r + r := by unfold addN; rw [if_pos h]
  rw [e1, e2]
  by_cases hc : r + r + b < m
  ·refine .inr (.inr ⟨rfl, by unfold cmpI; rw [if_pos hc], ?_, by omega⟩)
   rw [Nat.mod_eq_of_lt (by omega)]; omega
  ·refine .inr (.inl ⟨rfl, by unfold cmpI; split <;> (try split) <;> omega, by unfold cmpI; split <;> (try split) <;> omega, ?_, by omega⟩)
   unfold subN
   rw [if_pos (by omega), Nat.mod_eq_sub_mod (by omega), Nat.mod_eq_of_lt (by omega)]; omega
 ·have e1 : overI r r = 1 := by unfold overI; rw [if_neg h]
  have e2 : addN r r = r + r - 4294967296 ^ 8 := by unfold addN; rw [if_neg h]
  rw [e1, e2]
  refine .inl ⟨rfl, ?_, by omega⟩
  unfold subN
  rw [if_neg (by omega), Nat.mod_eq_sub_mod (by omega), Nat.mod_eq_of_lt (by omega)]; omega
theorem rr_pack {lo hi m k r : Nat} (hlo : lo < 4294967296 ^ 8) (hhi : hi < 4294967296 ^ 8) (hm : m < 4294967296 ^ 8) (h0 : 0 < m) (hk : k < 512) (hr : r = seqR lo hi m (k + 1)) : ∃ X q : Nat, ∃ l o : Int, q = seqR lo hi m k ∧ 0 ≤ l ∧ l ≤ 1 ∧
  (256 ≤ k → zic 92 #[numV hi, .int .i64 ((k : Int) - 256)] (.int .u32 l)) ∧ (k < 256 → zic 92 #[numV lo, .int .i64 k] (.int .u32 l)) ∧
  zic 93 #[numV r, .int .u32 l] (.tuple #[numV X, .int .u32 o]) ∧
  ((o = 1 ∧ ∃ v, zic 56 #[numV X, numV m] (.tuple #[numV q, v])) ∨ (o = 0 ∧ ∃ d : Int, 0 ≤ d ∧ d ≤ 1 ∧ zic 55 #[numV X, numV m] (.int .i64 d) ∧ ∃ v, zic 56 #[numV X, numV m] (.tuple #[numV q, v])) ∨
   (o = 0 ∧ X = q ∧ zic 55 #[numV X, numV m] (.int .i64 (-1)))) := by
 have hrm : r < m := by rw [hr]; exact Nat.mod_lt _ h0
 have hb := bit_of lo hi k hlo
 obtain ⟨b, hbe⟩ : ∃ b, b = (lo + hi * 4294967296 ^ 8) / 2 ^ k % 2 := ⟨_, rfl⟩
 have hb1 : b ≤ 1 := by omega
 have hq : seqR lo hi m k = (2 * r + b) % m := by rw [seqR_step, hr, hbe]
 refine ⟨addN r r + b, _, (b : Int), overI r r, rfl, by omega, by omega, fun h => ?_, fun h => ?_, ?_, ?_⟩
 ·intro w
  have := rbit_any hi (k - 256) (by omega) w
  rw [show ((k - 256 : Nat) : Int) = (k : Int) - 256 by omega] at this
  rw [show bitI hi (k - 256) = (b : Int) by unfold bitI; rw [hbe, hb, if_neg (by omega)]] at this
  exact this
 ·intro w
  have := rbit_any lo k h w
  rw [show bitI lo k = (b : Int) by unfold bitI; rw [hbe, hb, if_pos h]] at this
  exact this
 ·exact rtwice_any r (by omega) (b : Int) (by omega) (by omega)
 ·rw [hq]
  rcases step_num hrm hm hb1 with ⟨h1, h2, h3⟩ | ⟨h1, h2, h3, h4, h5⟩ | ⟨h1, h2, h3, h4⟩
  ·exact .inl ⟨h1, .int .u32 (lentI (addN r r + b) m), by rw [← h2]; exact rsub_any _ _ h3 hm⟩
  ·exact .inr (.inl ⟨h1, _, h2, h3, rcmp_any _ _ h5 hm, _, by rw [← h4]; exact rsub_any _ _ h5 hm⟩)
  ·refine .inr (.inr ⟨h1, h3, ?_⟩)
   rw [← h2]; exact rcmp_any _ _ h4 hm
attribute [irreducible] seqR
theorem rrest_pos (lo hi m : Nat) (hlo : lo < 4294967296 ^ 8) (hhi : hi < 4294967296 ^ 8) (hm : m < 4294967296 ^ 8) (h0 : 0 < m) (w : World) :
  Calls Tryz.prog 58 #[numV lo, numV hi, numV m] w fun e w' => e = .returned (.tuple #[numV ((lo + hi * 4294967296 ^ 8) % m), .bool true]) ∧ Below w.heap.size w w' := by
 have PK := hid (fun k r => @rr_pack lo hi m k r hlo hhi hm h0)
 have TOP := hid (@seqR_top lo hi m hlo hhi)
 have e1 : ∀ w, (Op.equalIn 10000 27 (.agg (numA m)) (.agg #[Value.int .u32 0, .int .u32 0, .int .u32 0, .int .u32 0, .int .u32 0, .int .u32 0, .int .u32 0, .int .u32 0])).run Tryz.prog w = .ok false w := fun w => eqn_not0 hm h0 w
 have BOT : Hid (seqR lo hi m 0 = (lo + hi * 4294967296 ^ 8) % m) := hid (by unfold seqR; rw [Nat.pow_zero, Nat.div_one])
 clear hlo hhi hm h0
 have ng := noGuard
 obtain ⟨W, hW⟩ : ∃ W, W = ((((w.alloc (.cells (numA lo) 27)).alloc (.cells (numA hi) 27)).alloc (.cells (numA m) 27)).alloc (.cells #[Value.int .u32 0, .int .u32 0, .int .u32 0, .int .u32 0, .int .u32 0, .int .u32 0, .int .u32 0, .int .u32 0] 27)).alloc (.cells #[Value.int .u32 0, .int .u32 0, .int .u32 0, .int .u32 0, .int .u32 0, .int .u32 0, .int .u32 0, .int .u32 0] 27) := ⟨_, rfl⟩
 have n0 : Num W w.heap.size 27 lo := by rw [hW]; exact (((((Num.new w _ lo).alloc _).alloc _).alloc _).alloc _)
 have n1 : Num W (w.heap.size + 1) 27 hi := by
  have := ((((Num.new (w.alloc (.cells (numA lo) 27)) 27 hi).alloc (.cells (numA m) 27)).alloc (.cells #[Value.int .u32 0, .int .u32 0, .int .u32 0, .int .u32 0, .int .u32 0, .int .u32 0, .int .u32 0, .int .u32 0] 27)).alloc (.cells #[Value.int .u32 0, .int .u32 0, .int .u32 0, .int .u32 0, .int .u32 0, .int .u32 0, .int .u32 0, .int .u32 0] 27))
  simp only [World.size_alloc] at this; rw [hW]; exact this
 have n2 : Num W (w.heap.size + 1 + 1) 27 m := by
  have := (((Num.new ((w.alloc (.cells (numA lo) 27)).alloc (.cells (numA hi) 27)) 27 m).alloc (.cells #[Value.int .u32 0, .int .u32 0, .int .u32 0, .int .u32 0, .int .u32 0, .int .u32 0, .int .u32 0, .int .u32 0] 27)).alloc (.cells #[Value.int .u32 0, .int .u32 0, .int .u32 0, .int .u32 0, .int .u32 0, .int .u32 0, .int .u32 0, .int .u32 0] 27))
  simp only [World.size_alloc] at this; rw [hW]; exact this
 have n3 : W.heap[w.heap.size + 1 + 1 + 1]? = some (.cells #[Value.int .u32 0, .int .u32 0, .int .u32 0, .int .u32 0, .int .u32 0, .int .u32 0, .int .u32 0, .int .u32 0] 27 (0, 0)) := by
  have := heap_alloc2_old (((w.alloc (.cells (numA lo) 27)).alloc (.cells (numA hi) 27)).alloc (.cells (numA m) 27)) (.cells #[Value.int .u32 0, .int .u32 0, .int .u32 0, .int .u32 0, .int .u32 0, .int .u32 0, .int .u32 0, .int .u32 0] 27) (.cells #[Value.int .u32 0, .int .u32 0, .int .u32 0, .int .u32 0, .int .u32 0, .int .u32 0, .int .u32 0, .int .u32 0] 27)
  simp only [World.size_alloc] at this; rw [hW]; exact this
 have n4 : Num W (w.heap.size + 1 + 1 + 1 + 1) 27 0 := by
  have := heap_alloc2_new (((w.alloc (.cells (numA lo) 27)).alloc (.cells (numA hi) 27)).alloc (.cells (numA m) 27)) (.cells #[Value.int .u32 0, .int .u32 0, .int .u32 0, .int .u32 0, .int .u32 0, .int .u32 0, .int .u32 0, .int .u32 0] 27) (.cells #[Value.int .u32 0, .int .u32 0, .int .u32 0, .int .u32 0, .int .u32 0, .int .u32 0, .int .u32 0, .int .u32 0] 27)
  simp only [World.size_alloc] at this; rw [hW]; unfold Num; rw [← zeroA]; exact this
 have zA : #[Value.int .u32 0, .int .u32 0, .int .u32 0, .int .u32 0, .int .u32 0, .int .u32 0, .int .u32 0, .int .u32 0] = numA 0 := zeroA
 have gb : Below w.heap.size w W := by rw [hW]; exact (((((Below.refl _ _).alloc (Nat.le_refl _) _).alloc (by simp) _).alloc (by simp; omega) _).alloc (by simp; omega) _).alloc (by simp; omega) _
 have e2 : ∀ w, (Op.equalIn 10000 27 (.agg (numA m)) (.agg (numA 0))).run Tryz.prog w = .ok false w := by rw [← zA]; exact e1
 clear zA e1
 go_enter Tryz.func58, Tryz.ntmps58
 go_upto_region 2 with fail
 rw [← hW]
 clear hW
 go_wp2_with (first | (refine ze rfl _ (.tmp 5) rfl _ rfl _ _ _ n2 Tryz.underlying27 rfl zd ?_) | (refine ze rfl _ (.tmp 8) rfl _ rfl _ _ _ n4 Tryz.underlying27 rfl zd ?_))
 clear e2
 have hs4 := n4.lt
 go_loopw [9] (fun i wr => ∃ q : Int, -1 ≤ q ∧ q ≤ 511 ∧ i = .int .i64 q ∧ ∃ r, Hid (r = seqR lo hi m (q + 1).toNat) ∧ Num wr (w.heap.size + 1 + 1 + 1 + 1) 27 r ∧ Below (w.heap.size + 1 + 1 + 1 + 1) W wr) (fun i _ => (intOf i + 1).toNat)
 case atStart => exact ⟨511, by omega, by omega, rfl, 0, TOP.out.symm, n4, Below.refl _ _⟩
 case round =>
  obtain ⟨q, hq1, hq2, rfl, r, hr, nr, hB⟩ := hrel
  by_cases hq : 0 ≤ q
  ·obtain ⟨k, rfl⟩ := Int.eq_ofNat_of_zero_le hq
   obtain ⟨X, q, l, o, hqe, hl0, hl1, kb1, kb0, k2, kw⟩ := PK.out k r (by omega) hr.out
   have HQ := hid hqe
   have HW := hid kw
   clear hqe kw hr
   have m0 := n0.below hB (by omega)
   have m1 := n1.below hB (by omega)
   have m2 := n2.below hB (by omega)
   have hrl := nr.lt
   by_cases hbig : 256 ≤ k
   ·have kb := kb1 hbig
    clear kb1 kb0 m0
    go_wp2_with (refine ze rfl _ (.tmp 4) rfl _ rfl _ _ _ m1 Tryz.underlying27 rfl zd ?_)
    refine (kb _).mono ?_
    rintro e w1 ⟨rfl, b1⟩
    have r1 := nr.step b1
    have x1 := m2.step b1
    have B1 := hB.trans (b1.mono (by omega))
    clear nr m2 hB kb
    go_wp2_with (refine ze rfl _ (.tmp 8) rfl _ rfl _ _ _ r1 Tryz.underlying27 rfl zd ?_)
    refine (k2 _).mono ?_
    rintro e w2 ⟨rfl, b2⟩
    have r2 := r1.step b2
    have x2 := x1.step b2
    have hs1 := r1.lt
    have B2 := B1.trans (b2.mono (by omega))
    clear r1 x1 B1 k2 b1
    go_upto_region 12 with ((refine zl rfl _ (.tmp 11) _ rfl _ rfl _ rfl _ rfl (heap_alloc_new _ _) zd ?_; intro w3 g3 y3))
    have hs2 := r2.lt
    have hx2 := x2.lt
    have r3 := r2.step (znb g3)
    have x3 := x2.step (znb g3)
    have B3 := B2.trans ((znb g3).mono (by omega))
    have hne : w2.heap.size ≠ w.heap.size + 1 + 1 + 1 + 1 := by omega
    have hz3 := g3.size
    simp at hz3
    clear r2 x2 B2 b2 g3
    rcases HW.out with ⟨ho, v, ks⟩ | ⟨ho, dd, hd0, hd1, kc, v, ks⟩ | ⟨ho, hXq, kc⟩
    ·subst ho
     go_wp2_with (first | (refine ze rfl _ (.tmp 11) rfl _ rfl _ _ _ y3 Tryz.underlying27 rfl zd ?_) | (refine ze rfl _ (.tmp 5) rfl _ rfl _ _ _ x3 Tryz.underlying27 rfl zd ?_))
     refine (ks _).mono ?_
     rintro e w6 ⟨rfl, b6⟩
     have hs6 := r3.lt
     have r6 := r3.step b6
     have y6 := y3.step b6
     have B6 := B3.trans (b6.mono (by omega))
     have hz6 := b6.size
     clear r3 x3 y3 B3 ks b6
     go_wp2_with (first | (refine zl rfl _ (.tmp 11) _ rfl _ rfl _ rfl _ rfl y6 zd ?_; intro w7 g7 y7; have r7 := r6.grown g7 (zbb hne.symm); have B7 := zf B6 g7 (by have := r6.lt; omega) (by omega); clear r6 B6) | (refine ze rfl _ (.tmp 11) rfl _ rfl _ _ _ y7 Tryz.underlying27 rfl zd ?_) | (refine zl rfl _ (.tmp 8) _ rfl _ rfl _ rfl _ rfl r7 zd ?_; intro w8 g8 r8))
     go_roundw
     case rel => exact ⟨(k : Int) - 1, by omega, by omega, by go_num, _, hid (by rw [HQ.out]; congr 1; omega), r8, zf B7 g8 (by have := r7.lt; omega) (by omega)⟩
     case measure => simp [intOf] <;> omega
    ·subst ho
     go_wp2_with (first | (refine ze rfl _ (.tmp 11) rfl _ rfl _ _ _ y3 Tryz.underlying27 rfl zd ?_) | (refine ze rfl _ (.tmp 5) rfl _ rfl _ _ _ x3 Tryz.underlying27 rfl zd ?_))
     refine (kc _).mono ?_
     rintro e w4 ⟨rfl, b4⟩
     have hs3 := r3.lt
     have r4 := r3.step b4
     have x4 := x3.step b4
     have y4 := y3.step b4
     have B4 := B3.trans (b4.mono (by omega))
     have hz4 := b4.size
     clear r3 x3 y3 B3 kc b4
     go_wp2_with (first | (refine ze rfl _ (.tmp 11) rfl _ rfl _ _ _ y4 Tryz.underlying27 rfl zd ?_) | (refine ze rfl _ (.tmp 5) rfl _ rfl _ _ _ x4 Tryz.underlying27 rfl zd ?_))
     refine (ks _).mono ?_
     rintro e w6 ⟨rfl, b6⟩
     have hs6 := r4.lt
     have r6 := r4.step b6
     have y6 := y4.step b6
     have B6 := B4.trans (b6.mono (by omega))
     have hz6 := b6.size
     clear r4 x4 y4 B4 ks b6
     go_wp2_with (first | (refine zl rfl _ (.tmp 11) _ rfl _ rfl _ rfl _ rfl y6 zd ?_; intro w7 g7 y7; have r7 := r6.grown g7 (zbb hne.symm); have B7 := zf B6 g7 (by have := r6.lt; omega) (by omega); clear r6 B6) | (refine ze rfl _ (.tmp 11) rfl _ rfl _ _ _ y7 Tryz.underlying27 rfl zd ?_) | (refine zl rfl _ (.tmp 8) _ rfl _ rfl _ rfl _ rfl r7 zd ?_; intro w8 g8 r8))
     go_roundw
     case rel => exact ⟨(k : Int) - 1, by omega, by omega, by go_num, _, hid (by rw [HQ.out]; congr 1; omega), r8, zf B7 g8 (by have := r7.lt; omega) (by omega)⟩
     case measure => simp [intOf] <;> omega
    ·subst ho
     subst hXq
     go_wp2_with (first | (refine ze rfl _ (.tmp 11) rfl _ rfl _ _ _ y3 Tryz.underlying27 rfl zd ?_) | (refine ze rfl _ (.tmp 5) rfl _ rfl _ _ _ x3 Tryz.underlying27 rfl zd ?_))
     refine (kc _).mono ?_
     rintro e w4 ⟨rfl, b4⟩
     have hs3 := r3.lt
     have r4 := r3.step b4
     have y4 := y3.step b4
     have B4 := B3.trans (b4.mono (by omega))
     clear r3 x3 y3 B3 kc b4
     go_wp2_with (first | (refine ze rfl _ (.tmp 11) rfl _ rfl _ _ _ y4 Tryz.underlying27 rfl zd ?_) | (refine zl rfl _ (.tmp 8) _ rfl _ rfl _ rfl _ rfl r4 zd ?_; intro w5 g5 r5))
     go_roundw
     case rel => exact ⟨(k : Int) - 1, by omega, by omega, by go_num, _, hid (by rw [HQ.out]; congr 1; omega), r5, zf B4 g5 (by have := r4.lt; omega) (by omega)⟩
     case measure => simp [intOf] <;> omega
   ·have kb := kb0 (by omega)
    clear kb1 kb0 m1
    go_wp2_with (refine ze rfl _ (.tmp 3) rfl _ rfl _ _ _ m0 Tryz.underlying27 rfl zd ?_)
    refine (kb _).mono ?_
    rintro e w1 ⟨rfl, b1⟩
    have r1 := nr.step b1
    have x1 := m2.step b1
    have B1 := hB.trans (b1.mono (by omega))
    clear nr m2 hB kb
    go_wp2_with (refine ze rfl _ (.tmp 8) rfl _ rfl _ _ _ r1 Tryz.underlying27 rfl zd ?_)
    refine (k2 _).mono ?_
    rintro e w2 ⟨rfl, b2⟩
    have r2 := r1.step b2
    have x2 := x1.step b2
    have hs1 := r1.lt
    have B2 := B1.trans (b2.mono (by omega))
    clear r1 x1 B1 k2 b1
    go_upto_region 12 with ((refine zl rfl _ (.tmp 11) _ rfl _ rfl _ rfl _ rfl (heap_alloc_new _ _) zd ?_; intro w3 g3 y3))
    have hs2 := r2.lt
    have hx2 := x2.lt
    have r3 := r2.step (znb g3)
    have x3 := x2.step (znb g3)
    have B3 := B2.trans ((znb g3).mono (by omega))
    have hne : w2.heap.size ≠ w.heap.size + 1 + 1 + 1 + 1 := by omega
    have hz3 := g3.size
    simp at hz3
    clear r2 x2 B2 b2 g3
    rcases HW.out with ⟨ho, v, ks⟩ | ⟨ho, dd, hd0, hd1, kc, v, ks⟩ | ⟨ho, hXq, kc⟩
    ·subst ho
     go_wp2_with (first | (refine ze rfl _ (.tmp 11) rfl _ rfl _ _ _ y3 Tryz.underlying27 rfl zd ?_) | (refine ze rfl _ (.tmp 5) rfl _ rfl _ _ _ x3 Tryz.underlying27 rfl zd ?_))
     refine (ks _).mono ?_
     rintro e w6 ⟨rfl, b6⟩
     have hs6 := r3.lt
     have r6 := r3.step b6
     have y6 := y3.step b6
     have B6 := B3.trans (b6.mono (by omega))
     have hz6 := b6.size
     clear r3 x3 y3 B3 ks b6
     go_wp2_with (first | (refine zl rfl _ (.tmp 11) _ rfl _ rfl _ rfl _ rfl y6 zd ?_; intro w7 g7 y7; have r7 := r6.grown g7 (zbb hne.symm); have B7 := zf B6 g7 (by have := r6.lt; omega) (by omega); clear r6 B6) | (refine ze rfl _ (.tmp 11) rfl _ rfl _ _ _ y7 Tryz.underlying27 rfl zd ?_) | (refine zl rfl _ (.tmp 8) _ rfl _ rfl _ rfl _ rfl r7 zd ?_; intro w8 g8 r8))
     go_roundw
     case rel => exact ⟨(k : Int) - 1, by omega, by omega, by go_num, _, hid (by rw [HQ.out]; congr 1; omega), r8, zf B7 g8 (by have := r7.lt; omega) (by omega)⟩
     case measure => simp [intOf] <;> omega
    ·subst ho
     go_wp2_with (first | (refine ze rfl _ (.tmp 11) rfl _ rfl _ _ _ y3 Tryz.underlying27 rfl zd ?_) | (refine ze rfl _ (.tmp 5) rfl _ rfl _ _ _ x3 Tryz.underlying27 rfl zd ?_))
     refine (kc _).mono ?_
     rintro e w4 ⟨rfl, b4⟩
     have hs3 := r3.lt
     have r4 := r3.step b4
     have x4 := x3.step b4
     have y4 := y3.step b4
     have B4 := B3.trans (b4.mono (by omega))
     have hz4 := b4.size
     clear r3 x3 y3 B3 kc b4
     go_wp2_with (first | (refine ze rfl _ (.tmp 11) rfl _ rfl _ _ _ y4 Tryz.underlying27 rfl zd ?_) | (refine ze rfl _ (.tmp 5) rfl _ rfl _ _ _ x4 Tryz.underlying27 rfl zd ?_))
     refine (ks _).mono ?_
     rintro e w6 ⟨rfl, b6⟩
     have hs6 := r4.lt
     have r6 := r4.step b6
     have y6 := y4.step b6
     have B6 := B4.trans (b6.mono (by omega))
     have hz6 := b6.size
     clear r4 x4 y4 B4 ks b6
     go_wp2_with (first | (refine zl rfl _ (.tmp 11) _ rfl _ rfl _ rfl _ rfl y6 zd ?_; intro w7 g7 y7; have r7 := r6.grown g7 (zbb hne.symm); have B7 := zf B6 g7 (by have := r6.lt; omega) (by omega); clear r6 B6) | (refine ze rfl _ (.tmp 11) rfl _ rfl _ _ _ y7 Tryz.underlying27 rfl zd ?_) | (refine zl rfl _ (.tmp 8) _ rfl _ rfl _ rfl _ rfl r7 zd ?_; intro w8 g8 r8))
     go_roundw
     case rel => exact ⟨(k : Int) - 1, by omega, by omega, by go_num, _, hid (by rw [HQ.out]; congr 1; omega), r8, zf B7 g8 (by have := r7.lt; omega) (by omega)⟩
     case measure => simp [intOf] <;> omega
    ·subst ho
     subst hXq
     go_wp2_with (first | (refine ze rfl _ (.tmp 11) rfl _ rfl _ _ _ y3 Tryz.underlying27 rfl zd ?_) | (refine ze rfl _ (.tmp 5) rfl _ rfl _ _ _ x3 Tryz.underlying27 rfl zd ?_))
     refine (kc _).mono ?_
     rintro e w4 ⟨rfl, b4⟩
     have hs3 := r3.lt
     have r4 := r3.step b4
     have y4 := y3.step b4
     have B4 := B3.trans (b4.mono (by omega))
     clear r3 x3 y3 B3 kc b4
     go_wp2_with (first | (refine ze rfl _ (.tmp 11) rfl _ rfl _ _ _ y4 Tryz.underlying27 rfl zd ?_) | (refine zl rfl _ (.tmp 8) _ rfl _ rfl _ rfl _ rfl r4 zd ?_; intro w5 g5 r5))
     go_roundw
     case rel => exact ⟨(k : Int) - 1, by omega, by omega, by go_num, _, hid (by rw [HQ.out]; congr 1; omega), r5, zf B4 g5 (by have := r4.lt; omega) (by omega)⟩
     case measure => simp [intOf] <;> omega
  ·have hq' : q = -1 := by omega
   subst hq'
   obtain ⟨v, hv⟩ : ∃ v, v = (lo + hi * 4294967296 ^ 8) % m := ⟨_, rfl⟩
   have HV := hid hv
   have nr' : Num wr (w.heap.size + 1 + 1 + 1 + 1) 27 v := by rw [hv, ← BOT.out, ← show r = seqR lo hi m 0 from hr.out]; exact nr
   clear hv nr hr
   have p3 := (hB.block _ (by omega)).trans n3
   go_wp2_with (first | (refine ze rfl _ _ rfl _ rfl _ _ _ nr' Tryz.underlying27 rfl zd ?_) | (refine zl rfl _ _ _ rfl _ rfl _ rfl _ rfl p3 zd ?_; intro w2 hg2 mm2))
   have G := (gb.trans (hB.mono (by omega)))
   exact bodyPost_ret (z2a rfl rfl mm2 Tryz.underlying27 rfl zd) rfl ⟨by rw [← HV.out]; rfl, zf G hg2 G.size (by omega)⟩
end Go.Proofs.YtcfepoopkfhojaaGreat
namespace Go.Proofs.YtcfepoopkfhojaaGreat
open Go.ChangeShapes Go.WideShapes Go.ChangeAt Go.RowKit
end Go.Proofs.YtcfepoopkfhojaaGreat
namespace Go.Proofs.YtcfepoopkfhojaaGreat
def hfM (m a : Nat) : Nat := if a % 2 = 1 then (a + m) / 2 else a / 2
def hvM (m : Nat) : Nat → Nat → Nat
 | 0, a => a
 | k + 1, a => hvM m k (hfM m a)
theorem hfM_spec {m : Nat} (hm : m % 2 = 1) (a : Nat) : 2 * hfM m a = a ∨ 2 * hfM m a = a + m := by
 unfold hfM; split <;> omega
theorem hfM_lt {m a : Nat} (ha : a < m) : hfM m a < m := by unfold hfM; split <;> omega
theorem hfM_mod {m : Nat} (hm : m % 2 = 1) (a : Nat) : 2 * hfM m a % m = a % m := by
 rcases hfM_spec hm a with h | h
 ·rw [h]
 ·rw [h, Nat.add_mod_right]
theorem hvM_lt {m : Nat} : ∀ (k a : Nat), a < m → hvM m k a < m
 | 0, a, h => h
 | k + 1, a, h => hvM_lt k _ (hfM_lt h)
theorem hvM_mod {m : Nat} (hm : m % 2 = 1) : ∀ (k a : Nat), 2 ^ k * hvM m k a % m = a % m
 | 0, a => by simp [hvM]
 | k + 1, a => by
  have ih := hvM_mod hm k (hfM m a)
  show 2 ^ (k + 1) * hvM m k (hfM m a) % m = a % m
  rw [Nat.pow_succ, Nat.mul_comm (2 ^ k) 2, Nat.mul_assoc, Nat.mul_mod, ih, ← Nat.mul_mod, hfM_mod hm]
theorem two_cancel {m x y : Nat} (hm : m % 2 = 1) (h : 2 * x % m = 2 * y % m) : x % m = y % m := by
 have e : ∀ z, z % m = 2 * z * ((m + 1) / 2) % m := fun z => by
  have h1 : 2 * z * ((m + 1) / 2) = z * (m + 1) := by
   rw [Nat.mul_comm 2 z, Nat.mul_assoc]
   congr 1
   omega
  rw [h1, Nat.mul_succ, Nat.mul_comm z m, Nat.add_comm, Nat.add_mul_mod_self_left]
 rw [e x, e y, Nat.mul_mod, h, ← Nat.mul_mod]
theorem pow_cancel {m : Nat} (hm : m % 2 = 1) : ∀ (k x y : Nat), 2 ^ k * x % m = 2 ^ k * y % m → x % m = y % m
 | 0, x, y, h => by simpa using h
 | k + 1, x, y, h => by
  refine pow_cancel hm k x y (two_cancel hm ?_)
  rw [← Nat.mul_assoc, ← Nat.mul_assoc, Nat.mul_comm 2 (2 ^ k), ← Nat.pow_succ]
  exact h
theorem big_eq : (4294967296 : Nat) ^ 8 = 2 ^ 256 := by rw [show (4294967296 : Nat) = 2 ^ 32 from rfl, ← Nat.pow_mul]
def mm (m x : Nat) : Nat := hvM m 256 (x % m)
theorem mm_lt {m : Nat} (h0 : 0 < m) (x : Nat) : mm m x < m := hvM_lt _ _ (Nat.mod_lt _ h0)
theorem mm_spec {m : Nat} (hm : m % 2 = 1) (x : Nat) : 4294967296 ^ 8 * mm m x % m = x % m := by
 unfold mm
 rw [big_eq, hvM_mod hm, Nat.mod_mod]
theorem mm_unique {m r x : Nat} (hm : m % 2 = 1) (hr : r < m) (h : 4294967296 ^ 8 * r % m = x % m) : r = mm m x := by
 have h1 := mm_spec hm x
 have h2 : r % m = mm m x % m := by
  refine pow_cancel hm 256 r (mm m x) ?_
  rw [← big_eq, h, h1]
 rwa [Nat.mod_eq_of_lt hr, Nat.mod_eq_of_lt (mm_lt (by omega) x)] at h2
attribute [irreducible] mm
theorem mm_in {m : Nat} (hm : m % 2 = 1) (a two : Nat) (h2 : two = 4294967296 ^ 8 * 4294967296 ^ 8 % m) : mm m (a * two) = a * 4294967296 ^ 8 % m := by
 refine (mm_unique hm (Nat.mod_lt _ (by omega)) ?_).symm
 rw [h2, Nat.mul_mod, Nat.mod_mod, ← Nat.mul_mod, Nat.mul_mod a, Nat.mod_mod, ← Nat.mul_mod]
 congr 1
 rw [Nat.mul_left_comm]
theorem mm_out {m : Nat} (hm : m % 2 = 1) (a : Nat) : mm m (a * 4294967296 ^ 8 % m) = a % m := by
 refine (mm_unique hm (Nat.mod_lt _ (by omega)) ?_).symm
 rw [Nat.mul_mod, Nat.mod_mod, ← Nat.mul_mod, Nat.mod_mod, Nat.mul_comm]
def nxI (o x : Int) : Int := x * ((2 - o * x) % 4294967296) % 4294967296
theorem nx_spec {o x d : Int} (hd : d * d ∣ 4294967296) (h : d ∣ 1 - o * x) : d * d ∣ 1 - o * nxI o x := by
 obtain ⟨k, hk⟩ := h
 obtain ⟨q, hq⟩ := hd
 obtain ⟨p2, h2⟩ : ∃ p, (2 - o * x) % 4294967296 = (2 - o * x) - 4294967296 * p := ⟨_, by rw [Int.emod_def]⟩
 obtain ⟨p3, h3⟩ : ∃ p, nxI o x = x * ((2 - o * x) % 4294967296) - 4294967296 * p := ⟨_, by unfold nxI; rw [Int.emod_def]⟩
 rw [h3, h2]
 refine ⟨k * k + q * (o * x * p2 + o * p3), ?_⟩
 have e : 1 - o * (x * (2 - o * x - 4294967296 * p2) - 4294967296 * p3) = (1 - o * x) * (1 - o * x) + 4294967296 * (o * x * p2 + o * p3) := by grind
 rw [e, hk, hq]
 grind
end Go.Proofs.YtcfepoopkfhojaaGreat
namespace Go.Proofs.YtcfepoopkfhojaaGreat
open Go.ChangeShapes Go.WideShapes Go.ChangeAt Go.RowKit
def itI (o : Int) : Nat → Int → Int
 | 0, x => x
 | k + 1, x => nxI o (itI o k x)
theorem nx_bd (o x : Int) : 0 ≤ nxI o x ∧ nxI o x < 4294967296 := by unfold nxI; omega
theorem itI_bd {o x : Int} (h : 0 ≤ x ∧ x < 4294967296) : ∀ k, 0 ≤ itI o k x ∧ itI o k x < 4294967296
 | 0 => h
 | k + 1 => nx_bd _ _
def ngI (o : Int) : Int := -(itI o 4 o) % 4294967296
theorem odd_eight {o : Int} (h : o % 2 = 1) : (8 : Int) ∣ 1 - o * o := by
 obtain ⟨k, hk⟩ : ∃ k, o = 2 * k + 1 := ⟨o / 2, by omega⟩
 obtain ⟨j, hj⟩ : ∃ j, k * (k + 1) = 2 * j := by
  have : k % 2 = 0 ∨ k % 2 = 1 := by omega
  rcases this with h | h
  ·obtain ⟨q, hq⟩ : ∃ q, k = 2 * q := ⟨k / 2, by omega⟩
   exact ⟨q * (k + 1), by rw [hq]; grind⟩
  ·obtain ⟨q, hq⟩ : ∃ q, k + 1 = 2 * q := ⟨(k + 1) / 2, by omega⟩
   exact ⟨k * q, by rw [hq]; grind⟩
 refine ⟨-j, ?_⟩
 have : 1 - o * o = -4 * (k * (k + 1)) := by rw [hk]; grind
 rw [this, hj]
 omega
theorem neg_inv {o : Int} (h : o % 2 = 1) : (4294967296 : Int) ∣ 1 - o * itI o 4 o := by
 have a0 := odd_eight h
 have a1 : (64 : Int) ∣ 1 - o * itI o 1 o := nx_spec (d := 8) (by decide) a0
 have a2 : (4096 : Int) ∣ 1 - o * itI o 2 o := nx_spec (d := 64) (by decide) a1
 have a3 : (16777216 : Int) ∣ 1 - o * itI o 3 o := nx_spec (d := 4096) (by decide) a2
 exact nx_spec (d := 65536) (by decide) (Int.dvd_trans (by decide) a3)
theorem ng_spec {o : Int} (h : o % 2 = 1) : ∃ q, ngI o * o + 1 = 4294967296 * q := by
 obtain ⟨a, ha⟩ := neg_inv h
 obtain ⟨p, hp⟩ : ∃ p, ngI o = -(itI o 4 o) - 4294967296 * p := ⟨-(itI o 4 o) / 4294967296, by unfold ngI; rw [Int.emod_def]⟩
 exact ⟨a - p * o, by rw [hp]; grind⟩
theorem negated_any (o : Int) (h0 : 0 ≤ o) (h1 : o < 4294967296) (w : World) :
  Calls Tryz.prog 98 #[.int .u32 o] w fun e w' => e = .returned (.int .u32 (ngI o)) ∧ w = w' := by
 have HB := hid (itI_bd (o := o) (x := o) ⟨h0, h1⟩)
 have HG : Hid (ngI o = -(itI o 4 o) % 4294967296) := hid rfl
 have HI : Hid (∀ k, nxI o (itI o k o) = itI o (k + 1) o) := hid (fun _ => rfl)
 go_enter Tryz.func98, Tryz.ntmps98
 go_wp2
 go_loopw [3, 5] (fun x i wr => ∃ k : Nat, k ≤ 4 ∧ i = .int .i64 (k : Int) ∧ x = .int .u32 (itI o k o) ∧ wr = w) (fun _ i _ => 4 - (intOf i).toNat)
 case atStart => exact ⟨0, by omega, rfl, rfl, rfl⟩
 case round =>
  obtain ⟨k, hk, rfl, rfl, rfl⟩ := hrel
  by_cases hlt : k < 4
  ·obtain ⟨b1, b2⟩ := HB.out k
   have hi := HI.out k
   obtain ⟨X, hX⟩ : ∃ X, itI o k o = X := ⟨_, rfl⟩
   rw [hX] at b1 b2 hi ⊢
   have hn : Hid (nxI o X = X * ((2 - o * X) % 4294967296) % 4294967296) := hid rfl
   clear hX
   go_wp2
   go_roundw
   case rel => exact ⟨k + 1, by omega, by go_num, by rw [← hi, hn.out], trivial⟩
   case measure => simp [intOf]; omega
  ·obtain rfl : k = 4 := by omega
   have hg := HG.out
   obtain ⟨b1, b2⟩ := HB.out 4
   obtain ⟨X, hX⟩ : ∃ X, itI o 4 o = X := ⟨_, rfl⟩
   rw [hX] at b1 b2 hg ⊢
   clear hX
   go_wp2
   go_ret
   exact ⟨by rw [hg]; rfl, rfl⟩
end Go.Proofs.YtcfepoopkfhojaaGreat
namespace Go.Proofs.YtcfepoopkfhojaaGreat
open Go.ChangeShapes Go.WideShapes Go.ChangeAt Go.RowKit
theorem mt_digits {S d B : Nat} (hS : S < 4294967296 ^ 8) (hB : B < 4294967296 ^ 8) :
  cyM (d : Int) (digI S) (digI B) 8 = (((S + d * B) / 4294967296 ^ 8 : Nat) : Int) ∧ ∀ j, j < 8 → zM (d : Int) (digI S) (digI B) j = digI ((S + d * B) % 4294967296 ^ 8) j := by
 have hv := valM (d : Int) (digI S) (digI B) 8
 rw [valI_dig, valI_dig, Nat.mod_eq_of_lt hS, Nat.mod_eq_of_lt hB] at hv
 obtain ⟨N, hN⟩ : ∃ N, S + d * B = N := ⟨_, rfl⟩
 have hN' : (S : Int) + (d : Int) * (B : Int) = (N : Int) := by rw [← hN]; push_cast; rfl
 rw [hN'] at hv
 rw [hN]
 have hb := valI_bd (z := zM (d : Int) (digI S) (digI B)) (m := 8) (fun k _ => zM_bd _ _ _ k)
 have hP : (0 : Int) < 4294967296 ^ 8 := by decide
 have c1 : ((N / 4294967296 ^ 8 : Nat) : Int) = (N : Int) / 4294967296 ^ 8 := by rw [Int.natCast_ediv, Int.natCast_pow]; rfl
 have c2 : ((N % 4294967296 ^ 8 : Nat) : Int) = (N : Int) % 4294967296 ^ 8 := by rw [Int.natCast_emod, Int.natCast_pow]; rfl
 refine ⟨?_, digI_of (fun k _ => zM_bd _ _ _ k) (Nat.mod_lt _ (by decide)) ?_⟩
 ·rw [c1, ← hv, Int.add_mul_ediv_right _ _ (by decide), Int.ediv_eq_zero_of_lt hb.1 hb.2, Int.zero_add]
 ·rw [c2, ← hv, Int.add_mul_emod_self_right, Int.emod_eq_of_lt hb.1 hb.2]
theorem mtadd_any (g S d B : Nat) (T : TypeId) (hS : S < 4294967296 ^ 8) (hd : d < 4294967296) (hB : B < 4294967296 ^ 8) (w : World) (hG : Num w g T S) :
  Calls Tryz.prog 122 #[.pointer (some ⟨g, 0, none⟩), .int .u32 (d : Int), numV B] w fun e w' => e = .returned (.int .u64 (((S + d * B) / 4294967296 ^ 8 : Nat) : Int)) ∧ Num w' g T ((S + d * B) % 4294967296 ^ 8) ∧ w.grownBy w' (some g) := by
 obtain ⟨q1, q2⟩ := mt_digits (d := d) hS hB
 have Q1 := hid q1
 have Q2 := hid q2
 obtain ⟨D, hD⟩ : ∃ D : Int, (d : Int) = D := ⟨_, rfl⟩
 have hd1 : 0 ≤ D ∧ D < 4294967296 := by omega
 rw [hD] at Q1 Q2 ⊢
 have HCB := hid (fun j => cyM_bd (d := D) (x := digI S) (y := digI B) hd1 (fun i => ⟨zka _ _, zla _ _⟩) (fun i => ⟨zka _ _, zla _ _⟩) j)
 have h0 := hG.row
 have hgl := hG.lt
 have b0 : w.grownBy (w.alloc (.cells (numA B) 27)) (some g) := World.grownBy_alloc w _ _
 have hr0 : (w.alloc (.cells (numA B) 27)).rowIs g T 8 (numF S) := (hG.alloc _).row
 have nb := Num.new w 27 B
 have hne : g ≠ w.heap.size := by omega
 obtain ⟨d1, d2⟩ := hd1
 clear q1 q2 hD hd hG h0
 go_enter Tryz.func122, Tryz.ntmps122
 go_wp2_with (refine ze rfl _ (.tmp 5) rfl _ rfl _ _ _ nb Tryz.underlying27 rfl zd ?_)
 generalize World.alloc w _ = W at *
 go_loopw [7, 11] (fun cy j wi => ∃ p : Nat, p ≤ 8 ∧ j = .int .i64 (p : Int) ∧ cy = .int .u64 (cyM D (digI S) (digI B) p) ∧ wi.rowIs g T 8 (fun j => if j < p then .int .u32 (zM D (digI S) (digI B) j) else numF S j) ∧ w.grownBy wi (some g)) (fun _ j _ => 8 - (intOf j).toNat)
 case atStart => exact ⟨0, by omega, rfl, rfl, hr0.congr fun j _ => by rw [if_neg (by omega)], b0⟩
 case round =>
  obtain ⟨p, hp, rfl, rfl, hq, hg⟩ := hrel
  clear hr0 b0 nb
  by_cases hlp : p < 8
  ·have s2 := hq.cell (i := p) hlp
   rw [if_neg (by omega), numF] at s2
   have s3 := hq.frozen p
   obtain ⟨cb0, cb1⟩ := HCB.out p
   have y0 := zka B p
   have y1 := zla B p
   have x0 := zka S p
   have x1 := zla S p
   obtain ⟨pd0, pd1⟩ := prod_bd ⟨d1, d2⟩ ⟨y0, y1⟩
   have e1 := Go.IntWalk.u64_in (D * digI B p) (by omega)
   have e2 := Go.IntWalk.u64_in (D * digI B p + digI S p) (by omega)
   have e3 := Go.IntWalk.u64_in (cyM D (digI S) (digI B) p + (D * digI B p + digI S p)) (by omega)
   have hix := fun w' => index_num B p hlp w'
   go_wp2
   go_roundw
   case rel =>
    refine ⟨p + 1, by omega, by go_num, rfl, ?_, zsa hg rfl _⟩
    refine (hq.set p _).congr fun j hj => ?_
    by_cases e : j = p
    ·subst e
     rw [if_pos rfl, if_pos (by omega), zM]
    ·rw [if_neg e]
     by_cases h1 : j < p
     ·rw [if_pos h1, if_pos (by omega)]
     ·rw [if_neg h1, if_neg (by omega)]
   case measure => simp [intOf] <;> omega
  ·obtain rfl : p = 8 := by omega
   rw [Q1.out]
   go_wp2
   go_ret
   exact ⟨rfl, zlb hq fun j hj => by rw [if_pos hj, Q2.out j hj]; rfl, hg⟩
end Go.Proofs.YtcfepoopkfhojaaGreat
