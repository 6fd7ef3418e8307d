/- limb.Rest: contract. -/
import Derived.Test.YteihojjciklfoaaConcat
import Derived.Test.YteihojjciklfoaaMore
import Derived.Test.YteihojjciklfoaaBytes
import Derived.Lib.ItoaNum
namespace Go.Proofs.Yteihojjciklfoaa
set_option linter.unusedVariables false
set_option linter.unusedSimpArgs false
open Go.ChangeShapes Go.WideShapes Go.ChangeAt Go.RowKit

theorem top_ind {m : Nat} (h0 : 0 < m) : ∀ i, m < 4294967296 ^ i → ∃ n, 1 ≤ n ∧ n ≤ i ∧ dig m (n - 1) ≠ 0 ∧ topI m i = 32 * ((n - 1 : Nat) : Int) + Lib.bitLen (dig m (n - 1)) ∧ m < 4294967296 ^ n
  | 0, h => by simp at h; omega
  | i + 1, h => by
    by_cases hz : digI m i = 0
    · have hd : m / 4294967296 ^ i < 4294967296 := by rw [Nat.div_lt_iff_lt_mul (pow_pos' i), Nat.mul_comm, ← Nat.pow_succ]; exact h
      have hz' : dig m i = 0 := by unfold digI at hz; omega
      have e : dig m i = m / 4294967296 ^ i := by unfold dig; rw [Nat.mod_eq_of_lt hd]
      have hlt : m < 4294967296 ^ i := by
        rw [e] at hz'
        rcases Nat.div_eq_zero_iff.1 hz' with h2 | h2
        · have := pow_pos' i; omega
        · exact h2
      obtain ⟨n, h1, h2, h3, h4, h5⟩ := top_ind h0 i hlt
      exact ⟨n, h1, by omega, h3, by rw [topI_zero hz]; exact h4, h5⟩
    · refine ⟨i + 1, by omega, Nat.le_refl _, ?_, ?_, h⟩
      · rw [Nat.add_sub_cancel]; intro e; exact hz (by unfold digI; rw [e]; rfl)
      · rw [topI_here hz, Nat.add_sub_cancel]
        have e : (digI m i).toNat = dig m i := by unfold digI; omega
        rw [e]
theorem top_spec {m : Nat} (h0 : 0 < m) (hm : m < 4294967296 ^ 8) : ∃ n s : Nat, 1 ≤ n ∧ n ≤ 8 ∧ s < 32 ∧ (topI m 8 + 31) / 32 = (n : Int) ∧ 1 ≤ topI m 8 ∧ topI m 8 ≤ 256 ∧ 0 < digI m (n - 1) ∧ 32 - (Lib.bitLen (digI m (n - 1)).toNat : Int) = (s : Int) ∧
    4294967296 ^ (n - 1) ≤ m ∧ m < 4294967296 ^ n ∧ m * 2 ^ s < 4294967296 ^ n := by
  obtain ⟨n, h1, h2, h3, h4, h5⟩ := top_ind h0 8 hm
  obtain ⟨k, rfl⟩ : ∃ k, n = k + 1 := ⟨n - 1, by omega⟩
  rw [Nat.add_sub_cancel] at *
  have hd := dig_lt m k
  obtain ⟨b1, b2, b3⟩ := Lib.bitLenAux_bounds 64 (dig m k) (by omega) h3
  have b4 := Lib.bitLen_le (dig m k) 32 (by omega) (by omega)
  change 1 ≤ Lib.bitLen (dig m k) at b1
  change dig m k < 2 ^ Lib.bitLen (dig m k) at b3
  have e : (digI m k).toNat = dig m k := by unfold digI; omega
  have hk := pow_pos' k
  have hq : m / 4294967296 ^ k < 4294967296 := by rw [Nat.div_lt_iff_lt_mul hk, Nat.mul_comm, ← Nat.pow_succ]; exact h5
  have e2 : dig m k = m / 4294967296 ^ k := by unfold dig; rw [Nat.mod_eq_of_lt hq]
  refine ⟨k + 1, 32 - Lib.bitLen (dig m k), by omega, h2, by omega, ?_, ?_, ?_, ?_, ?_, ?_, h5, ?_⟩
  · rw [h4]; omega
  · rw [h4]; omega
  · rw [h4]; omega
  · rw [Nat.add_sub_cancel]; unfold digI; omega
  · rw [Nat.add_sub_cancel, e]; omega
  · rw [Nat.add_sub_cancel]
    refine Nat.le_of_not_lt fun h => h3 ?_
    rw [e2, Nat.div_eq_of_lt h]
  · have h6 : m < (dig m k + 1) * 4294967296 ^ k := by
      rw [e2, Nat.mul_comm]; exact Nat.lt_mul_div_succ m hk
    have h7 : (dig m k + 1) * 4294967296 ^ k ≤ 2 ^ Lib.bitLen (dig m k) * 4294967296 ^ k := Nat.mul_le_mul_right _ b3
    have h8 : 2 ^ Lib.bitLen (dig m k) * 2 ^ (32 - Lib.bitLen (dig m k)) = 4294967296 := by
      have h : Lib.bitLen (dig m k) + (32 - Lib.bitLen (dig m k)) = 32 := by omega
      rw [← Nat.pow_add, h]
    have h9 : m * 2 ^ (32 - Lib.bitLen (dig m k)) < (2 ^ Lib.bitLen (dig m k) * 4294967296 ^ k) * 2 ^ (32 - Lib.bitLen (dig m k)) := Nat.mul_lt_mul_of_pos_right (Nat.lt_of_lt_of_le h6 h7) (Nat.pow_pos (by decide))
    have h10 : (2 ^ Lib.bitLen (dig m k) * 4294967296 ^ k) * 2 ^ (32 - Lib.bitLen (dig m k)) = 4294967296 ^ (k + 1) := by
      rw [Nat.pow_succ, Nat.mul_comm (2 ^ Lib.bitLen (dig m k)), Nat.mul_assoc, h8]
    rw [h10] at h9
    exact h9
theorem slice_num (g n : Nat) (hn : n ≤ 8) (w : World) : (Instr.sliceAt 26 (.pointer (some ⟨g, 0, none⟩)) none (some (.int .i64 (n : Int))) (some (.int .i64 (n : Int)))).run Try.prog w = .ok (.slice (some ⟨g, 0, none⟩) n n) w := by
  have hl : Try.prog.arrayLen 26 = 8 := by kernel_rfl
  have he : Try.prog.elem 26 = 24 := by kernel_rfl
  have hu : Try.prog.underlying 26 = some (.array (Try.prog.arrayLen 26) (Try.prog.elem 26)) := by rw [hl, he]; exact underlying_num
  rw [run_sliceAt_array_hm w 26 ⟨g, 0, none⟩ hu .i64 .i64 n n (by omega) (by omega) (by rw [hl]; omega), he, sizeOf_u32]
  simp [slicedAt]
  intro _
  rw [addr_add]
/-! The rounds. -/
theorem rest_first {N m n s : Nat} (hn1 : 1 ≤ n) (hn8 : n ≤ 8) (hN : N < 4294967296 ^ 16) (hs : s < 32) (hB1 : 4294967296 ^ (n - 1) ≤ m) :
    valI (digI (N * 2 ^ s)) 17 = ((N * 2 ^ s : Nat) : Int) ∧ valI (fun j => digI (N * 2 ^ s) (17 - n + j)) n < ((m * 2 ^ s : Nat) : Int) := by
  have h2 := pow_lt hs
  have h17 : N * 2 ^ s < 4294967296 ^ 17 := by
    rw [Nat.pow_succ]; exact Nat.mul_lt_mul'' hN h2
  refine ⟨by rw [valI_dig, Nat.mod_eq_of_lt h17], ?_⟩
  have e : valI (fun j => digI (N * 2 ^ s) (17 - n + j)) n = ((N * 2 ^ s / 4294967296 ^ (17 - n) % 4294967296 ^ n : Nat) : Int) := by
    rw [← valI_dig]; exact valI_congr fun j _ => (dig_shift _ _ _).symm
  rw [e]
  have h3 : N * 2 ^ s < 4294967296 ^ (17 - n) * (4294967296 ^ (n - 1) * 2 ^ s) := by
    have h : (17 - n) + (n - 1) = 16 := by omega
    rw [← Nat.mul_assoc, ← Nat.pow_add, h]
    exact Nat.mul_lt_mul_of_pos_right hN (Nat.pow_pos (by decide))
  have h4 : N * 2 ^ s / 4294967296 ^ (17 - n) < 4294967296 ^ (n - 1) * 2 ^ s := by
    rw [Nat.div_lt_iff_lt_mul (pow_pos' _), Nat.mul_comm (4294967296 ^ (n - 1) * 2 ^ s)]; exact h3
  have h5 : 4294967296 ^ (n - 1) * 2 ^ s ≤ m * 2 ^ s := Nat.mul_le_mul_right _ hB1
  have h6 := Nat.mod_le (N * 2 ^ s / 4294967296 ^ (17 - n)) (4294967296 ^ n)
  omega
theorem rest_div {m n s : Nat} (hn1 : 1 ≤ n) (hB1 : 4294967296 ^ (n - 1) ≤ m) (hD : m * 2 ^ s < 4294967296 ^ n) : valI (digI (m * 2 ^ s)) n = ((m * 2 ^ s : Nat) : Int) ∧ 0 < digI (m * 2 ^ s) (n - 1) := by
  refine ⟨by rw [valI_dig, Nat.mod_eq_of_lt hD], ?_⟩
  obtain ⟨k, rfl⟩ : ∃ k, n = k + 1 := ⟨n - 1, by omega⟩
  rw [Nat.add_sub_cancel] at *
  have h1 : m * 2 ^ s / 4294967296 ^ k < 4294967296 := by rw [Nat.div_lt_iff_lt_mul (pow_pos' k), Nat.mul_comm 4294967296, ← Nat.pow_succ]; exact hD
  have h2 : 1 ≤ m * 2 ^ s / 4294967296 ^ k := by
    rw [Nat.le_div_iff_mul_le (pow_pos' k), Nat.one_mul]
    exact Nat.le_trans hB1 (Nat.le_mul_of_pos_right _ (Nat.pow_pos (by decide)))
  unfold digI dig
  rw [Nat.mod_eq_of_lt h1]
  omega
theorem rest_room {z : Nat → Int} {d n : Nat} {D : Int} (bz : ∀ k, 0 ≤ z k ∧ z k < 4294967296) (h : valI (fun j => z (d + 1 + j)) n < D) : valI (fun j => z (d + j)) (n + 1) < D * 4294967296 := by
  have e : valI (fun j => z (d + j)) (n + 1) = z d + 4294967296 * valI (fun j => z (d + 1 + j)) n := by
    rw [Nat.add_comm n 1, valI_split]
    simp only [valI, Nat.add_zero]
    have : valI (fun j => z (d + (1 + j))) n = valI (fun j => z (d + 1 + j)) n := valI_congr fun j _ => by rw [Nat.add_assoc]
    rw [this]; simp
  rw [e]
  have := bz d
  omega
def mixZ (z z' : Nat → Int) (d n j : Nat) : Int := if d ≤ j ∧ j < d + n then z' (j - d) else z j
theorem rest_next {z z' : Nat → Int} {d n : Nat} {D V q : Int} (h : valI z (d + 1 + n) = V - q * D) (h' : valI z' n = valI (fun j => z (d + j)) (n + 1) % D) :
    valI (mixZ z z' d n) (d + n) = V - (q + 4294967296 ^ d * (valI (fun j => z (d + j)) (n + 1) / D)) * D ∧ valI (fun j => mixZ z z' d n (d + j)) n = valI z' n := by
  have e1 : valI (fun j => mixZ z z' d n (d + j)) n = valI z' n := valI_congr fun j hj => by unfold mixZ; rw [if_pos (by omega), Nat.add_sub_cancel_left]
  refine ⟨?_, e1⟩
  have e2 : valI (mixZ z z' d n) d = valI z d := valI_congr fun j hj => by unfold mixZ; rw [if_neg (by omega)]
  rw [valI_split, e1, e2, h']
  rw [Nat.add_assoc, valI_split, Nat.add_comm 1 n] at h
  have e3 := Int.emod_def (valI (fun j => z (d + j)) (n + 1)) D
  rw [e3]
  generalize valI (fun j => z (d + j)) (n + 1) / D = Q at *
  generalize (4294967296 : Int) ^ d = P at *
  grind
theorem rest_last {z : Nat → Int} {n N m s : Nat} {q : Int} (bz : ∀ k, 0 ≤ z k ∧ z k < 4294967296) (h0 : 0 < m) (hD : m * 2 ^ s < 4294967296 ^ n) (h : valI z n = ((N * 2 ^ s : Nat) : Int) - q * ((m * 2 ^ s : Nat) : Int)) (h1 : valI z n < ((m * 2 ^ s : Nat) : Int)) :
    N % m * 2 ^ s < 4294967296 ^ n ∧ ∀ k, k < n → z k = digI (N % m * 2 ^ s) k := by
  have hb := valI_bd (z := z) (m := n) fun k _ => bz k
  have e : valI z n = ((N * 2 ^ s : Nat) : Int) % ((m * 2 ^ s : Nat) : Int) := by
    have e2 : ((N * 2 ^ s : Nat) : Int) = valI z n + ((m * 2 ^ s : Nat) : Int) * q := by grind
    rw [e2, Int.add_mul_emod_self_left, Int.emod_eq_of_lt hb.1 h1]
  have e3 : N * 2 ^ s % (m * 2 ^ s) = N % m * 2 ^ s := Nat.mul_mod_mul_right (2 ^ s) N m
  have e4 : valI z n = ((N % m * 2 ^ s : Nat) : Int) := by rw [e, ← e3]; omega
  have h2 : N % m * 2 ^ s < 4294967296 ^ n := Nat.lt_of_le_of_lt (Nat.mul_le_mul_right _ (Nat.le_of_lt (Nat.mod_lt _ h0))) hD
  exact ⟨h2, digI_of (fun k _ => bz k) h2 e4⟩
set_option maxHeartbeats 1600000 in
theorem rest_pos (lo hi m : Nat) (hlo : lo < 4294967296 ^ 8) (hhi : hi < 4294967296 ^ 8) (hm : m < 4294967296 ^ 8) (h0 : 0 < m) (w : World) :
    Calls Try.prog 23 #[numV lo, numV hi, numV m] w fun e w' => e = .returned (.tuple #[numV ((lo + hi * 4294967296 ^ 8) % m), .bool true]) ∧ Below w.heap.size w w' := by
  obtain ⟨n, s, hn1, hn8, hs, hT, hT1, hT2, hd, hby, hB1, hB2, hD⟩ := top_spec h0 hm
  obtain ⟨W, hW⟩ : ∃ W, W = (((w.alloc (.cells (numA lo) 26)).alloc (.cells (numA hi) 26)).alloc (.cells (numA m) 26)).alloc (.cells #[Value.int .u32 0, .int .u32 0, .int .u32 0, .int .u32 0, .int .u32 0, .int .u32 0, .int .u32 0, .int .u32 0] 26) := ⟨_, rfl⟩
  have g0 : Num W w.heap.size 26 lo := by rw [hW]; exact (((Num.new w _ lo).alloc _).alloc _).alloc _
  have g1 : Num W (w.heap.size + 1) 26 hi := by
    have := ((Num.new (w.alloc (.cells (numA lo) 26)) 26 hi).alloc (.cells (numA m) 26)).alloc (.cells #[Value.int .u32 0, .int .u32 0, .int .u32 0, .int .u32 0, .int .u32 0, .int .u32 0, .int .u32 0, .int .u32 0] 26)
    rw [World.size_alloc] at this; rw [hW]; exact this
  have g2 : Num W (w.heap.size + 1 + 1) 26 m := by
    have := (Num.new ((w.alloc (.cells (numA lo) 26)).alloc (.cells (numA hi) 26)) 26 m).alloc (.cells #[Value.int .u32 0, .int .u32 0, .int .u32 0, .int .u32 0, .int .u32 0, .int .u32 0, .int .u32 0, .int .u32 0] 26)
    rw [World.size_alloc, World.size_alloc] at this; rw [hW]; exact this
  have g3 : W.heap[w.heap.size + 1 + 1 + 1]? = some (.cells #[Value.int .u32 0, .int .u32 0, .int .u32 0, .int .u32 0, .int .u32 0, .int .u32 0, .int .u32 0, .int .u32 0] 26 (0, 0)) := by
    have := heap_alloc_new (((w.alloc (.cells (numA lo) 26)).alloc (.cells (numA hi) 26)).alloc (.cells (numA m) 26)) (.cells #[Value.int .u32 0, .int .u32 0, .int .u32 0, .int .u32 0, .int .u32 0, .int .u32 0, .int .u32 0, .int .u32 0] 26)
    rw [World.size_alloc, World.size_alloc, World.size_alloc] at this; rw [hW]; exact this
  have gb : Below w.heap.size w W := by rw [hW]; exact ((((Below.refl _ _).alloc (Nat.le_refl _) _).alloc (by simp) _).alloc (by simp; omega) _).alloc (by simp; omega) _
  have gs : W.heap.size = w.heap.size + 4 := by rw [hW]; simp
  go_enter Try.func23, Try.ntmps23
  go_wp2_with (first | (rw [← hW]; clear hW; refine wpList_load_num rfl _ _ rfl _ rfl _ _ _ g2 Try.underlying26 rfl size26 ?_) | (refine wpList_load_num rfl _ _ rfl _ rfl _ _ _ (hW ▸ g2) Try.underlying26 rfl size26 ?_))
  refine (bits_any m _).mono ?_
  rintro e w1 ⟨rfl, b1⟩
  generalize topI m 8 = T at *
  have k0 := g0.below b1 g0.lt
  have k1 := g1.below b1 g1.lt
  have k2 := g2.below b1 g2.lt
  have k3 := (b1.block _ (by omega)).trans g3
  have kb := below_trans gb b1 (by omega)
  have ks := b1.size
  have hTd : (T + 31).tdiv 32 = (n : Int) := by rw [Int.tdiv_eq_ediv_of_nonneg (by omega)]; exact hT
  have hne : (n : Int) ≠ 0 := by omega
  have hnf : ((n : Int) == 0) = false := by simpa using hne
  have c2 : w1.cell? ⟨w.heap.size + 1 + 1, n - 1, none⟩ = some (.int .u32 (digI m (n - 1))) := k2.cell (by omega)
  have hsl := fun w' => slice_num (w.heap.size + 1 + 1) n hn8 w'
  have hd2 := digI_lt m (n - 1)
  go_wp2_with fail
  refine (lead32_any (digI m (n - 1)) w1 (by omega) (by omega)).mono ?_
  rintro e w1' ⟨rfl, rfl⟩
  rw [hby]
  go_wp2_with fail
  refine (shifted_any (w.heap.size + 1 + 1) 0 n n s m w1 (by omega) hs hB2 (fun k hk => by rw [Nat.zero_add]; exact k2.cell (by omega)) k2.lt).mono ?_
  rintro e w2 ⟨rfl, r2, b2⟩
  have j0 := k0.below b2 k0.lt
  have j1 := k1.below b2 k1.lt
  have j3 := (b2.block _ (by omega)).trans k3
  have jb := below_trans kb b2 (by omega)
  have js := b2.size
  go_wp2_with fail
  have hN16 : lo + hi * 4294967296 ^ 8 < 4294967296 ^ 16 := by
    have e : (4294967296 : Nat) ^ 16 = 4294967296 ^ 8 * 4294967296 ^ 8 := by rw [← Nat.pow_add]
    have h := Nat.mul_le_mul_right (4294967296 ^ 8) (show hi + 1 ≤ 4294967296 ^ 8 from hhi)
    rw [e]
    rw [Nat.add_mul, Nat.one_mul] at h
    omega
  have hcc := concat_any w2.heap.size w.heap.size (w.heap.size + 1) lo hi 26 26 ((w2.alloc (.cells #[.slice (some ⟨w.heap.size, 0, none⟩) 8 8, .slice (some ⟨w.heap.size + 1, 0, none⟩) 8 8] 53)).drew) (World.cell?_alloc_new w2 _ _ 0) (World.cell?_alloc_new w2 _ _ 1) (j0.alloc _) (j1.alloc _) (by simp) hlo
  generalize hNe : lo + hi * 4294967296 ^ 8 = N at *
  have hs3 : ((w2.alloc (.cells #[.slice (some ⟨w.heap.size, 0, none⟩) 8 8, .slice (some ⟨w.heap.size + 1, 0, none⟩) 8 8] 53)).drew).heap.size = w2.heap.size + 1 := by simp
  have b2' : Below w2.heap.size w2 ((w2.alloc (.cells #[.slice (some ⟨w.heap.size, 0, none⟩) 8 8, .slice (some ⟨w.heap.size + 1, 0, none⟩) 8 8] 53)).drew) := ((Below.refl _ _).alloc (Nat.le_refl _) _).drew
  rw [hs3] at hcc
  go_region_with (first | (go_at_call 45; refine hcc.mono ?_; rintro e w3 ⟨g, c, rfl, hgl, hgs, hgc, b3⟩) | (go_at_call 44; refine (shifted_any g 0 16 c s N w3 (by omega) hs hN16 hgc hgs).mono ?_; rintro e w4 ⟨rfl, r4, b4⟩))
  have gb3 := below_trans jb b2' (by omega)
  have gs3 := b3.size
  have gb4 := below_trans (below_trans gb3 b3 (by omega)) b4 (by omega)
  have gr := ((r2.of_block (b2'.block _ r2.lt)).of_block (b3.block _ (by have := r2.lt; omega))).of_block (b4.block _ (by have := r2.lt; omega))
  have gm := (b4.block _ (by omega)).trans ((b3.block _ (by omega)).trans ((b2'.block _ (by omega)).trans j3))
  have gs4 := b4.size
  have hr2 := r2.lt
  go_wp2_with fail
  obtain ⟨D, hDe⟩ : ∃ D : Int, D = ((m * 2 ^ s : Nat) : Int) := ⟨_, rfl⟩
  obtain ⟨f1, f2⟩ := rest_first hn1 hn8 hN16 hs hB1
  obtain ⟨v1, v2⟩ := rest_div hn1 hB1 hD
  rw [← hDe] at f2 v1
  obtain ⟨V, hV⟩ : ∃ V : Int, V = ((N * 2 ^ s : Nat) : Int) := ⟨_, rfl⟩
  rw [← hV] at f1
  obtain ⟨G, hG⟩ : ∃ G, G = w3.heap.size := ⟨_, rfl⟩
  obtain ⟨G1, hG1⟩ : ∃ G1, G1 = w1.heap.size := ⟨_, rfl⟩
  rw [← hG] at r4
  rw [← hG1] at gr
  rw [← hG, ← hG1]
  have l1 : G1 ≠ G := by omega
  have l2 : G1 < w4.heap.size := gr.lt
  have l3 : w.heap.size + 4 ≤ G := by omega
  have l4 : w.heap.size + 4 ≤ G1 := by omega
  clear hG hG1
  have HF := hid f1
  have HF2 := hid f2
  have HV1 := hid v1
  have HV2 := hid v2
  have HDD := hid hD
  have HB1 := hid hB1
  clear f1 f2 v1 v2 hD hB1 hB2 hd hd2 hby hT hT1 hT2 hTd c2 hsl hcc hgc hs3 b2' b3 b4 k0 k1 k2 k3 j0 j1 j3 r2 g0 g1 g2 g3 gb kb jb b1 b2 hgl hgs ks js gs3 gb3 gs4 hr2
  go_loopw [12] (fun i wr => ∃ (d : Nat) (z : Nat → Int) (q : Int), d + n ≤ 17 ∧ i = .int .i64 ((d : Int) + n) ∧ (∀ k, 0 ≤ z k ∧ z k < 4294967296) ∧ valI z (d + n) = V - q * D ∧ valI (fun j => z (d + j)) n < D ∧ w4.grownBy wr (some G) ∧ wr.rowIs G 24 17 (fun j => .int .u32 (z j))) (fun i _ => (intOf i).toNat)
  case atStart =>
    refine ⟨17 - n, digI (N * 2 ^ s), 0, by omega, ?_, fun k => ⟨digI_ge _ _, digI_lt _ _⟩, ?_, ?_, World.grownBy.refl _ _, r4⟩
    · have e : ((17 - n : Nat) : Int) + n = 17 := by omega
      rw [e]
    · have e : 17 - n + n = 17 := by omega
      rw [e, HF.out]; simp
    · exact HF2.out
  case round =>
    obtain ⟨d, z, q, hd, rfl, bz, h1, h2, hg, hr⟩ := hrel
    have gmr' := (hg.block (w.heap.size + 1 + 1 + 1) (by omega) (by simp <;> omega)).trans gm
    rcases d with _ | d
    · have t3 : ¬ ((n : Int) < ((0 : Nat) : Int) + n) := by omega
      have hl := rest_last (N := N) (m := m) (s := s) (q := q) bz h0 HDD.out (by rw [← hV, ← hDe]; rw [Nat.zero_add] at h1; exact h1) (by
        rw [← hDe]
        have e : valI (fun j => z (0 + j)) n = valI z n := valI_congr fun j _ => by rw [Nat.zero_add]
        rw [e] at h2; exact h2)
      have sg := hg.size
      have gw := hr.lt
      have hback := back_any G 0 n n s (N % m * 2 ^ s) wr hn8 hs hl.1 (fun k hk => by rw [Nat.zero_add, hr.cell (by omega), hl.2 k hk]) gw
      rw [Nat.mul_div_cancel _ (Nat.pow_pos (by decide))] at hback
      have hbw := below_of_grown gb4 hg (by omega) (by omega)
      go_wp2_with fail
      refine hback.mono ?_
      rintro e w5 ⟨rfl, b5⟩
      have m5 := (b5.block (w.heap.size + 1 + 1 + 1) (by omega)).trans gmr'
      have s5 := b5.size
      go_wp2_with (refine wpList_store_num rfl _ _ _ rfl _ rfl _ rfl _ rfl m5 size26 ?_; intro w6 hg6 m6)
      exact bodyPost_ret (results_num_tmp rfl rfl m6 Try.underlying26 rfl size26) rfl ⟨by rw [hNe]; rfl, below_of_grown (below_trans hbw b5 (by omega)) hg6 (by omega) (by omega)⟩
    · have t1 : ((d + 1 : Nat) : Int) + n - n - 1 = d := by omega
      have t2 : (n : Int) < ((d + 1 : Nat) : Int) + n := by omega
      go_wp2_with fail
      have e5 : d + 1 + n - d = n + 1 := by omega
      rw [e5]
      have sg := hg.size
      refine (reduce_any G d n (n + 1) G1 0 (n + 1) 17 24 (fun j => .int .u32 (z j)) (fun k => z (d + k)) (digI (m * 2 ^ s)) wr hn1 hn8 (by omega) hr (fun k _ => rfl) (fun k hk => by
        rw [Nat.zero_add]; exact hg.cell (gr.cell (by omega)) (by simp <;> omega)) l1 (by omega) (fun k => bz _) (fun k => ⟨digI_ge _ _, digI_lt _ _⟩) HV2.out (by rw [HV1.out]; exact rest_room bz h2)).mono ?_
      rintro e w5 ⟨rfl, hg5, z', bz', hz', hr5⟩
      rw [HV1.out] at hz'
      obtain ⟨n1, n2⟩ := rest_next h1 hz'
      have hX : 0 ≤ valI z' n ∧ valI z' n < D := by
        have b0 := valI_bd (z := fun j => z (d + 1 + j)) (m := n) fun k _ => bz _
        have : 0 < D := by omega
        rw [hz']
        exact ⟨Int.emod_nonneg _ (by omega), Int.emod_lt_of_pos _ this⟩
      go_wp2_with fail
      refine ⟨⟨d, mixZ z z' d n, _, by omega, ?_, fun k => ?_, n1, by rw [n2]; exact hX.2, grown_trans' hg hg5, hr5.congr fun j hj => ?_⟩, ?_⟩
      · have e : (d : Int) + 1 + n - 1 = d + n := by omega
        rw [e]
      · unfold mixZ
        split
        · exact bz' _
        · exact bz _
      · unfold mixZ
        by_cases h : d ≤ j ∧ j < d + n
        · rw [if_pos h, if_pos h]
        · rw [if_neg h, if_neg h]
      · simp only [intOf]; omega
theorem topI_none : ∀ i, topI 0 i = 0
  | 0 => by simp [topI]
  | i + 1 => by rw [topI_zero (digI_zeroN i)]; exact topI_none i
set_option maxHeartbeats 800000 in
theorem rest_zero (lo hi : Nat) (w : World) :
    Calls Try.prog 23 #[numV lo, numV hi, numV 0] w fun e w' => e = .returned (.tuple #[numV 0, .bool false]) ∧ Below w.heap.size w w' := by
  obtain ⟨m, hm0⟩ : ∃ m, m = 0 := ⟨0, rfl⟩
  have hz : numV 0 = numV m := by rw [hm0]
  have ht : topI m 8 = 0 := by rw [hm0]; exact topI_none 8
  rw [hz]
  have HZ := hid (show Value.agg #[Value.int .u32 0, .int .u32 0, .int .u32 0, .int .u32 0, .int .u32 0, .int .u32 0, .int .u32 0, .int .u32 0] = .agg (numA m) by rw [hm0, ← zeroA])
  clear hz hm0
  obtain ⟨W, hW⟩ : ∃ W, W = (((w.alloc (.cells (numA lo) 26)).alloc (.cells (numA hi) 26)).alloc (.cells (numA m) 26)).alloc (.cells #[Value.int .u32 0, .int .u32 0, .int .u32 0, .int .u32 0, .int .u32 0, .int .u32 0, .int .u32 0, .int .u32 0] 26) := ⟨_, rfl⟩
  have g0 : Num W w.heap.size 26 lo := by rw [hW]; exact (((Num.new w _ lo).alloc _).alloc _).alloc _
  have g1 : Num W (w.heap.size + 1) 26 hi := by
    have := ((Num.new (w.alloc (.cells (numA lo) 26)) 26 hi).alloc (.cells (numA m) 26)).alloc (.cells #[Value.int .u32 0, .int .u32 0, .int .u32 0, .int .u32 0, .int .u32 0, .int .u32 0, .int .u32 0, .int .u32 0] 26)
    rw [World.size_alloc] at this; rw [hW]; exact this
  have g2 : Num W (w.heap.size + 1 + 1) 26 m := by
    have := (Num.new ((w.alloc (.cells (numA lo) 26)).alloc (.cells (numA hi) 26)) 26 m).alloc (.cells #[Value.int .u32 0, .int .u32 0, .int .u32 0, .int .u32 0, .int .u32 0, .int .u32 0, .int .u32 0, .int .u32 0] 26)
    rw [World.size_alloc, World.size_alloc] at this; rw [hW]; exact this
  have g3 : W.heap[w.heap.size + 1 + 1 + 1]? = some (.cells #[Value.int .u32 0, .int .u32 0, .int .u32 0, .int .u32 0, .int .u32 0, .int .u32 0, .int .u32 0, .int .u32 0] 26 (0, 0)) := by
    have := heap_alloc_new (((w.alloc (.cells (numA lo) 26)).alloc (.cells (numA hi) 26)).alloc (.cells (numA m) 26)) (.cells #[Value.int .u32 0, .int .u32 0, .int .u32 0, .int .u32 0, .int .u32 0, .int .u32 0, .int .u32 0, .int .u32 0] 26)
    rw [World.size_alloc, World.size_alloc, World.size_alloc] at this; rw [hW]; exact this
  have gb : Below w.heap.size w W := by rw [hW]; exact ((((Below.refl _ _).alloc (Nat.le_refl _) _).alloc (by simp) _).alloc (by simp; omega) _).alloc (by simp; omega) _
  have gs : W.heap.size = w.heap.size + 4 := by rw [hW]; simp
  go_enter Try.func23, Try.ntmps23
  go_wp2_with (first | (rw [← hW]; clear hW; refine wpList_load_num rfl _ _ rfl _ rfl _ _ _ g2 Try.underlying26 rfl size26 ?_) | (refine wpList_load_num rfl _ _ rfl _ rfl _ _ _ (hW ▸ g2) Try.underlying26 rfl size26 ?_))
  refine (bits_any m _).mono ?_
  rintro e w1 ⟨rfl, b1⟩
  rw [ht]
  have k3 := (b1.block (w.heap.size + 1 + 1 + 1) (by omega)).trans g3
  have kb := below_trans gb b1 (by omega)
  have ks := b1.size
  go_wp2_with (refine wpList_store_num rfl _ _ _ rfl _ rfl m (by exact HZ.out) _ rfl k3 size26 ?_; intro w6 hg6 m6)
  exact bodyPost_ret (results_num_tmp rfl rfl m6 Try.underlying26 rfl size26) rfl ⟨rfl, below_of_grown kb hg6 (by omega) (by omega)⟩
/-- limb.Rest. -/
theorem rest_any (lo hi m : Nat) (hlo : lo < 4294967296 ^ 8) (hhi : hi < 4294967296 ^ 8) (hm : m < 4294967296 ^ 8) (w : World) :
    Calls Try.prog 23 #[numV lo, numV hi, numV m] w fun e w' => e = .returned (.tuple #[numV (if m = 0 then 0 else (lo + hi * 4294967296 ^ 8) % m), .bool (decide (m ≠ 0))]) ∧ Below w.heap.size w w' := by
  by_cases h : m = 0
  · subst h
    rw [if_pos rfl, show decide ((0 : Nat) ≠ 0) = false by decide]
    exact rest_zero lo hi w
  · rw [if_neg h, show decide (m ≠ 0) = true by simpa using h]
    exact rest_pos lo hi m hlo hhi hm (by omega) w
end Go.Proofs.Yteihojjciklfoaa
