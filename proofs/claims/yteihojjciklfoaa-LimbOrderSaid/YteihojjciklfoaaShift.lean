/- limb.shifted: contract. -/
import Derived.Test.YteihojjciklfoaaBack
namespace Go.Proofs.Yteihojjciklfoaa
set_option linter.unusedVariables false
set_option linter.unusedSimpArgs false
open Go.ChangeShapes Go.WideShapes Go.ChangeAt Go.RowKit

def shlN (V s k : Nat) : Nat := V % 4294967296 ^ k * 2 ^ s
theorem shl_next (V s k : Nat) : shlN V s (k + 1) = shlN V s k + 4294967296 ^ k * (dig V k * 2 ^ s) := by
  unfold shlN dig
  rw [Nat.pow_succ, Nat.mod_mul, Nat.add_mul, Nat.mul_assoc]
theorem shl_lt (V s k : Nat) : shlN V s k < 4294967296 ^ k * 2 ^ s := by
  unfold shlN
  exact Nat.mul_lt_mul_of_pos_right (Nat.mod_lt _ (pow_pos' k)) (Nat.pow_pos (by decide))
theorem pow_s {s : Nat} (hs : s < 32) : (2 : Nat) ^ s * 2 ^ (32 - s) = 4294967296 := by
  have h : s + (32 - s) = 32 := by omega
  rw [← Nat.pow_add, h]
theorem pow_lt {s : Nat} (hs : s < 32) : (2 : Nat) ^ s < 4294967296 := Nat.lt_of_lt_of_le (Nat.pow_lt_pow_right (by decide) hs) (by decide)
theorem shl_high {V s k j : Nat} (hs : s < 32) (hj : k + 1 ≤ j) : dig (shlN V s k) j = 0 := by
  refine dig_of_lt (m := k + 1) (Nat.lt_of_lt_of_le (shl_lt V s k) ?_) hj
  rw [Nat.pow_succ]
  exact Nat.mul_le_mul_left _ (Nat.le_of_lt (pow_lt hs))
theorem shl_digs {V s k : Nat} (hs : s < 32) : (dig (shlN V s k) k ||| (dig V k * 2 ^ s % 4294967296)) = dig (shlN V s (k + 1)) k ∧ dig V k * 2 ^ s / 4294967296 = dig (shlN V s (k + 1)) (k + 1) := by
  have hP := pow_pos' k
  have hc : shlN V s k / 4294967296 ^ k < 2 ^ s := by
    rw [Nat.div_lt_iff_lt_mul hP, Nat.mul_comm]; exact shl_lt V s k
  have h32 := pow_lt hs
  have hps := pow_s hs
  have hd := dig_lt V k
  have e1 : shlN V s (k + 1) / 4294967296 ^ k = shlN V s k / 4294967296 ^ k + dig V k * 2 ^ s := by rw [shl_next, Nat.add_mul_div_left _ _ hP]
  have hmod : dig V k * 2 ^ s % 4294967296 = 2 ^ s * (dig V k % 2 ^ (32 - s)) := by
    rw [← hps, Nat.mul_comm (dig V k), Nat.mul_mod_mul_left]
  have hle : dig V k % 2 ^ (32 - s) + 1 ≤ 2 ^ (32 - s) := Nat.mod_lt _ (Nat.pow_pos (by decide))
  have hle2 := Nat.mul_le_mul_left (2 ^ s) hle
  rw [hps, Nat.mul_add, Nat.mul_one] at hle2
  have hor := Nat.two_pow_add_eq_or_of_lt hc (dig V k % 2 ^ (32 - s))
  have e2 : dig (shlN V s k) k = shlN V s k / 4294967296 ^ k := by unfold dig; rw [Nat.mod_eq_of_lt]; omega
  have hdig : ∀ a j, dig a j = a / 4294967296 ^ j % 4294967296 := fun a j => by unfold dig; rfl
  have e3 : dig (shlN V s (k + 1)) k = (shlN V s k / 4294967296 ^ k + dig V k * 2 ^ s) % 4294967296 := by rw [hdig (shlN V s (k + 1)) k, e1]
  have e4 : dig (shlN V s (k + 1)) (k + 1) = (shlN V s k / 4294967296 ^ k + dig V k * 2 ^ s) / 4294967296 % 4294967296 := by
    rw [hdig (shlN V s (k + 1)) (k + 1), Nat.pow_succ, ← Nat.div_div_eq_div_mul, e1]
  have hb : dig V k * 2 ^ s < 4294967296 * 4294967296 := Nat.mul_lt_mul'' hd h32
  rw [e2, e3, e4, Nat.or_comm, hmod, ← hor]
  generalize shlN V s k / 4294967296 ^ k = c at *
  generalize dig V k * 2 ^ s = X at *
  generalize 2 ^ s * (dig V k % 2 ^ (32 - s)) = T at *
  omega
theorem shl_other {V s k j : Nat} (hs : s < 32) (h1 : j ≠ k) (h2 : j ≠ k + 1) : dig (shlN V s (k + 1)) j = dig (shlN V s k) j := by
  by_cases h : j < k
  · rw [← dig_mod (shlN V s (k + 1)) h, ← dig_mod (shlN V s k) h, shl_next, Nat.add_mul_mod_self_left]
  · rw [shl_high hs (by omega), shl_high hs (by omega)]
theorem shl_or {V s k : Nat} (hs : s < 32) : bits .or .u32 (digI (shlN V s k) k) (digI V k * 2 ^ s % 4294967296) = digI (shlN V s (k + 1)) k ∧ digI V k * 2 ^ s / 4294967296 = digI (shlN V s (k + 1)) (k + 1) := by
  obtain ⟨h1, h2⟩ := shl_digs (V := V) (k := k) hs
  have e : digI V k * 2 ^ s = ((dig V k * 2 ^ s : Nat) : Int) := by unfold digI; simp
  rw [e]
  unfold digI
  rw [← h1, ← h2]
  have e2 : ((dig V k * 2 ^ s : Nat) : Int) % 4294967296 = ((dig V k * 2 ^ s % 4294967296 : Nat) : Int) := by omega
  rw [e2, u32_or_nat _ _ (dig_lt _ _) (Nat.mod_lt _ (by decide))]
  refine ⟨rfl, ?_⟩
  omega
theorem shl_bd {V s k : Nat} (hs : s < 32) : 0 ≤ digI V k * 2 ^ s ∧ digI V k * 2 ^ s < 18446744073709551616 := by
  have e : digI V k * 2 ^ s = ((dig V k * 2 ^ s : Nat) : Int) := by unfold digI; simp
  have hb : dig V k * 2 ^ s < 4294967296 * 4294967296 := Nat.mul_lt_mul'' (dig_lt V k) (pow_lt hs)
  rw [e]; omega
theorem info_u32 : ∃ i, Try.prog.info? 24 = some i ∧ i.zero = some (.int .u32 0) ∧ i.size = 1 ∧ i.bytes = 4 := by
  have h0 : (Try.prog.info? 24).isSome = true := by kernel_rfl
  have h1 : (Try.prog.info? 24).map (·.size) = some 1 := by kernel_rfl
  have h2 : (Try.prog.info? 24).bind (·.zero) = some (.int .u32 0) := by kernel_rfl
  have h3 : (Try.prog.info? 24).map (·.bytes) = some 4 := by kernel_rfl
  cases h : Try.prog.info? 24 with
  | none => rw [h] at h0; cases h0
  | some i =>
    rw [h] at h1 h2 h3
    exact ⟨i, rfl, h2, Option.some.inj h1, Option.some.inj h3⟩
theorem make_u32 (n : Nat) (hn : n ≤ 1000) (w : World) : (Instr.makeSlice 53 (.int .i64 (n : Int)) (.int .i64 (n : Int))).run Try.prog w = .ok (.slice (some ⟨w.heap.size, 0, none⟩) n n) (w.alloc (.cells (madeCells #[.int .u32 0] n) 24)) := by
  obtain ⟨i, h1, h2, h3, h4⟩ := info_u32
  exact run_make_row 53 24 i (.int .u32 0) Try.underlying53 h1 h2 h3 rfl .i64 .i64 n (by rw [h4]; omega) (by omega) w
set_option maxHeartbeats 800000 in
theorem shifted_any (b o n cap s V : Nat) (w : World) (hn : n ≤ 16) (hs : s < 32) (hV : V < 4294967296 ^ n) (hx : ∀ k, k < n → w.cell? ⟨b, o + k, none⟩ = some (.int .u32 (digI V k))) (hb : b < w.heap.size) :
    Calls Try.prog 44 #[.slice (some ⟨b, o, none⟩) n cap, .int .i64 (s : Int)] w fun e w' =>
      e = .returned (.slice (some ⟨w.heap.size, 0, none⟩) (n + 1) (n + 1)) ∧ w'.rowIs w.heap.size 24 (n + 1) (numF (V * 2 ^ s)) ∧ Below w.heap.size w w' := by
  have hmk : ∀ w, (Instr.makeSlice 53 (.int .i64 ((n : Int) + 1)) (.int .i64 ((n : Int) + 1))).run Try.prog w = .ok (.slice (some ⟨w.heap.size, 0, none⟩) (n + 1) (n + 1)) (w.alloc (.cells (madeCells #[.int .u32 0] (n + 1)) 24)) := fun w => make_u32 (n + 1) (by omega) w
  have r0 : (w.alloc (.cells (madeCells #[.int .u32 0] (n + 1)) 24)).rowIs w.heap.size 24 (n + 1) (numF (shlN V s 0)) := (World.rowIs_made w (.int .u32 0) (n + 1) 24).congr fun i hi => by
    unfold numF shlN
    rw [Nat.pow_zero, Nat.mod_one, Nat.zero_mul, digI_zeroN]
  have gb : Below w.heap.size w (w.alloc (.cells (madeCells #[.int .u32 0] (n + 1)) 24)) := (Below.refl _ _).alloc (Nat.le_refl _) _
  go_enter Try.func44, Try.ntmps44
  go_wp2_with fail
  generalize hW : World.alloc _ _ = W at *
  have hgs : w.heap.size < W.heap.size := by rw [← hW]; simp
  clear hW hmk
  go_loopw [15] (fun i wr => ∃ k : Nat, k ≤ n ∧ i = .int .i64 k ∧ W.grownBy wr (some w.heap.size) ∧ wr.rowIs w.heap.size 24 (n + 1) (numF (shlN V s k))) (fun i _ => n - (intOf i).toNat)
  case atStart => exact ⟨0, Nat.zero_le _, rfl, World.grownBy.refl _ _, r0⟩
  case round =>
    obtain ⟨k, hk, rfl, hg, hr⟩ := hrel
    by_cases hlt : k < n
    · have hkn : (k : Int) < (n : Int) := by omega
      have hk1 : (k : Int) < (n : Int) + 1 := by omega
      have hk2 : (k : Int) + 1 < (n : Int) + 1 := by omega
      have hc : wr.cell? ⟨b, o + k, none⟩ = some (.int .u32 (digI V k)) := hg.cell ((gb.cell (p := ⟨b, o + k, none⟩) hb).trans (hx k hlt)) (by simp <;> omega)
      have hc1 : wr.cell? ⟨w.heap.size, k, none⟩ = some (.int .u32 (digI (shlN V s k) k)) := hr.cell (by omega)
      have hc2 : wr.cell? ⟨w.heap.size, k + 1, none⟩ = some (.int .u32 (digI (shlN V s k) (k + 1))) := hr.cell (by omega)
      have hf1 : wr.frozen? ⟨w.heap.size, k, none⟩ = false := hr.frozen _
      have hf2 : wr.frozen? ⟨w.heap.size, k + 1, none⟩ = false := hr.frozen _
      obtain ⟨hL1, hL2⟩ := shl_bd (V := V) (k := k) hs
      have h1 := digI_ge V k
      have h2 := digI_lt V k
      go_wp2_with fail
      obtain ⟨o1, o2⟩ := shl_or (V := V) (k := k) hs
      rw [o1, o2]
      refine ⟨⟨k + 1, by omega, by go_num, grown_set (grown_set hg rfl _) rfl _, ((hr.set k _).set (k + 1) _).congr fun j hj => ?_⟩, by simp [intOf] <;> omega⟩
      by_cases e1 : j = k + 1
      · subst e1
        rw [if_pos rfl]; rfl
      · rw [if_neg e1]
        by_cases e2 : j = k
        · subst e2
          rw [if_pos rfl]; rfl
        · rw [if_neg e2]
          unfold numF digI
          rw [shl_other hs e2 e1]
    · have : k = n := by omega
      subst this
      go_wp2_with fail
      go_ret
      refine ⟨rfl, ?_, below_of_grown gb hg (Nat.le_of_lt hgs) (Nat.le_refl _)⟩
      have e : shlN V s k = V * 2 ^ s := by unfold shlN; rw [Nat.mod_eq_of_lt hV]
      rw [e] at hr
      exact hr
end Go.Proofs.Yteihojjciklfoaa
