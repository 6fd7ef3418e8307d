/- limb.Read: contract. -/
import Derived.Test.YteihojjciklfoaaBytes
namespace Go.Proofs.Yteihojjciklfoaa
set_option linter.unusedVariables false
set_option linter.unusedSimpArgs false
open Go.ChangeShapes Go.WideShapes Go.ChangeAt Go.RowKit

def zer32 : List Value := List.replicate 32 (.int .u8 0)
theorem make_zer32 (w : World) : (Instr.makeSlice 39 (.int .i64 32) (.int .i64 32)).run Try.prog w = .ok (.slice (some ⟨w.heap.size, 0, none⟩) 32 32) (w.alloc (.cells zer32.toArray 5)) := by kernel_rfl
theorem size_u8 : (Try.prog.info? 5).map (·.size) = some 1 := by kernel_rfl
theorem splice_pad {l : List UInt8} (h : l.length ≤ 32) : splice zer32 (32 - l.length) (l.map bv) = (padL l).map bv := by
  unfold splice zer32 padL
  rw [List.length_map, show 32 - l.length + l.length = 32 by omega]
  rw [List.drop_eq_nil_of_le (by simp), List.append_nil, List.map_append, List.map_replicate, List.take_replicate]
  congr 2
  omega
theorem or_byte (p c : Int) (h0 : 0 ≤ p) (h1 : p < 16777216) (h2 : 0 ≤ c) (h3 : c < 256) : bits .or .u32 (p * 256) c = p * 256 + c := by
  obtain ⟨p, rfl⟩ := Int.eq_ofNat_of_zero_le h0
  obtain ⟨c, rfl⟩ := Int.eq_ofNat_of_zero_le h2
  rw [show (p : Int) * 256 = ((p * 256 : Nat) : Int) by omega, u32_or_nat _ _ (by omega) (by omega), nat_join 8 (p * 256) c (by omega) (by omega)]
  omega

set_option maxHeartbeats 400000 in
theorem read_none (A : Option Addr) (n cap : Nat) (hn : 32 < n) (hm : n ≤ maxLen) (w : World) :
    Calls Try.prog 34 #[.slice A n cap] w fun e w' => e = .returned (.tuple #[numV 0, .bool false]) ∧ Below w.heap.size w w' := by
  unfold maxLen at hm
  go_enter Try.func34, Try.ntmps34
  go_wp2
  rw [zeroA]
  exact bodyPost_ret (results_num_tmp rfl rfl (Num.new _ _ _) Try.underlying26 rfl size26) rfl ⟨rfl, (Below.refl _ _).alloc (Nat.le_refl _) _⟩

/-- The row of the number, k digits of it read, p of the next. -/
def halfN (n k : Nat) (p : Int) (j : Nat) : Value := if j < k then numF n j else if j = k then .int .u32 p else .int .u32 0
theorem copy_pad (W : World) (g : Nat) (A : Option Addr) (l : List UInt8) (n cap : Nat) (hl : l.length = n) (hn : n ≤ 32) (hg : W.heap[g]? = some (.cells zer32.toArray 5 (0, 0)))
    (hR : Rd W A l) (dp : Option Addr) (dl dc : Nat) (hd : 0 < n → dp = some ⟨g, 32 - n, none⟩) (hdl : dl = n) :
    ∃ w2, (Builtin.copy_ #[39, 39] 3 #[.slice dp dl dc, .slice A n cap]).run Try.prog W = .ok (.int .i64 (n : Int)) w2 ∧ Bts w2 g 5 (padL l) ∧ W.grownBy w2 (some g) := by
  subst hdl
  subst hl
  by_cases h0 : l.length = 0
  · obtain rfl : l = [] := List.eq_nil_of_length_eq_zero h0
    refine ⟨W, run_copy_none (P := Try.prog) W 39 39 3 5 dp A 0 dc 0 cap Try.underlying39 size_u8 rfl, ?_, World.grownBy.refl _ _⟩
    have e := splice_pad (l := []) (by simp)
    unfold Bts bvs
    rw [← e]
    simpa [splice] using hg
  · obtain rfl := hd (by omega)
    obtain ⟨ad, rfl, hb1, hcl⟩ := hR (by omega)
    have hrun := run_copy_row (P := Try.prog) W 39 39 3 5 g (32 - l.length) l.length dc ad l.length cap zer32.toArray 5 (l.map bv) Try.underlying39 size_u8 hg (by simp [Nat.min_def])
      (fun j v hj => by
        rw [List.getElem?_map] at hj
        obtain ⟨b, hb3, rfl⟩ := Option.map_eq_some_iff.1 hj
        exact hcl j b hb3) (by simp [zer32]; omega) (fun v hv => by
        obtain ⟨b, _, rfl⟩ := List.mem_map.1 hv
        rfl)
    rw [List.length_map] at hrun
    refine ⟨_, hrun, ?_, grown_setRow _ _ _⟩
    unfold Bts bvs
    rw [← splice_pad (l := l) hn]
    rw [setRow_heap W g zer32.toArray _ 5 (0, 0) hg]
    simp [splice]
theorem half_zero (n j : Nat) : halfN n 0 0 j = .int .u32 0 := by unfold halfN; split; omega; split <;> rfl
theorem half_next {n k : Nat} {p : Int} (hp : p = (headB n k 4 : Int)) (hk : k < 8) (j : Nat) : halfN n k p j = halfN n (k + 1) 0 j := by
  unfold halfN
  by_cases h1 : j < k
  · rw [if_pos h1, if_pos (by omega)]
  · rw [if_neg h1]
    by_cases h2 : j = k
    · subst h2
      rw [if_pos rfl, if_pos (by omega), hp, headB_all n j hk, numF, digI]
    · rw [if_neg h2, if_neg (by omega)]
      split <;> rfl
theorem half_full (n : Nat) {j : Nat} (hj : j < 8) : halfN n 8 0 j = numF n j := by unfold halfN; rw [if_pos hj]
theorem half_set (n k : Nat) (p q : Int) (j : Nat) : (if j = k then Value.int .u32 q else halfN n k p j) = halfN n k q j := by
  unfold halfN
  by_cases h2 : j = k
  · subst h2; rw [if_pos rfl, if_neg (by omega), if_pos rfl]
  · rw [if_neg h2, if_neg h2, if_neg h2]
set_option maxHeartbeats 4000000 in
theorem read_any (A : Option Addr) (l : List UInt8) (n cap : Nat) (hl : l.length = n) (hn : n ≤ 32) (hc : n ≤ cap) (hm : cap ≤ maxLen) (w : World) (hR : Rd w A l) :
    Calls Try.prog 34 #[.slice A n cap] w fun e w' => e = .returned (.tuple #[numV (readN l), .bool true]) ∧ Below w.heap.size w w' := by
  unfold maxLen at hm
  have HN := hid (bytesN_read (l := l) (by omega))
  have HL := hid hl
  clear hl
  have hmk := make_zer32
  by_cases hn0 : n = 0
  · subst hn0
    go_enter Try.func34, Try.ntmps34
    go_wp2_with fail
    have g0 : Num (w.alloc (.cells #[Value.int .u32 0, .int .u32 0, .int .u32 0, .int .u32 0, .int .u32 0, .int .u32 0, .int .u32 0, .int .u32 0] 26)) w.heap.size 26 0 := by rw [zeroA]; exact Num.new _ _ _
    have g1 := heap_alloc_new (w.alloc (.cells #[Value.int .u32 0, .int .u32 0, .int .u32 0, .int .u32 0, .int .u32 0, .int .u32 0, .int .u32 0, .int .u32 0] 26)) (.cells zer32.toArray 5)
    rw [World.size_alloc] at g1
    have gb : Below w.heap.size w ((w.alloc (.cells #[Value.int .u32 0, .int .u32 0, .int .u32 0, .int .u32 0, .int .u32 0, .int .u32 0, .int .u32 0, .int .u32 0] 26)).alloc (.cells zer32.toArray 5)) := ((Below.refl _ _).alloc (Nat.le_refl _) _).alloc (by simp) _
    have g2 := g0.alloc (.cells zer32.toArray 5)
    have hR' := hR.below gb (Nat.le_refl _)
    have gs : w.heap.size + 1 < ((w.alloc (.cells #[Value.int .u32 0, .int .u32 0, .int .u32 0, .int .u32 0, .int .u32 0, .int .u32 0, .int .u32 0, .int .u32 0] 26)).alloc (.cells zer32.toArray 5)).heap.size := by simp
    clear hR g0 hmk
    obtain ⟨w2, hcp, hB, hg⟩ := copy_pad _ _ A l 0 cap HL.out (by omega) g1 hR' (some ⟨w.heap.size + 1, 0, none⟩) 0 0 (fun h => absurd h (by omega)) rfl
    have HC := hid hcp
    clear hcp hR' g1
    generalize hW : World.alloc _ _ = W at *

    rw [HC.out]
    clear HC hW
    have b2 := below_of_grown gb hg (by omega) (by omega)
    have n2 := g2.grown hg (by simp)
    have s2 := hg.size
    have s3 : w.heap.size + 1 < w2.heap.size := by omega
    clear hg gb g2 s2 gs
    go_wp2
    have hB3 := hB.alloc (.cells #[Value.int .u32 0, .int .u32 0, .int .u32 0, .int .u32 0, .int .u32 0, .int .u32 0, .int .u32 0, .int .u32 0] 26)
    have n3 := n2.alloc (.cells #[Value.int .u32 0, .int .u32 0, .int .u32 0, .int .u32 0, .int .u32 0, .int .u32 0, .int .u32 0, .int .u32 0] 26)
    have r3 : (w2.alloc (.cells #[Value.int .u32 0, .int .u32 0, .int .u32 0, .int .u32 0, .int .u32 0, .int .u32 0, .int .u32 0, .int .u32 0] 26)).rowIs w2.heap.size 26 8 (halfN (readN l) 0 0) := by
      rw [zeroA]
      exact (Num.new w2 26 0).row.congr fun j hj => by rw [half_zero]; unfold numF digI dig; simp
    have b3 := b2.alloc (by omega) (.cells #[Value.int .u32 0, .int .u32 0, .int .u32 0, .int .u32 0, .int .u32 0, .int .u32 0, .int .u32 0, .int .u32 0] 26)
    have s4 : w2.heap.size < (w2.alloc (.cells #[Value.int .u32 0, .int .u32 0, .int .u32 0, .int .u32 0, .int .u32 0, .int .u32 0, .int .u32 0, .int .u32 0] 26)).heap.size := by simp
    generalize hW3 : w2.alloc _ = W3 at *
    clear hW3 b2 n2 hB
    rw [← HN.out] at hB3
    generalize hb : w2.heap.size = b at *
    clear hb
    generalize hNN : readN l = N at *
    have HNN := hid hNN
    clear hNN
    go_loopw [21] (fun i wr => ∃ k : Nat, k ≤ 8 ∧ i = .int .i64 k ∧ wr.rowIs b 26 8 (halfN N k 0) ∧ W3.grownBy wr (some b)) (fun i _ => 8 - (intOf i).toNat)
    case atStart => exact ⟨0, by omega, rfl, r3, World.grownBy.refl _ _⟩
    case round =>
      obtain ⟨k, hk, rfl, hr, hg⟩ := hrel
      clear r3
      by_cases hlt : k < 8
      · go_wp2_with (go_at_call 51; refine (place_any _ _ _ _ (by omega) (by omega) (by omega) (by unfold maxLen; omega) _).mono ?_; rintro e w' ⟨rfl, rfl⟩)
        obtain ⟨wo, rfl⟩ : ∃ wo : World, wo = wr := ⟨_, rfl⟩
        go_loopw [28] (fun i wr => ∃ j : Nat, ∃ p : Int, j ≤ 4 ∧ i = .int .i64 j ∧ 0 ≤ p ∧ Hid (p = (headB N k j : Int)) ∧ wr.rowIs b 26 8 (halfN N k p) ∧ W3.grownBy wr (some b)) (fun i _ => 4 - (intOf i).toNat)
        case atStart => exact ⟨0, 0, by omega, rfl, by omega, rfl, hr, hg⟩
        case round =>
          obtain ⟨j, p, hj, rfl, hp0, HPp, hr', hg'⟩ := hrel
          clear hr hg
          have hz := hr'.frozen k
          have hc1 : wr.cell? ⟨b, k, none⟩ = some (.int .u32 p) := by rw [hr'.cell hlt]; unfold halfN; rw [if_neg (by omega), if_pos rfl]
          by_cases hj4 : j < 4
          · have hc2 : W3.cell? ⟨w.heap.size + 1, 32 - 4 * k - 4 + j, none⟩ = some (.int .u8 ((byteN N (32 - 4 * k - 4 + j)).toNat : Int)) := hB3.cell (bytesN_get N (by omega))
            have hc3 := hg'.cell hc2 (by simp; omega)
            clear hc2
            have hcb := (byteN N (32 - 4 * k - 4 + j)).toNat_lt
            obtain ⟨c, hc⟩ : ∃ c : Int, c = ((byteN N (32 - 4 * k - 4 + j)).toNat : Int) := ⟨_, rfl⟩
            rw [← hc] at hc3
            have hc4 : 0 ≤ c := by omega
            have hc5 : c < 256 := by omega
            have hp1 : p < 16777216 := by
              have h1 := headB_lt N k j
              have h2 : 256 ^ j ≤ 256 ^ 3 := Nat.pow_le_pow_right (by omega) (by omega)
              have h3 := HPp.out
              omega
            have hor := or_byte p c hp0 hp1 hc4 hc5
            have HE : Hid (p * 256 + c = (headB N k (j + 1) : Int)) := by
              have h3 := HPp.out
              show p * 256 + c = _
              rw [headB, h3, hc]; simp
            have hpp : 0 ≤ p * 256 + c := by omega
            clear hcb hc HPp
            go_wp2
            go_roundw
            case rel => exact ⟨j + 1, p * 256 + c, by omega, by go_num, hpp, HE, (hr'.set k _).congr fun i _ => half_set N k p _ i, grown_set hg' rfl _⟩
            case measure => simp [intOf] <;> omega
          · obtain rfl : j = 4 := by omega
            go_wp2
            go_roundw
            case rel => exact ⟨k + 1, by omega, by go_num, hr'.congr fun i _ => half_next HPp.out hlt i, hg'⟩
            case measure => simp [intOf] <;> omega
      · obtain rfl : k = 8 := by omega
        have m1 : Num wr b 26 N := num_of_row hr fun j hj => half_full N hj
        have m2 := n3.grown hg (by simp; omega)
        have m3 := below_of_grown b3 hg (by omega) (by omega)
        have m4 := hg.size
        go_wp2_with (first | (refine wpList_load_num rfl _ _ rfl _ rfl _ _ _ m1 Try.underlying26 rfl size26 ?_) | (refine wpList_store_num rfl _ _ _ rfl _ rfl _ rfl _ rfl m2 size26 ?_; intro w5 hg5 m5))
        exact bodyPost_ret (results_num_tmp rfl rfl m5 Try.underlying26 rfl size26) rfl ⟨by rw [HNN.out]; rfl, below_of_grown m3 hg5 (by omega) (by omega)⟩
  · have hn1 : 0 < n := by omega
    clear hn0
    go_enter Try.func34, Try.ntmps34
    go_wp2_with fail
    have g0 : Num (w.alloc (.cells #[Value.int .u32 0, .int .u32 0, .int .u32 0, .int .u32 0, .int .u32 0, .int .u32 0, .int .u32 0, .int .u32 0] 26)) w.heap.size 26 0 := by rw [zeroA]; exact Num.new _ _ _
    have g1 := heap_alloc_new (w.alloc (.cells #[Value.int .u32 0, .int .u32 0, .int .u32 0, .int .u32 0, .int .u32 0, .int .u32 0, .int .u32 0, .int .u32 0] 26)) (.cells zer32.toArray 5)
    rw [World.size_alloc] at g1
    have gb : Below w.heap.size w ((w.alloc (.cells #[Value.int .u32 0, .int .u32 0, .int .u32 0, .int .u32 0, .int .u32 0, .int .u32 0, .int .u32 0, .int .u32 0] 26)).alloc (.cells zer32.toArray 5)) := ((Below.refl _ _).alloc (Nat.le_refl _) _).alloc (by simp) _
    have g2 := g0.alloc (.cells zer32.toArray 5)
    have hR' := hR.below gb (Nat.le_refl _)
    have gs : w.heap.size + 1 < ((w.alloc (.cells #[Value.int .u32 0, .int .u32 0, .int .u32 0, .int .u32 0, .int .u32 0, .int .u32 0, .int .u32 0, .int .u32 0] 26)).alloc (.cells zer32.toArray 5)).heap.size := by simp
    clear hR g0 hmk
    obtain ⟨w2, hcp, hB, hg⟩ := copy_pad _ _ A l n cap HL.out (by omega) g1 hR' _ (32 - (32 - n)) (32 - (32 - n)) (fun _ => rfl) (by omega)
    have HC := hid hcp
    clear hcp hR' g1
    generalize hW : World.alloc _ _ = W at *
    rw [HC.out]
    clear HC hW
    have b2 := below_of_grown gb hg (by omega) (by omega)
    have n2 := g2.grown hg (by simp)
    have s2 := hg.size
    have s3 : w.heap.size + 1 < w2.heap.size := by omega
    clear hg gb g2 s2 gs
    go_wp2
    have hB3 := hB.alloc (.cells #[Value.int .u32 0, .int .u32 0, .int .u32 0, .int .u32 0, .int .u32 0, .int .u32 0, .int .u32 0, .int .u32 0] 26)
    have n3 := n2.alloc (.cells #[Value.int .u32 0, .int .u32 0, .int .u32 0, .int .u32 0, .int .u32 0, .int .u32 0, .int .u32 0, .int .u32 0] 26)
    have r3 : (w2.alloc (.cells #[Value.int .u32 0, .int .u32 0, .int .u32 0, .int .u32 0, .int .u32 0, .int .u32 0, .int .u32 0, .int .u32 0] 26)).rowIs w2.heap.size 26 8 (halfN (readN l) 0 0) := by
      rw [zeroA]
      exact (Num.new w2 26 0).row.congr fun j hj => by rw [half_zero]; unfold numF digI dig; simp
    have b3 := b2.alloc (by omega) (.cells #[Value.int .u32 0, .int .u32 0, .int .u32 0, .int .u32 0, .int .u32 0, .int .u32 0, .int .u32 0, .int .u32 0] 26)
    have s4 : w2.heap.size < (w2.alloc (.cells #[Value.int .u32 0, .int .u32 0, .int .u32 0, .int .u32 0, .int .u32 0, .int .u32 0, .int .u32 0, .int .u32 0] 26)).heap.size := by simp
    generalize hW3 : w2.alloc _ = W3 at *
    clear hW3 b2 n2 hB
    rw [← HN.out] at hB3
    generalize hb : w2.heap.size = b at *
    clear hb
    generalize hNN : readN l = N at *
    have HNN := hid hNN
    clear hNN
    go_loopw [21] (fun i wr => ∃ k : Nat, k ≤ 8 ∧ i = .int .i64 k ∧ wr.rowIs b 26 8 (halfN N k 0) ∧ W3.grownBy wr (some b)) (fun i _ => 8 - (intOf i).toNat)
    case atStart => exact ⟨0, by omega, rfl, r3, World.grownBy.refl _ _⟩
    case round =>
      obtain ⟨k, hk, rfl, hr, hg⟩ := hrel
      clear r3
      by_cases hlt : k < 8
      · go_wp2_with (go_at_call 51; refine (place_any _ _ _ _ (by omega) (by omega) (by omega) (by unfold maxLen; omega) _).mono ?_; rintro e w' ⟨rfl, rfl⟩)
        obtain ⟨wo, rfl⟩ : ∃ wo : World, wo = wr := ⟨_, rfl⟩
        go_loopw [28] (fun i wr => ∃ j : Nat, ∃ p : Int, j ≤ 4 ∧ i = .int .i64 j ∧ 0 ≤ p ∧ Hid (p = (headB N k j : Int)) ∧ wr.rowIs b 26 8 (halfN N k p) ∧ W3.grownBy wr (some b)) (fun i _ => 4 - (intOf i).toNat)
        case atStart => exact ⟨0, 0, by omega, rfl, by omega, rfl, hr, hg⟩
        case round =>
          obtain ⟨j, p, hj, rfl, hp0, HPp, hr', hg'⟩ := hrel
          clear hr hg
          have hz := hr'.frozen k
          have hc1 : wr.cell? ⟨b, k, none⟩ = some (.int .u32 p) := by rw [hr'.cell hlt]; unfold halfN; rw [if_neg (by omega), if_pos rfl]
          by_cases hj4 : j < 4
          · have hc2 : W3.cell? ⟨w.heap.size + 1, 32 - 4 * k - 4 + j, none⟩ = some (.int .u8 ((byteN N (32 - 4 * k - 4 + j)).toNat : Int)) := hB3.cell (bytesN_get N (by omega))
            have hc3 := hg'.cell hc2 (by simp; omega)
            clear hc2
            have hcb := (byteN N (32 - 4 * k - 4 + j)).toNat_lt
            obtain ⟨c, hc⟩ : ∃ c : Int, c = ((byteN N (32 - 4 * k - 4 + j)).toNat : Int) := ⟨_, rfl⟩
            rw [← hc] at hc3
            have hc4 : 0 ≤ c := by omega
            have hc5 : c < 256 := by omega
            have hp1 : p < 16777216 := by
              have h1 := headB_lt N k j
              have h2 : 256 ^ j ≤ 256 ^ 3 := Nat.pow_le_pow_right (by omega) (by omega)
              have h3 := HPp.out
              omega
            have hor := or_byte p c hp0 hp1 hc4 hc5
            have HE : Hid (p * 256 + c = (headB N k (j + 1) : Int)) := by
              have h3 := HPp.out
              show p * 256 + c = _
              rw [headB, h3, hc]; simp
            have hpp : 0 ≤ p * 256 + c := by omega
            clear hcb hc HPp
            go_wp2
            go_roundw
            case rel => exact ⟨j + 1, p * 256 + c, by omega, by go_num, hpp, HE, (hr'.set k _).congr fun i _ => half_set N k p _ i, grown_set hg' rfl _⟩
            case measure => simp [intOf] <;> omega
          · obtain rfl : j = 4 := by omega
            go_wp2
            go_roundw
            case rel => exact ⟨k + 1, by omega, by go_num, hr'.congr fun i _ => half_next HPp.out hlt i, hg'⟩
            case measure => simp [intOf] <;> omega
      · obtain rfl : k = 8 := by omega
        have m1 : Num wr b 26 N := num_of_row hr fun j hj => half_full N hj
        have m2 := n3.grown hg (by simp; omega)
        have m3 := below_of_grown b3 hg (by omega) (by omega)
        have m4 := hg.size
        go_wp2_with (first | (refine wpList_load_num rfl _ _ rfl _ rfl _ _ _ m1 Try.underlying26 rfl size26 ?_) | (refine wpList_store_num rfl _ _ _ rfl _ rfl _ rfl _ rfl m2 size26 ?_; intro w5 hg5 m5))
        exact bodyPost_ret (results_num_tmp rfl rfl m5 Try.underlying26 rfl size26) rfl ⟨by rw [HNN.out]; rfl, below_of_grown m3 hg5 (by omega) (by omega)⟩
end Go.Proofs.Yteihojjciklfoaa
