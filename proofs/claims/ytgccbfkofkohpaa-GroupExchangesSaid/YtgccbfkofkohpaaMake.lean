/- sentinellaw1.within, Make: contracts. -/
import Derived.Test.YtgccbfkofkohpaaGaByte
namespace Go.Proofs.Ytgccbfkofkohpaa
set_option linter.unusedVariables false
set_option maxRecDepth 20000
set_option linter.unusedSimpArgs false
open Go.ChangeShapes Go.WideShapes Go.ChangeAt Go.RowKit

theorem tmod_case (a n : Int) (hn : 0 < n) : (0 ≤ a.tmod n → a.tmod n = a % n) ∧ (a.tmod n < 0 → a.tmod n + n = a % n) ∧ -n < a.tmod n ∧ a.tmod n < n := by
  have h1 := Int.tmod_def a n
  have h2 := Int.emod_nonneg a (show n ≠ 0 by omega)
  have h3 := Int.emod_lt_of_pos a hn
  have h4 := Int.tmod_lt_of_pos a hn
  have h5 : -n < a.tmod n := by
    have := Int.lt_tmod_of_pos a hn
    omega
  have h6 := Int.emod_add_mul_ediv a n
  refine ⟨fun h => ?_, fun h => ?_, h5, h4⟩
  · rw [← Int.emod_eq_of_lt h h4]
    rw [h1, Int.sub_mul_emod_self_left]
  · rw [← Int.emod_eq_of_lt (a := a.tmod n + n) (b := n) (by omega) (by omega), Int.add_emod_right]
    rw [h1, Int.sub_mul_emod_self_left]
set_option maxHeartbeats 400000 in
theorem within_any (a n : Int) (hn : 0 < n) (hn' : n < 9223372036854775808) (ha : -9223372036854775808 ≤ a) (ha' : a < 9223372036854775808) (w : World) :
    Calls Try.prog 48 #[.int .i64 a, .int .i64 n] w fun e w' => e = .returned (.int .i64 (a % n)) ∧ w = w' := by
  obtain ⟨h1, h2, h3, h4⟩ := tmod_case a n hn
  have hz : (n == 0) = false := by simp; omega
  by_cases h : a.tmod n < 0
  · have H := hid (h2 h)
    clear h1 h2
    go_enter Try.func48, Try.ntmps48
    go_wp2
    go_ret
    exact ⟨congrArg (fun x => Ending.returned (.int .i64 x)) H.out, rfl⟩
  · have H := hid (h1 (by omega))
    clear h1 h2
    go_enter Try.func48, Try.ntmps48
    go_wp2
    go_ret
    exact ⟨congrArg (fun x => Ending.returned (.int .i64 x)) H.out, rfl⟩
theorem tdiv_bd (x n : Int) (hn : 2 ≤ n) (h0 : -9223372036854775808 ≤ x) (h1 : x < 9223372036854775808) : -9223372036854775808 ≤ x.tdiv n ∧ x.tdiv n < 9223372036854775808 := by
  have h : (x.tdiv n).natAbs = x.natAbs / n.natAbs := Int.natAbs_tdiv x n
  have h2 : x.natAbs / n.natAbs ≤ x.natAbs / 2 := Nat.div_le_div_left (by omega) (by omega)
  have h3 := Int.natAbs_eq x
  have h4 := Int.natAbs_eq (x.tdiv n)
  rw [h] at h4
  generalize hq : x.natAbs / n.natAbs = q at h2 h4
  rcases h4 with h4 | h4 <;> rw [h4] <;> omega
theorem bits_u32_bd (op : BinOp) (a b : Int) : 0 ≤ bits op .u32 a b ∧ bits op .u32 a b < 4294967296 := by
  unfold bits
  rw [IntKind.wrap_u32]
  omega

/-- A block of eight words. -/
def NumLike (w : World) (b : Nat) : Prop := ∃ z : Nat → Int, (∀ k, 0 ≤ z k ∧ z k < 4294967296) ∧ w.rowIs b 26 8 (fun j => .int .u32 (z j))
theorem NumLike.set {w : World} {b : Nat} (h : NumLike w b) (i : Nat) (v : Int) (h0 : 0 ≤ v) (h1 : v < 4294967296) : NumLike (w.setCell ⟨b, i, none⟩ (.int .u32 v)) b := by
  obtain ⟨z, hz, hr⟩ := h
  refine ⟨fun j => if j = i then v else z j, fun k => by dsimp only; split; exact ⟨h0, h1⟩; exact hz k, (hr.set i _).congr fun j _ => ?_⟩
  dsimp only
  split <;> rfl
theorem NumLike.drewN {w : World} {b : Nat} (h : NumLike w b) (n : Nat) : NumLike (w.drewN n) b := h
theorem NumLike.drew {w : World} {b : Nat} (h : NumLike w b) : NumLike w.drew b := h
theorem NumLike.cell {w : World} {b : Nat} (h : NumLike w b) {k : Nat} (hk : k < 8) : ∃ v : Int, 0 ≤ v ∧ v < 4294967296 ∧ w.cell? ⟨b, k, none⟩ = some (.int .u32 v) := by
  obtain ⟨z, hz, hr⟩ := h
  exact ⟨z k, (hz k).1, (hz k).2, hr.cell hk⟩
theorem NumLike.frozen {w : World} {b : Nat} (h : NumLike w b) (k : Nat) : w.frozen? ⟨b, k, none⟩ = false := by
  obtain ⟨z, hz, hr⟩ := h
  exact hr.frozen k
theorem NumLike.num {w : World} {b : Nat} (h : NumLike w b) : ∃ n, n < 4294967296 ^ 8 ∧ Num w b 26 n := by
  obtain ⟨z, hz, hr⟩ := h
  obtain ⟨n, hn, e⟩ := num_of (fun k => (z k).toNat) (fun k _ => by have := hz k; omega)
  refine ⟨n, hn, num_of_row hr fun j hj => ?_⟩
  have h1 := hz j
  unfold numF digI
  rw [← e j hj]
  congr 1
  omega
theorem NumLike.zero (w : World) (t : TypeId) : NumLike (w.alloc (.cells #[Value.int .u32 0, .int .u32 0, .int .u32 0, .int .u32 0, .int .u32 0, .int .u32 0, .int .u32 0, .int .u32 0] 26)) w.heap.size :=
  ⟨fun _ => 0, fun _ => (⟨by omega, by omega⟩ : (0 : Int) ≤ 0 ∧ (0 : Int) < 4294967296), by
    rw [zeroA]
    exact (Num.new w 26 0).row.congr fun j hj => by unfold numF digI dig; simp⟩
/-- What a slice of ints reads as. -/
def RdI (w : World) (A : Option Addr) (n : Nat) (x : Nat → Int) : Prop :=
  n ≤ maxLen ∧ (∀ k, -9223372036854775808 ≤ x k ∧ x k < 9223372036854775808) ∧ (0 < n → ∃ b o, A = some ⟨b, o, none⟩ ∧ b < w.heap.size ∧ ∀ k, k < n → w.cell? ⟨b, o + k, none⟩ = some (.int .i64 (x k)))
theorem RdI.below {w w' : World} {A : Option Addr} {n : Nat} {x : Nat → Int} (h : RdI w A n x) {B : Nat} (hb : Below B w w') (hB : w.heap.size ≤ B) : RdI w' A n x :=
  ⟨h.1, h.2.1, fun hn => by
    obtain ⟨b, o, e, h1, h2⟩ := h.2.2 hn
    exact ⟨b, o, e, Nat.lt_of_lt_of_le h1 hb.size, fun k hk => by rw [hb.cell (by simp; omega)]; exact h2 k hk⟩⟩
theorem RdI.drewN {w : World} {A : Option Addr} {n : Nat} {x : Nat → Int} (h : RdI w A n x) (m : Nat) : RdI (w.drewN m) A n x := h
theorem RdI.cap {w : World} {A : Option Addr} {n : Nat} {x : Nat → Int} (h : RdI w A n x) (m : Nat) : RdI w A n x := h
theorem only_drewN {a w : World} {row : Option Nat} (h : a.grownBy w row) (n : Nat) : a.grownBy (w.drewN n) row := ⟨h.os, h.tape, h.output, h.size, h.block⟩

set_option maxHeartbeats 8000000 in
theorem make_any (kd : Int) (hk0 : -9223372036854775808 ≤ kd) (hk1 : kd < 9223372036854775808) (A : Option Addr) (n cap : Nat) (x : Nat → Int) (w : World) (hx : RdI w A n x) :
    Calls Try.prog 21 #[.int .i64 kd, .slice A n cap] w fun e w' => ∃ m, e = .returned (numV m) ∧ m < 4294967296 ^ 8 ∧ Below w.heap.size w w' := by
  obtain ⟨hm, hxb, hx⟩ := hx
  unfold maxLen at hm
  go_enter Try.func21, Try.ntmps21
  go_wp2
  have g0 := (Num.new w 26 0).alloc (.cells #[Value.int .u32 0, .int .u32 0, .int .u32 0, .int .u32 0, .int .u32 0, .int .u32 0, .int .u32 0, .int .u32 0] 26)
  rw [← zeroA] at g0
  have g1 := NumLike.zero (w.alloc (.cells #[Value.int .u32 0, .int .u32 0, .int .u32 0, .int .u32 0, .int .u32 0, .int .u32 0, .int .u32 0, .int .u32 0] 26)) 0
  rw [World.size_alloc] at g1
  have gb : Below w.heap.size w ((w.alloc (.cells #[Value.int .u32 0, .int .u32 0, .int .u32 0, .int .u32 0, .int .u32 0, .int .u32 0, .int .u32 0, .int .u32 0] 26)).alloc (.cells #[Value.int .u32 0, .int .u32 0, .int .u32 0, .int .u32 0, .int .u32 0, .int .u32 0, .int .u32 0, .int .u32 0] 26)) := ((Below.refl _ _).alloc (Nat.le_refl _) _).alloc (by simp) _
  generalize hW : World.alloc _ _ = W at *
  clear hW
  go_loopw [6] (fun i wr => ∃ k : Nat, k ≤ 8 ∧ i = .int .i64 k ∧ NumLike wr (w.heap.size + 1) ∧ Num wr w.heap.size 26 0 ∧ Below w.heap.size w wr) (fun i _ => 8 - (intOf i).toNat)
  case atStart => exact ⟨0, by omega, rfl, g1, g0, gb⟩
  case round =>
    obtain ⟨k, hk, rfl, hn, hz, hb⟩ := hrel
    clear g0 g1 gb
    by_cases hlt : k < 8 ∧ k < n
    · obtain ⟨hl1, hl2⟩ := hlt
      obtain ⟨b, o, rfl, hbl, hc⟩ := hx (by omega)
      have hcx := hb.cell (p := ⟨b, o + k, none⟩) (by simpa using hbl)
      rw [hc k hl2] at hcx
      obtain ⟨v, hv0, hv1, hcv⟩ := hn.cell hl1
      have hcf := hn.frozen k
      have hx0 := (hxb k).1
      have hx1 := (hxb k).2
      generalize x k = X at *
      clear hc hx hxb
      go_wp2_with fail
      go_still_tail 15, (by kernel_rfl)
      change wpList _ _ _ _ _ (World.drew _)
      go_wp2_with (go_at_call 48; refine (within_any _ _ (by omega) (by omega) (by first | omega | exact (tdiv_bd _ _ (by omega) hx0 hx1).1) (by first | omega | exact (tdiv_bd _ _ (by omega) hx0 hx1).2) _).mono ?_; rintro e w' ⟨rfl, rfl⟩)
      all_goals
        go_roundw
        case rel =>
          refine ⟨k + 1, by omega, by go_num, ?_, ?_, ?_⟩
          · repeat (first | exact hn | (refine NumLike.drew ?_) | (refine NumLike.set ?_ _ _ (by first | omega | exact (bits_u32_bd _ _ _).1) (by first | omega | exact (bits_u32_bd _ _ _).2)))
          · repeat (first | exact hz | (refine Num.drew ?_) | (refine Num.far ?_ (by simp) _))
          · repeat (first | exact hb | (refine Below.drew ?_) | (refine Below.setCell ?_ (by simp) _))
        case measure => simp [intOf] <;> omega
    · have hd : (decide ((k : Int) < 8) = true ∧ decide (k < n) = false) ∨ k = 8 := by simp; omega
      rcases hd with ⟨hd1, hd2⟩ | rfl
      · clear hlt hk
        have h6 : ((kd % 6 == 0) = true) ∨ ((kd % 6 == 0) = false ∧ (kd % 6 == 1) = true) ∨ ((kd % 6 == 0) = false ∧ (kd % 6 == 1) = false ∧ (kd % 6 == 2) = true) ∨ ((kd % 6 == 0) = false ∧ (kd % 6 == 1) = false ∧ (kd % 6 == 2) = false) := by
          by_cases a0 : kd % 6 = 0 <;> by_cases a1 : kd % 6 = 1 <;> by_cases a2 : kd % 6 = 2 <;> simp [a0, a1, a2]
        rcases h6 with h6 | ⟨h6, h7⟩ | ⟨h6, h7, h8⟩ | ⟨h6, h7, h8⟩
        · skip
          go_wp2_with (go_at_call 48; refine (within_any _ _ (by omega) (by omega) (by omega) (by omega) _).mono ?_; rintro e w' ⟨rfl, rfl⟩)
          go_loopw [7] (fun i wr => ∃ k : Nat, k ≤ 8 ∧ i = .int .i64 k ∧ NumLike wr (w.heap.size + 1) ∧ Num wr w.heap.size 26 0 ∧ Below w.heap.size w wr) (fun i _ => 8 - (intOf i).toNat)
          case atStart => exact ⟨1, by omega, rfl, hn, hz, hb⟩
          case round =>
            clear hn hz hb
            obtain ⟨k, hk, rfl, hn, hz, hb⟩ := hrel
            by_cases hlt : k < 8
            · obtain ⟨v, hv0, hv1, hcv⟩ := hn.cell hlt
              have hcf := hn.frozen k
              go_wp2
              go_roundw
              case rel =>
                refine ⟨k + 1, by omega, by go_num, ?_, ?_, ?_⟩
                · refine NumLike.set hn _ _ (by first | omega | exact (bits_u32_bd _ _ _).1) (by first | omega | exact (bits_u32_bd _ _ _).2)
                · refine Num.far hz (by simp) _
                · refine Below.setCell hb (by simp) _
              case measure => simp [intOf] <;> omega
            · obtain rfl : k = 8 := by omega
              obtain ⟨m6, hm6, hN⟩ := hn.num
              go_wp2_with (first | (go_at_call 48; refine (within_any _ _ (by omega) (by omega) (by omega) (by omega) _).mono ?_; rintro e w' ⟨rfl, rfl⟩) | (refine wpList_load_num rfl _ _ rfl _ rfl _ _ _ hN Try.underlying26 rfl size26 ?_) | (refine wpList_store_num rfl _ _ _ rfl _ rfl _ rfl _ rfl hz size26 ?_; intro w5 hg5 m5))
              exact bodyPost_ret (results_num rfl rfl m5 Try.underlying26 rfl size26) rfl ⟨_, rfl, hm6, below_of_grown hb hg5 (by have := hz.lt; omega) (by omega)⟩
        · skip
          go_wp2_with (go_at_call 48; refine (within_any _ _ (by omega) (by omega) (by omega) (by omega) _).mono ?_; rintro e w' ⟨rfl, rfl⟩)
          go_loopw [8] (fun i wr => ∃ k : Nat, k ≤ 8 ∧ i = .int .i64 k ∧ NumLike wr (w.heap.size + 1) ∧ Num wr w.heap.size 26 0 ∧ Below w.heap.size w wr) (fun i _ => 8 - (intOf i).toNat)
          case atStart => exact ⟨0, by omega, rfl, hn, hz, hb⟩
          case round =>
            clear hn hz hb
            obtain ⟨k, hk, rfl, hn, hz, hb⟩ := hrel
            by_cases hlt : k < 8
            · obtain ⟨v, hv0, hv1, hcv⟩ := hn.cell hlt
              have hcf := hn.frozen k
              go_wp2
              go_roundw
              case rel =>
                refine ⟨k + 1, by omega, by go_num, ?_, ?_, ?_⟩
                · refine NumLike.set hn _ _ (by first | omega | exact (bits_u32_bd _ _ _).1) (by first | omega | exact (bits_u32_bd _ _ _).2)
                · refine Num.far hz (by simp) _
                · refine Below.setCell hb (by simp) _
              case measure => simp [intOf] <;> omega
            · obtain rfl : k = 8 := by omega
              obtain ⟨m6, hm6, hN⟩ := hn.num
              go_wp2_with (first | (go_at_call 48; refine (within_any _ _ (by omega) (by omega) (by omega) (by omega) _).mono ?_; rintro e w' ⟨rfl, rfl⟩) | (refine wpList_load_num rfl _ _ rfl _ rfl _ _ _ hN Try.underlying26 rfl size26 ?_) | (refine wpList_store_num rfl _ _ _ rfl _ rfl _ rfl _ rfl hz size26 ?_; intro w5 hg5 m5))
              exact bodyPost_ret (results_num rfl rfl m5 Try.underlying26 rfl size26) rfl ⟨_, rfl, hm6, below_of_grown hb hg5 (by have := hz.lt; omega) (by omega)⟩
        · skip
          go_wp2_with (go_at_call 48; refine (within_any _ _ (by omega) (by omega) (by omega) (by omega) _).mono ?_; rintro e w' ⟨rfl, rfl⟩)
          go_loopw [9] (fun i wr => ∃ k : Nat, k ≤ 8 ∧ i = .int .i64 k ∧ NumLike wr (w.heap.size + 1) ∧ Num wr w.heap.size 26 0 ∧ Below w.heap.size w wr) (fun i _ => 8 - (intOf i).toNat)
          case atStart => exact ⟨4, by omega, rfl, hn, hz, hb⟩
          case round =>
            clear hn hz hb
            obtain ⟨k, hk, rfl, hn, hz, hb⟩ := hrel
            by_cases hlt : k < 8
            · obtain ⟨v, hv0, hv1, hcv⟩ := hn.cell hlt
              have hcf := hn.frozen k
              go_wp2
              go_roundw
              case rel =>
                refine ⟨k + 1, by omega, by go_num, ?_, ?_, ?_⟩
                · refine NumLike.set hn _ _ (by first | omega | exact (bits_u32_bd _ _ _).1) (by first | omega | exact (bits_u32_bd _ _ _).2)
                · refine Num.far hz (by simp) _
                · refine Below.setCell hb (by simp) _
              case measure => simp [intOf] <;> omega
            · obtain rfl : k = 8 := by omega
              obtain ⟨m6, hm6, hN⟩ := hn.num
              go_wp2_with (first | (go_at_call 48; refine (within_any _ _ (by omega) (by omega) (by omega) (by omega) _).mono ?_; rintro e w' ⟨rfl, rfl⟩) | (refine wpList_load_num rfl _ _ rfl _ rfl _ _ _ hN Try.underlying26 rfl size26 ?_) | (refine wpList_store_num rfl _ _ _ rfl _ rfl _ rfl _ rfl hz size26 ?_; intro w5 hg5 m5))
              exact bodyPost_ret (results_num rfl rfl m5 Try.underlying26 rfl size26) rfl ⟨_, rfl, hm6, below_of_grown hb hg5 (by have := hz.lt; omega) (by omega)⟩
        · obtain ⟨m6, hm6, hN⟩ := hn.num
          go_wp2_with (first | (go_at_call 48; refine (within_any _ _ (by omega) (by omega) (by omega) (by omega) _).mono ?_; rintro e w' ⟨rfl, rfl⟩) | (refine wpList_load_num rfl _ _ rfl _ rfl _ _ _ hN Try.underlying26 rfl size26 ?_) | (refine wpList_store_num rfl _ _ _ rfl _ rfl _ rfl _ rfl hz size26 ?_; intro w5 hg5 m5))
          exact bodyPost_ret (results_num rfl rfl m5 Try.underlying26 rfl size26) rfl ⟨_, rfl, hm6, below_of_grown hb hg5 (by have := hz.lt; omega) (by omega)⟩
      · clear hlt hk
        have h6 : ((kd % 6 == 0) = true) ∨ ((kd % 6 == 0) = false ∧ (kd % 6 == 1) = true) ∨ ((kd % 6 == 0) = false ∧ (kd % 6 == 1) = false ∧ (kd % 6 == 2) = true) ∨ ((kd % 6 == 0) = false ∧ (kd % 6 == 1) = false ∧ (kd % 6 == 2) = false) := by
          by_cases a0 : kd % 6 = 0 <;> by_cases a1 : kd % 6 = 1 <;> by_cases a2 : kd % 6 = 2 <;> simp [a0, a1, a2]
        rcases h6 with h6 | ⟨h6, h7⟩ | ⟨h6, h7, h8⟩ | ⟨h6, h7, h8⟩
        · skip
          go_wp2_with (go_at_call 48; refine (within_any _ _ (by omega) (by omega) (by omega) (by omega) _).mono ?_; rintro e w' ⟨rfl, rfl⟩)
          go_loopw [7] (fun i wr => ∃ k : Nat, k ≤ 8 ∧ i = .int .i64 k ∧ NumLike wr (w.heap.size + 1) ∧ Num wr w.heap.size 26 0 ∧ Below w.heap.size w wr) (fun i _ => 8 - (intOf i).toNat)
          case atStart => exact ⟨1, by omega, rfl, hn, hz, hb⟩
          case round =>
            clear hn hz hb
            obtain ⟨k, hk, rfl, hn, hz, hb⟩ := hrel
            by_cases hlt : k < 8
            · obtain ⟨v, hv0, hv1, hcv⟩ := hn.cell hlt
              have hcf := hn.frozen k
              go_wp2
              go_roundw
              case rel =>
                refine ⟨k + 1, by omega, by go_num, ?_, ?_, ?_⟩
                · refine NumLike.set hn _ _ (by first | omega | exact (bits_u32_bd _ _ _).1) (by first | omega | exact (bits_u32_bd _ _ _).2)
                · refine Num.far hz (by simp) _
                · refine Below.setCell hb (by simp) _
              case measure => simp [intOf] <;> omega
            · obtain rfl : k = 8 := by omega
              obtain ⟨m6, hm6, hN⟩ := hn.num
              go_wp2_with (first | (go_at_call 48; refine (within_any _ _ (by omega) (by omega) (by omega) (by omega) _).mono ?_; rintro e w' ⟨rfl, rfl⟩) | (refine wpList_load_num rfl _ _ rfl _ rfl _ _ _ hN Try.underlying26 rfl size26 ?_) | (refine wpList_store_num rfl _ _ _ rfl _ rfl _ rfl _ rfl hz size26 ?_; intro w5 hg5 m5))
              exact bodyPost_ret (results_num rfl rfl m5 Try.underlying26 rfl size26) rfl ⟨_, rfl, hm6, below_of_grown hb hg5 (by have := hz.lt; omega) (by omega)⟩
        · skip
          go_wp2_with (go_at_call 48; refine (within_any _ _ (by omega) (by omega) (by omega) (by omega) _).mono ?_; rintro e w' ⟨rfl, rfl⟩)
          go_loopw [8] (fun i wr => ∃ k : Nat, k ≤ 8 ∧ i = .int .i64 k ∧ NumLike wr (w.heap.size + 1) ∧ Num wr w.heap.size 26 0 ∧ Below w.heap.size w wr) (fun i _ => 8 - (intOf i).toNat)
          case atStart => exact ⟨0, by omega, rfl, hn, hz, hb⟩
          case round =>
            clear hn hz hb
            obtain ⟨k, hk, rfl, hn, hz, hb⟩ := hrel
            by_cases hlt : k < 8
            · obtain ⟨v, hv0, hv1, hcv⟩ := hn.cell hlt
              have hcf := hn.frozen k
              go_wp2
              go_roundw
              case rel =>
                refine ⟨k + 1, by omega, by go_num, ?_, ?_, ?_⟩
                · refine NumLike.set hn _ _ (by first | omega | exact (bits_u32_bd _ _ _).1) (by first | omega | exact (bits_u32_bd _ _ _).2)
                · refine Num.far hz (by simp) _
                · refine Below.setCell hb (by simp) _
              case measure => simp [intOf] <;> omega
            · obtain rfl : k = 8 := by omega
              obtain ⟨m6, hm6, hN⟩ := hn.num
              go_wp2_with (first | (go_at_call 48; refine (within_any _ _ (by omega) (by omega) (by omega) (by omega) _).mono ?_; rintro e w' ⟨rfl, rfl⟩) | (refine wpList_load_num rfl _ _ rfl _ rfl _ _ _ hN Try.underlying26 rfl size26 ?_) | (refine wpList_store_num rfl _ _ _ rfl _ rfl _ rfl _ rfl hz size26 ?_; intro w5 hg5 m5))
              exact bodyPost_ret (results_num rfl rfl m5 Try.underlying26 rfl size26) rfl ⟨_, rfl, hm6, below_of_grown hb hg5 (by have := hz.lt; omega) (by omega)⟩
        · skip
          go_wp2_with (go_at_call 48; refine (within_any _ _ (by omega) (by omega) (by omega) (by omega) _).mono ?_; rintro e w' ⟨rfl, rfl⟩)
          go_loopw [9] (fun i wr => ∃ k : Nat, k ≤ 8 ∧ i = .int .i64 k ∧ NumLike wr (w.heap.size + 1) ∧ Num wr w.heap.size 26 0 ∧ Below w.heap.size w wr) (fun i _ => 8 - (intOf i).toNat)
          case atStart => exact ⟨4, by omega, rfl, hn, hz, hb⟩
          case round =>
            clear hn hz hb
            obtain ⟨k, hk, rfl, hn, hz, hb⟩ := hrel
            by_cases hlt : k < 8
            · obtain ⟨v, hv0, hv1, hcv⟩ := hn.cell hlt
              have hcf := hn.frozen k
              go_wp2
              go_roundw
              case rel =>
                refine ⟨k + 1, by omega, by go_num, ?_, ?_, ?_⟩
                · refine NumLike.set hn _ _ (by first | omega | exact (bits_u32_bd _ _ _).1) (by first | omega | exact (bits_u32_bd _ _ _).2)
                · refine Num.far hz (by simp) _
                · refine Below.setCell hb (by simp) _
              case measure => simp [intOf] <;> omega
            · obtain rfl : k = 8 := by omega
              obtain ⟨m6, hm6, hN⟩ := hn.num
              go_wp2_with (first | (go_at_call 48; refine (within_any _ _ (by omega) (by omega) (by omega) (by omega) _).mono ?_; rintro e w' ⟨rfl, rfl⟩) | (refine wpList_load_num rfl _ _ rfl _ rfl _ _ _ hN Try.underlying26 rfl size26 ?_) | (refine wpList_store_num rfl _ _ _ rfl _ rfl _ rfl _ rfl hz size26 ?_; intro w5 hg5 m5))
              exact bodyPost_ret (results_num rfl rfl m5 Try.underlying26 rfl size26) rfl ⟨_, rfl, hm6, below_of_grown hb hg5 (by have := hz.lt; omega) (by omega)⟩
        · obtain ⟨m6, hm6, hN⟩ := hn.num
          go_wp2_with (first | (go_at_call 48; refine (within_any _ _ (by omega) (by omega) (by omega) (by omega) _).mono ?_; rintro e w' ⟨rfl, rfl⟩) | (refine wpList_load_num rfl _ _ rfl _ rfl _ _ _ hN Try.underlying26 rfl size26 ?_) | (refine wpList_store_num rfl _ _ _ rfl _ rfl _ rfl _ rfl hz size26 ?_; intro w5 hg5 m5))
          exact bodyPost_ret (results_num rfl rfl m5 Try.underlying26 rfl size26) rfl ⟨_, rfl, hm6, below_of_grown hb hg5 (by have := hz.lt; omega) (by omega)⟩
end Go.Proofs.Ytgccbfkofkohpaa
