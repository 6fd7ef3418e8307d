/- guard: Live, the laws' within, Bucket, known; Records that are the same. -/
import Derived.Test.YtffoekgopooeaaaGdRead2
import Derived.Test.YtffoekgopooeaaaGdBucket2
namespace Go.Proofs.Ytffoekgopooeaaa
set_option linter.unusedVariables false
set_option linter.unusedSimpArgs false
open Go.ChangeShapes Go.WideShapes Go.ChangeAt Go.RowKit Go.Shelf
/-- Does a token hold? -/
def liveB (s s2 : ByteArray) (id ch en er rev channel now era : Int) : Bool := decide (s.toList = s2.toList) && (ch == channel) && (er == era) && decide (now < en) && decide (rev ≤ id)
set_option maxRecDepth 100000 in
set_option maxHeartbeats 8000000 in
theorem live_any (s s2 : ByteArray) (id ch en er p n a rev channel now era : Int) (w : World) :
    Calls Try.prog 31 #[.agg (tokA4 s id ch en er), .agg (recA p s2 n a rev), .int .i64 channel, .int .i64 now, .int .i64 era] w fun e w' => e = .returned (.bool (liveB s s2 id ch en er rev channel now era)) ∧ Below w.heap.size w w' := by
  unfold liveB
  have go : ∀ (P : Prop), P → P := fun _ h => h
  by_cases h1 : s.toList = s2.toList
  · by_cases h2 : ch = channel
    · by_cases h3 : er = era
      · by_cases h4 : now < en
        · by_cases h5 : rev ≤ id
          · (clear go; go_enter Try.func31, Try.ntmps31; unfold recA; go_wp2; go_ret; exact ⟨by first | (simp [*]; done) | (simp [*]; omega), step_trans (step_alloc _ _) (step_alloc _ _)⟩)
          · (clear go; go_enter Try.func31, Try.ntmps31; unfold recA; go_wp2; go_ret; exact ⟨by first | (simp [*]; done) | (simp [*]; omega), step_trans (step_alloc _ _) (step_alloc _ _)⟩)
        · (clear go; go_enter Try.func31, Try.ntmps31; unfold recA; go_wp2; go_ret; exact ⟨by first | (simp [*]; done) | (simp [*]; omega), step_trans (step_alloc _ _) (step_alloc _ _)⟩)
      · (clear go; go_enter Try.func31, Try.ntmps31; unfold recA; go_wp2; go_ret; exact ⟨by first | (simp [*]; done) | (simp [*]; omega), step_trans (step_alloc _ _) (step_alloc _ _)⟩)
    · (clear go; go_enter Try.func31, Try.ntmps31; unfold recA; go_wp2; go_ret; exact ⟨by first | (simp [*]; done) | (simp [*]; omega), step_trans (step_alloc _ _) (step_alloc _ _)⟩)
  · (clear go; go_enter Try.func31, Try.ntmps31; unfold recA; go_wp2; go_ret; exact ⟨by first | (simp [*]; done) | (simp [*]; omega), step_trans (step_alloc _ _) (step_alloc _ _)⟩)
set_option maxRecDepth 100000 in
set_option maxHeartbeats 8000000 in
theorem rlive_any (s s2 : ByteArray) (id ch en er p n a rev channel now era : Int) (w : World) :
    Calls Try.prog 33 #[.agg (tokA4 s id ch en er), .agg (recA p s2 n a rev), .int .i64 channel, .int .i64 now, .int .i64 era] w fun e w' => e = .returned (.bool (liveB s s2 id ch en er rev channel now era)) ∧ Below w.heap.size w w' := by
  unfold liveB
  have go : ∀ (P : Prop), P → P := fun _ h => h
  by_cases h1 : s.toList = s2.toList
  · by_cases h2 : ch = channel
    · by_cases h3 : er = era
      · by_cases h4 : now < en
        · by_cases h5 : rev ≤ id
          · (clear go; go_enter Try.func33, Try.ntmps33; unfold recA; go_wp2; go_ret; exact ⟨by first | (simp [*]; done) | (simp [*]; omega), step_trans (step_alloc _ _) (step_alloc _ _)⟩)
          · (clear go; go_enter Try.func33, Try.ntmps33; unfold recA; go_wp2; go_ret; exact ⟨by first | (simp [*]; done) | (simp [*]; omega), step_trans (step_alloc _ _) (step_alloc _ _)⟩)
        · (clear go; go_enter Try.func33, Try.ntmps33; unfold recA; go_wp2; go_ret; exact ⟨by first | (simp [*]; done) | (simp [*]; omega), step_trans (step_alloc _ _) (step_alloc _ _)⟩)
      · (clear go; go_enter Try.func33, Try.ntmps33; unfold recA; go_wp2; go_ret; exact ⟨by first | (simp [*]; done) | (simp [*]; omega), step_trans (step_alloc _ _) (step_alloc _ _)⟩)
    · (clear go; go_enter Try.func33, Try.ntmps33; unfold recA; go_wp2; go_ret; exact ⟨by first | (simp [*]; done) | (simp [*]; omega), step_trans (step_alloc _ _) (step_alloc _ _)⟩)
  · (clear go; go_enter Try.func33, Try.ntmps33; unfold recA; go_wp2; go_ret; exact ⟨by first | (simp [*]; done) | (simp [*]; omega), step_trans (step_alloc _ _) (step_alloc _ _)⟩)
set_option maxHeartbeats 400000 in
set_option maxRecDepth 100000 in
theorem within9 (a n : Int) (hn : 0 < n) (hn' : n < 9223372036854775808) (ha : -9223372036854775808 ≤ a) (ha' : a < 9223372036854775808) (w : World) :
    Calls Try.prog 18 #[.int .i64 a, .int .i64 n] w fun e w' => e = .returned (.int .i64 (a % n)) ∧ w = w' := by
  obtain ⟨h1, h2, h3, h4⟩ := tmod_case a n hn
  have hz : (n == 0) = false := by simp; omega
  by_cases h : a.tmod n < 0
  · have H := hid (h2 h)
    clear h1 h2
    go_enter Try.func18, Try.ntmps18
    go_wp2
    go_ret
    exact ⟨congrArg (fun x => Ending.returned (.int .i64 x)) H.out, rfl⟩
  · have H := hid (h1 (by omega))
    clear h1 h2
    go_enter Try.func18, Try.ntmps18
    go_wp2
    go_ret
    exact ⟨congrArg (fun x => Ending.returned (.int .i64 x)) H.out, rfl⟩

set_option maxRecDepth 100000 in
set_option maxHeartbeats 8000000 in
theorem known_any (w : World) :
    Calls Try.prog 16 #[] w fun e w' => e = .returned (.bool true) ∧ Below w.heap.size w w' := by
  have hnm : NameOk ⟨#[97]⟩ := ⟨by decide, by decide, fun i h => by
    have : i = 0 := by have h2 : i < 1 := h; omega
    subst this
    show (33 : Int) ≤ 97 ∧ (97 : Int) ≤ 126
    omega⟩
  have HNM := hid hnm
  clear hnm
  have t1 : tokN 0 0 25 = 2 := by decide
  have t2 : tokA 0 0 25 = 20 := by decide
  have t3 : tokN 5 0 0 = 5 := by decide
  have t4 : tokA 5 0 0 = 0 := by decide
  have T1 := hid t1
  have T2 := hid t2
  have T3 := hid t3
  have T4 := hid t4
  have L1 : Hid (liveB ⟨#[97]⟩ ⟨#[97]⟩ 1 2 3 4 0 2 2 4 = true) := hid (by simp [liveB])
  have L2 : Hid (liveB ⟨#[97]⟩ ⟨#[97]⟩ 1 2 3 4 0 2 3 4 = false) := hid (by simp [liveB])
  clear t1 t2 t3 t4
  go_enter Try.func16, Try.ntmps16
  go_wp2_with fail
  refine (tokens_any 0 ⟨#[]⟩ 0 0 0 25 (by omega) (by omega) (by omega) (by omega) (by omega) (by omega) _).mono ?_
  rintro e w1 ⟨rfl, b1⟩
  rw [T1.out, T2.out]
  go_wp2_with fail
  refine (issue_any (.slice none 0 0) [] ⟨#[97]⟩ (by decide) 1 2 3 4 (by omega) (by omega) (by omega) (by omega) _ (IsB.nil _)).mono ?_
  rintro e w2 ⟨v2, rfl, h2, b2⟩
  have B2 := step_trans b1 b2
  have i2 := h2.isB
  clear h2 b1 b2
  go_wp2_with fail
  refine (read_ok (.slice none 0 0) v2 [] ⟨#[97]⟩ HNM.out 1 2 3 4 (by omega) (by omega) (by omega) (by omega) _ (IsB.nil _) i2).mono ?_
  rintro e w3 ⟨rfl, b3⟩
  have B3 := step_trans B2 b3
  have z3 := Blk.new w3 41 (tokA4 ⟨#[]⟩ 0 0 0 0)
  clear B2 b3 i2
  go_wp2_with (refine wpList_store_blk rfl _ (.tmp 4) _ rfl _ rfl _ rfl (by simp [Value.oneCell']) _ z3 rfl size_tok ?_; intro w4 g4 c4)
  have B4 := step_trans B3 (step_new g4)
  have k4 := c4.cell (k := 4) rfl
  refine (charge_some 0 ⟨#[]⟩ 5 0 0 0 (by omega) (by omega) (by omega) (by omega) (by omega) (by omega) (by rw [T3.out]; omega) _).mono ?_
  rintro e w5 ⟨rfl, b5⟩
  rw [T3.out, T4.out]
  have c5 := c4.step b5
  have B5 := step_trans B4 b5
  have z5 := Blk.new w5 28 #[.int .i64 0, .string ⟨#[]⟩, .slice none 0 0, .int .u32 0, .int .u32 0, .int .u32 0, .int .u32 0, .int .u32 0, .int .u32 0, .int .u32 0, .int .u32 0, .int .u32 0, .int .u32 0, .int .u32 0, .int .u32 0, .int .u32 0, .int .u32 0, .int .u32 0, .int .u32 0, .slice none 0 0, .int .i64 0, .int .i64 0, .int .i64 0]
  clear B3 z3 g4 c4 B4 b5 k4
  have B5z := step_trans B5 (step_alloc w5 (.cells #[.int .i64 0, .string ⟨#[]⟩, .slice none 0 0, .int .u32 0, .int .u32 0, .int .u32 0, .int .u32 0, .int .u32 0, .int .u32 0, .int .u32 0, .int .u32 0, .int .u32 0, .int .u32 0, .int .u32 0, .int .u32 0, .int .u32 0, .int .u32 0, .int .u32 0, .int .u32 0, .slice none 0 0, .int .i64 0, .int .i64 0, .int .i64 0] 28))
  go_wp2_with (first | (refine wpList_store_blk rfl _ (.tmp 6) _ rfl _ rfl _ rfl (by simp [recA, Value.oneCell']) _ z5 rfl size_rec ?_; intro w6 g6 c6; have c56 := c5.step (step_new g6); have k4 := c56.cell (k := 4) (v := .int .i64 4) rfl; have k6 := c6.cell (k := 20) (v := .int .i64 4) rfl; have B6 := step_trans B5 (step_new g6)) | (refine wpList_load_blk rfl _ (.tmp 4) rfl _ rfl _ _ _ c56 Try.underlying41 rfl size_tok ?_))
  refine (live_any ⟨#[97]⟩ ⟨#[97]⟩ 1 2 3 4 0 0 0 0 2 2 4 _).mono ?_
  rintro e w7 ⟨rfl, b7⟩
  rw [L1.out]
  have c57 := c56.step b7
  have c67 := c6.step b7
  have B7 := step_trans B6 b7
  clear k4 k6
  go_wp2_with (refine wpList_load_blk rfl _ (.tmp 4) rfl _ rfl _ _ _ c57 Try.underlying41 rfl size_tok ?_)
  refine (live_any ⟨#[97]⟩ ⟨#[97]⟩ 1 2 3 4 0 0 0 0 2 3 4 _).mono ?_
  rintro e w8 ⟨rfl, b8⟩
  rw [L2.out]
  have c68 := c67.step b8
  have B8 := step_trans B7 b8
  have k6 := c68.cell (k := 20) (v := .int .i64 4) rfl
  clear c56 c6 c57 c67 B5z
  go_wp2
  go_ret
  exact ⟨rfl, B8⟩
set_option maxRecDepth 100000 in
set_option maxHeartbeats 8000000 in
theorem bucket_any (n a : Int) (hn : -9223372036854775808 ≤ n) (hn' : n < 9223372036854775808) (ha : -9223372036854775808 ≤ a) (ha' : a < 9223372036854775808) (w : World) :
    Calls Try.prog 17 #[.int .i64 n, .int .i64 a] w fun e w' => e = .returned (.agg (recA 1 ⟨#[117]⟩ (n % 6) (a % 500) 0)) ∧ Below w.heap.size w w' := by
  have b0 := step_alloc w (.cells #[.int .i64 0, .string ⟨#[]⟩, .slice none 0 0, .int .u32 0, .int .u32 0, .int .u32 0, .int .u32 0, .int .u32 0, .int .u32 0, .int .u32 0, .int .u32 0, .int .u32 0, .int .u32 0, .int .u32 0, .int .u32 0, .int .u32 0, .int .u32 0, .int .u32 0, .int .u32 0, .slice none 0 0, .int .i64 0, .int .i64 0, .int .i64 0] 28)
  have z0 := Blk.new w 28 #[.int .i64 0, .string ⟨#[]⟩, .slice none 0 0, .int .u32 0, .int .u32 0, .int .u32 0, .int .u32 0, .int .u32 0, .int .u32 0, .int .u32 0, .int .u32 0, .int .u32 0, .int .u32 0, .int .u32 0, .int .u32 0, .int .u32 0, .int .u32 0, .int .u32 0, .int .u32 0, .slice none 0 0, .int .i64 0, .int .i64 0, .int .i64 0]
  go_enter Try.func17, Try.ntmps17
  go_wp2_with fail
  generalize World.alloc _ _ = W at *
  refine (within9 n 6 (by omega) (by omega) hn hn' _).mono ?_
  rintro e w1 ⟨rfl, rfl⟩
  go_wp2_with fail
  refine (within9 a 500 (by omega) (by omega) ha ha' _).mono ?_
  rintro e w1 ⟨rfl, rfl⟩
  obtain ⟨N, hN⟩ : ∃ N, Hid (N = n % 6) := ⟨_, hid rfl⟩
  obtain ⟨A, hA⟩ : ∃ N, Hid (N = a % 500) := ⟨_, hid rfl⟩
  rw [← hN.out, ← hA.out]
  go_wp2_with (refine wpList_store_blk rfl _ (.tmp 4) _ rfl _ rfl _ rfl (by simp [Value.oneCell']) _ z0 rfl size_rec ?_; intro w6 g6 c6)
  exact bodyPost_ret (results_blk rfl rfl c6 Try.underlying28 rfl size_rec) rfl ⟨by rw [hN.out, hA.out]; rfl, below_of_grown b0 g6 b0.size (Nat.le_refl _)⟩
end Go.Proofs.Ytffoekgopooeaaa
