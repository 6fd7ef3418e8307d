/- guard: Tokens, Charge, Refund; the reference's; Records, at records without bytes. -/
import Derived.Test.YtffoekgopooeaaaGdBucket
namespace Go.Proofs.Ytffoekgopooeaaa
set_option linter.unusedVariables false
set_option linter.unusedSimpArgs false
open Go.ChangeShapes Go.WideShapes Go.ChangeAt Go.RowKit
set_option maxRecDepth 100000 in
set_option maxHeartbeats 8000000 in
theorem tokens_any (p : Int) (s : ByteArray) (n a r now : Int) (hn0 : 0 ≤ n) (hn5 : n ≤ 5) (ha : 0 ≤ a) (ha1 : a < 9223372036854775808) (h0 : 0 ≤ now) (h1 : now < 9223372036854775808) (w : World) :
    Calls Try.prog 19 #[.agg (recA p s n a r), .int .i64 now] w fun e w' => e = .returned (.tuple #[.int .i64 (tokN n a now), .int .i64 (tokA n a now)]) ∧ Below w.heap.size w w' := by
  obtain ⟨TN, hTN⟩ : ∃ x, Hid (tokN n a now = x) := ⟨_, hid rfl⟩
  obtain ⟨TA, hTA⟩ : ∃ x, Hid (tokA n a now = x) := ⟨_, hid rfl⟩
  obtain ⟨t0, t5, t6, t7, t8⟩ := tok_bd hn0 hn5 ha h0
  rw [hTN.out] at t0 t5
  rw [hTA.out] at t6 t7 t8
  try rw [hTN.out]
  try rw [hTA.out]
  have q0 := Blk.new w 28 (recA p s n a r)
  have q1 := q0
  have b0 := step_alloc w (.cells (recA p s n a r) 28)
  go_enter Try.func19, Try.ntmps19
  go_wp2_with (refine wpList_load_blk rfl _ (.tmp 2) rfl _ rfl _ _ _ q1 Try.underlying28 rfl size_rec ?_)
  generalize World.alloc _ _ = W at *
  refine (of_bucket p s n a r _).mono ?_
  rintro e w1 ⟨rfl, b1⟩
  have q2 := q1.step b1
  skip
  have B1 := step_trans b0 b1
  clear q0 q1 b0 b1
  go_wp2_with fail
  refine (by_any n a now hn0 hn5 ha ha1 h0 h1 _).mono ?_
  rintro e w2 ⟨rfl, b2⟩
  have q3 := q2.step b2
  skip
  have B2 := step_trans B1 b2
  have k3 := Blk.new w2 59 (buckA 0 0)
  rw [hTN.out, hTA.out]
  clear q2 B1 b2
  go_wp2
  go_region
  go_wp2
  go_ret2
  exact ⟨rfl, B2.trans ((step_alloc _ _).drew.mono B2.size)⟩
set_option maxRecDepth 100000 in
set_option maxHeartbeats 8000000 in
theorem charge_none (p : Int) (s : ByteArray) (n a r now : Int) (hn0 : 0 ≤ n) (hn5 : n ≤ 5) (ha : 0 ≤ a) (ha1 : a < 9223372036854775808) (h0 : 0 ≤ now) (h1 : now < 9223372036854775808) (hz : tokN n a now = 0) (w : World) :
    Calls Try.prog 21 #[.agg (recA p s n a r), .int .i64 now] w fun e w' => e = .returned (.tuple #[.agg (recA 0 ⟨#[]⟩ 0 0 0), .bool false]) ∧ Below w.heap.size w w' := by
  obtain ⟨TN, hTN⟩ : ∃ x, Hid (tokN n a now = x) := ⟨_, hid rfl⟩
  obtain ⟨TA, hTA⟩ : ∃ x, Hid (tokA n a now = x) := ⟨_, hid rfl⟩
  obtain ⟨t0, t5, t6, t7, t8⟩ := tok_bd hn0 hn5 ha h0
  rw [hTN.out] at t0 t5
  rw [hTA.out] at t6 t7 t8
  try rw [hTN.out]
  try rw [hTA.out]
  have q0 := Blk.new w 28 (recA p s n a r)
  have q1 := q0.alloc (.cells #[.int .i64 0, .string ⟨#[]⟩, .slice none 0 0, .int .u32 0, .int .u32 0, .int .u32 0, .int .u32 0, .int .u32 0, .int .u32 0, .int .u32 0, .int .u32 0, .int .u32 0, .int .u32 0, .int .u32 0, .int .u32 0, .int .u32 0, .int .u32 0, .int .u32 0, .int .u32 0, .slice none 0 0, .int .i64 0, .int .i64 0, .int .i64 0] 28)
  have z1 := Blk.new (w.alloc (.cells (recA p s n a r) 28)) 28 #[.int .i64 0, .string ⟨#[]⟩, .slice none 0 0, .int .u32 0, .int .u32 0, .int .u32 0, .int .u32 0, .int .u32 0, .int .u32 0, .int .u32 0, .int .u32 0, .int .u32 0, .int .u32 0, .int .u32 0, .int .u32 0, .int .u32 0, .int .u32 0, .int .u32 0, .int .u32 0, .slice none 0 0, .int .i64 0, .int .i64 0, .int .i64 0]
  rw [World.size_alloc] at z1
  have b0 := step_trans (step_alloc w (.cells (recA p s n a r) 28)) (step_alloc _ (.cells #[.int .i64 0, .string ⟨#[]⟩, .slice none 0 0, .int .u32 0, .int .u32 0, .int .u32 0, .int .u32 0, .int .u32 0, .int .u32 0, .int .u32 0, .int .u32 0, .int .u32 0, .int .u32 0, .int .u32 0, .int .u32 0, .int .u32 0, .int .u32 0, .int .u32 0, .int .u32 0, .slice none 0 0, .int .i64 0, .int .i64 0, .int .i64 0] 28))
  go_enter Try.func21, Try.ntmps21
  go_wp2_with (refine wpList_load_blk rfl _ (.tmp 2) rfl _ rfl _ _ _ q1 Try.underlying28 rfl size_rec ?_)
  generalize World.alloc _ _ = W at *
  refine (of_bucket p s n a r _).mono ?_
  rintro e w1 ⟨rfl, b1⟩
  have q2 := q1.step b1
  have z2 := z1.step b1
  have B1 := step_trans b0 b1
  clear q0 q1 b0 b1 z1
  go_wp2_with fail
  refine (by_any n a now hn0 hn5 ha ha1 h0 h1 _).mono ?_
  rintro e w2 ⟨rfl, b2⟩
  have q3 := q2.step b2
  have z3 := z2.step b2
  have B2 := step_trans B1 b2
  have k3 := Blk.new w2 59 (buckA 0 0)
  rw [hTN.out, hTA.out]
  clear q2 B1 b2 z2
  obtain rfl : TN = 0 := by rw [← hTN.out, hz]
  have z4 := z3.alloc (.cells (buckA 0 TA) 59)
  have hlt := z3.lt
  have ha2 := step_alloc w2 (.cells (buckA 0 TA) 59)
  go_wp2_with (refine wpList_store_blk rfl _ (.tmp 4) _ rfl _ rfl _ rfl (by simp [recA, Value.oneCell']) _ z4 rfl size_rec ?_; intro w5 g5 c5)
  exact bodyPost_ret (results_blk_tmp rfl rfl c5 Try.underlying28 rfl size_rec) rfl ⟨rfl, below_of_grown (B2.trans (ha2.mono B2.size)) g5 (by simp; have := B2.size; omega) (by omega)⟩
set_option maxRecDepth 100000 in
set_option maxHeartbeats 8000000 in
theorem charge_some (p : Int) (s : ByteArray) (n a r now : Int) (hn0 : 0 ≤ n) (hn5 : n ≤ 5) (ha : 0 ≤ a) (ha1 : a < 9223372036854775808) (h0 : 0 ≤ now) (h1 : now < 9223372036854775808) (hz : tokN n a now ≠ 0) (w : World) :
    Calls Try.prog 21 #[.agg (recA p s n a r), .int .i64 now] w fun e w' => e = .returned (.tuple #[.agg (recA p s (tokN n a now - 1) (tokA n a now) r), .bool true]) ∧ Below w.heap.size w w' := by
  obtain ⟨TN, hTN⟩ : ∃ x, Hid (tokN n a now = x) := ⟨_, hid rfl⟩
  obtain ⟨TA, hTA⟩ : ∃ x, Hid (tokA n a now = x) := ⟨_, hid rfl⟩
  obtain ⟨t0, t5, t6, t7, t8⟩ := tok_bd hn0 hn5 ha h0
  rw [hTN.out] at t0 t5
  rw [hTA.out] at t6 t7 t8
  try rw [hTN.out]
  try rw [hTA.out]
  have q0 := Blk.new w 28 (recA p s n a r)
  have q1 := q0.alloc (.cells #[.int .i64 0, .string ⟨#[]⟩, .slice none 0 0, .int .u32 0, .int .u32 0, .int .u32 0, .int .u32 0, .int .u32 0, .int .u32 0, .int .u32 0, .int .u32 0, .int .u32 0, .int .u32 0, .int .u32 0, .int .u32 0, .int .u32 0, .int .u32 0, .int .u32 0, .int .u32 0, .slice none 0 0, .int .i64 0, .int .i64 0, .int .i64 0] 28)
  have z1 := Blk.new (w.alloc (.cells (recA p s n a r) 28)) 28 #[.int .i64 0, .string ⟨#[]⟩, .slice none 0 0, .int .u32 0, .int .u32 0, .int .u32 0, .int .u32 0, .int .u32 0, .int .u32 0, .int .u32 0, .int .u32 0, .int .u32 0, .int .u32 0, .int .u32 0, .int .u32 0, .int .u32 0, .int .u32 0, .int .u32 0, .int .u32 0, .slice none 0 0, .int .i64 0, .int .i64 0, .int .i64 0]
  rw [World.size_alloc] at z1
  have b0 := step_trans (step_alloc w (.cells (recA p s n a r) 28)) (step_alloc _ (.cells #[.int .i64 0, .string ⟨#[]⟩, .slice none 0 0, .int .u32 0, .int .u32 0, .int .u32 0, .int .u32 0, .int .u32 0, .int .u32 0, .int .u32 0, .int .u32 0, .int .u32 0, .int .u32 0, .int .u32 0, .int .u32 0, .int .u32 0, .int .u32 0, .int .u32 0, .int .u32 0, .slice none 0 0, .int .i64 0, .int .i64 0, .int .i64 0] 28))
  go_enter Try.func21, Try.ntmps21
  go_wp2_with (refine wpList_load_blk rfl _ (.tmp 2) rfl _ rfl _ _ _ q1 Try.underlying28 rfl size_rec ?_)
  generalize World.alloc _ _ = W at *
  refine (of_bucket p s n a r _).mono ?_
  rintro e w1 ⟨rfl, b1⟩
  have q2 := q1.step b1
  have z2 := z1.step b1
  have B1 := step_trans b0 b1
  clear q0 q1 b0 b1 z1
  go_wp2_with fail
  refine (by_any n a now hn0 hn5 ha ha1 h0 h1 _).mono ?_
  rintro e w2 ⟨rfl, b2⟩
  have q3 := q2.step b2
  have z3 := z2.step b2
  have B2 := step_trans B1 b2
  have k3 := Blk.new w2 59 (buckA 0 0)
  rw [hTN.out, hTA.out]
  clear q2 B1 b2 z2
  have hne : ¬ TN = 0 := by rw [← hTN.out]; exact hz
  have hne2 : (TN == 0) = false := by simpa using hne
  have z4 := z3.alloc (.cells (buckA (TN - 1) TA) 59)
  have q4 := q3.alloc (.cells (buckA (TN - 1) TA) 59)
  have k4 := Blk.new w2 59 (buckA (TN - 1) TA)
  have hlt := z3.lt
  have ha2 := step_alloc w2 (.cells (buckA (TN - 1) TA) 59)
  clear hz q3 k3
  go_wp2_with (refine wpList_load_blk rfl _ (.tmp 2) rfl _ rfl _ _ _ q4 Try.underlying28 rfl size_rec ?_)
  refine (with_any p s n a r (TN - 1) TA _).mono ?_
  rintro e w3 ⟨rfl, b3⟩
  have z5 := z4.step b3
  have B3 := B2.trans ((ha2.trans (b3.mono ha2.size)).mono B2.size)
  go_wp2_with (refine wpList_store_blk rfl _ (.tmp 4) _ rfl _ rfl _ rfl (by simp [recA, Value.oneCell']) _ z5 rfl size_rec ?_; intro w5 g5 c5)
  exact bodyPost_ret (results_blk_tmp rfl rfl c5 Try.underlying28 rfl size_rec) rfl ⟨rfl, below_of_grown B3 g5 B3.size (by omega)⟩
set_option maxRecDepth 100000 in
set_option maxHeartbeats 8000000 in
theorem refund_any (p : Int) (s : ByteArray) (n a r now : Int) (hn0 : 0 ≤ n) (hn5 : n ≤ 5) (ha : 0 ≤ a) (ha1 : a < 9223372036854775808) (h0 : 0 ≤ now) (h1 : now < 9223372036854775808) (w : World) :
    Calls Try.prog 24 #[.agg (recA p s n a r), .int .i64 now] w fun e w' => e = .returned (.agg (recA p s (min (tokN n a now + 1) 5) (tokA n a now) r)) ∧ Below w.heap.size w w' := by
  obtain ⟨TN, hTN⟩ : ∃ x, Hid (tokN n a now = x) := ⟨_, hid rfl⟩
  obtain ⟨TA, hTA⟩ : ∃ x, Hid (tokA n a now = x) := ⟨_, hid rfl⟩
  obtain ⟨t0, t5, t6, t7, t8⟩ := tok_bd hn0 hn5 ha h0
  rw [hTN.out] at t0 t5
  rw [hTA.out] at t6 t7 t8
  try rw [hTN.out]
  try rw [hTA.out]
  have q0 := Blk.new w 28 (recA p s n a r)
  have q1 := q0.alloc (.cells #[.int .i64 0, .string ⟨#[]⟩, .slice none 0 0, .int .u32 0, .int .u32 0, .int .u32 0, .int .u32 0, .int .u32 0, .int .u32 0, .int .u32 0, .int .u32 0, .int .u32 0, .int .u32 0, .int .u32 0, .int .u32 0, .int .u32 0, .int .u32 0, .int .u32 0, .int .u32 0, .slice none 0 0, .int .i64 0, .int .i64 0, .int .i64 0] 28)
  have z1 := Blk.new (w.alloc (.cells (recA p s n a r) 28)) 28 #[.int .i64 0, .string ⟨#[]⟩, .slice none 0 0, .int .u32 0, .int .u32 0, .int .u32 0, .int .u32 0, .int .u32 0, .int .u32 0, .int .u32 0, .int .u32 0, .int .u32 0, .int .u32 0, .int .u32 0, .int .u32 0, .int .u32 0, .int .u32 0, .int .u32 0, .int .u32 0, .slice none 0 0, .int .i64 0, .int .i64 0, .int .i64 0]
  rw [World.size_alloc] at z1
  have b0 := step_trans (step_alloc w (.cells (recA p s n a r) 28)) (step_alloc _ (.cells #[.int .i64 0, .string ⟨#[]⟩, .slice none 0 0, .int .u32 0, .int .u32 0, .int .u32 0, .int .u32 0, .int .u32 0, .int .u32 0, .int .u32 0, .int .u32 0, .int .u32 0, .int .u32 0, .int .u32 0, .int .u32 0, .int .u32 0, .int .u32 0, .int .u32 0, .int .u32 0, .slice none 0 0, .int .i64 0, .int .i64 0, .int .i64 0] 28))
  go_enter Try.func24, Try.ntmps24
  go_wp2_with (refine wpList_load_blk rfl _ (.tmp 2) rfl _ rfl _ _ _ q1 Try.underlying28 rfl size_rec ?_)
  generalize World.alloc _ _ = W at *
  refine (of_bucket p s n a r _).mono ?_
  rintro e w1 ⟨rfl, b1⟩
  have q2 := q1.step b1
  have z2 := z1.step b1
  have B1 := step_trans b0 b1
  clear q0 q1 b0 b1 z1
  go_wp2_with fail
  refine (by_any n a now hn0 hn5 ha ha1 h0 h1 _).mono ?_
  rintro e w2 ⟨rfl, b2⟩
  have q3 := q2.step b2
  have z3 := z2.step b2
  have B2 := step_trans B1 b2
  have k3 := Blk.new w2 59 (buckA 0 0)
  rw [hTN.out, hTA.out]
  clear q2 B1 b2 z2
  have hlt := z3.lt
  have hm : (5 < TN + 1 ∧ min (TN + 1) 5 = 5) ∨ (TN + 1 ≤ 5 ∧ min (TN + 1) 5 = TN + 1) := by omega
  rcases hm with ⟨hm1, hm2⟩ | ⟨hm1, hm2⟩
  · have HM := hid hm2
    have z4 := z3.alloc (.cells (buckA 5 TA) 59)
    have q4 := q3.alloc (.cells (buckA 5 TA) 59)
    have ha2 := step_alloc w2 (.cells (buckA 5 TA) 59)
    clear q3 k3 hm2 z3
    go_wp2_with (refine wpList_load_blk rfl _ (.tmp 2) rfl _ rfl _ _ _ q4 Try.underlying28 rfl size_rec ?_)
    refine (with_any p s n a r 5 TA _).mono ?_
    rintro e w3 ⟨rfl, b3⟩
    have z5 := z4.step b3
    have B3 := B2.trans ((ha2.trans (b3.mono ha2.size)).mono B2.size)
    go_wp2_with (refine wpList_store_blk rfl _ (.tmp 4) _ rfl _ rfl _ rfl (by simp [recA, Value.oneCell']) _ z5 rfl size_rec ?_; intro w5 g5 c5)
    exact bodyPost_ret (results_blk rfl rfl c5 Try.underlying28 rfl size_rec) rfl ⟨by rw [HM.out], below_of_grown B3 g5 B3.size (by omega)⟩
  · have HM := hid hm2
    have z4 := z3.alloc (.cells (buckA (TN + 1) TA) 59)
    have q4 := q3.alloc (.cells (buckA (TN + 1) TA) 59)
    have ha2 := step_alloc w2 (.cells (buckA (TN + 1) TA) 59)
    clear q3 k3 hm2 z3
    go_wp2_with (refine wpList_load_blk rfl _ (.tmp 2) rfl _ rfl _ _ _ q4 Try.underlying28 rfl size_rec ?_)
    refine (with_any p s n a r (TN + 1) TA _).mono ?_
    rintro e w3 ⟨rfl, b3⟩
    have z5 := z4.step b3
    have B3 := B2.trans ((ha2.trans (b3.mono ha2.size)).mono B2.size)
    go_wp2_with (refine wpList_store_blk rfl _ (.tmp 4) _ rfl _ rfl _ rfl (by simp [recA, Value.oneCell']) _ z5 rfl size_rec ?_; intro w5 g5 c5)
    exact bodyPost_ret (results_blk rfl rfl c5 Try.underlying28 rfl size_rec) rfl ⟨by rw [HM.out], below_of_grown B3 g5 B3.size (by omega)⟩
set_option maxRecDepth 100000 in
set_option maxHeartbeats 8000000 in
theorem rtokens_any (p : Int) (s : ByteArray) (n a r now : Int) (hn0 : 0 ≤ n) (hn5 : n ≤ 5) (ha : 0 ≤ a) (ha1 : a < 9223372036854775808) (h0 : 0 ≤ now) (h1 : now < 9223372036854775808) (w : World) :
    Calls Try.prog 20 #[.agg (recA p s n a r), .int .i64 now] w fun e w' => e = .returned (.tuple #[.int .i64 (tokN n a now), .int .i64 (tokA n a now)]) ∧ Below w.heap.size w w' := by
  rcases tok_ways n a now with ⟨d1, e1, e2⟩ | ⟨d1, d2, e1, e2⟩ | ⟨d1, d2, e1, e2⟩
  all_goals
    rw [e1, e2]
    clear e1 e2
  · go_enter Try.func20, Try.ntmps20
    unfold recA
    go_wp2
    go_region
    go_wp2
    go_ret2
    exact ⟨rfl, (step_alloc _ _).drew⟩
  · have hq : (now - a).tdiv 10 = (now - a) / 10 := Int.tdiv_eq_ediv_of_nonneg (by omega)
    have d3 : 5 - n ≤ (now - a) / 10 := by omega
    go_enter Try.func20, Try.ntmps20
    unfold recA
    go_wp2
    go_ret2
    exact ⟨rfl, (step_alloc _ _)⟩
  · have hq : (now - a).tdiv 10 = (now - a) / 10 := Int.tdiv_eq_ediv_of_nonneg (by omega)
    have d3 : ¬ 5 - n ≤ (now - a) / 10 := by omega
    go_enter Try.func20, Try.ntmps20
    unfold recA
    go_wp2
    go_region
    go_wp2
    go_ret2
    exact ⟨rfl, (step_alloc _ _).drew⟩
set_option maxRecDepth 100000 in
set_option maxHeartbeats 8000000 in
theorem rcharge_none (p : Int) (s : ByteArray) (n a r now : Int) (hn0 : 0 ≤ n) (hn5 : n ≤ 5) (ha : 0 ≤ a) (ha1 : a < 9223372036854775808) (h0 : 0 ≤ now) (h1 : now < 9223372036854775808) (hz : tokN n a now = 0) (w : World) :
    Calls Try.prog 22 #[.agg (recA p s n a r), .int .i64 now] w fun e w' => e = .returned (.tuple #[.agg (recA 0 ⟨#[]⟩ 0 0 0), .bool false]) ∧ Below w.heap.size w w' := by
  obtain ⟨TN, hTN⟩ : ∃ x, Hid (tokN n a now = x) := ⟨_, hid rfl⟩
  obtain ⟨TA, hTA⟩ : ∃ x, Hid (tokA n a now = x) := ⟨_, hid rfl⟩
  obtain ⟨t0, t5, t6, t7, t8⟩ := tok_bd hn0 hn5 ha h0
  rw [hTN.out] at t0 t5
  rw [hTA.out] at t6 t7 t8
  try rw [hTN.out]
  try rw [hTA.out]
  have q0 := Blk.new w 28 (recA p s n a r)
  have q1 := q0.alloc (.cells #[.int .i64 0, .string ⟨#[]⟩, .slice none 0 0, .int .u32 0, .int .u32 0, .int .u32 0, .int .u32 0, .int .u32 0, .int .u32 0, .int .u32 0, .int .u32 0, .int .u32 0, .int .u32 0, .int .u32 0, .int .u32 0, .int .u32 0, .int .u32 0, .int .u32 0, .int .u32 0, .slice none 0 0, .int .i64 0, .int .i64 0, .int .i64 0] 28)
  have z1 := Blk.new (w.alloc (.cells (recA p s n a r) 28)) 28 #[.int .i64 0, .string ⟨#[]⟩, .slice none 0 0, .int .u32 0, .int .u32 0, .int .u32 0, .int .u32 0, .int .u32 0, .int .u32 0, .int .u32 0, .int .u32 0, .int .u32 0, .int .u32 0, .int .u32 0, .int .u32 0, .int .u32 0, .int .u32 0, .int .u32 0, .int .u32 0, .slice none 0 0, .int .i64 0, .int .i64 0, .int .i64 0]
  rw [World.size_alloc] at z1
  have b0 := step_trans (step_alloc w (.cells (recA p s n a r) 28)) (step_alloc _ (.cells #[.int .i64 0, .string ⟨#[]⟩, .slice none 0 0, .int .u32 0, .int .u32 0, .int .u32 0, .int .u32 0, .int .u32 0, .int .u32 0, .int .u32 0, .int .u32 0, .int .u32 0, .int .u32 0, .int .u32 0, .int .u32 0, .int .u32 0, .int .u32 0, .int .u32 0, .int .u32 0, .slice none 0 0, .int .i64 0, .int .i64 0, .int .i64 0] 28))
  go_enter Try.func22, Try.ntmps22
  go_wp2_with (refine wpList_load_blk rfl _ (.tmp 2) rfl _ rfl _ _ _ q1 Try.underlying28 rfl size_rec ?_)
  generalize World.alloc _ _ = W at *
  refine (rtokens_any p s n a r now hn0 hn5 ha ha1 h0 h1 _).mono ?_
  rintro e w2 ⟨rfl, b1⟩
  have q3 := q1.step b1
  have z3 := z1.step b1
  have B2 := step_trans b0 b1
  rw [hTN.out, hTA.out]
  have hlt := z3.lt
  clear q0 q1 z1 b0 b1
  obtain rfl : TN = 0 := by rw [← hTN.out, hz]
  go_wp2_with (refine wpList_store_blk rfl _ (.tmp 4) _ rfl _ rfl _ rfl (by simp [recA, Value.oneCell']) _ z3 rfl size_rec ?_; intro w5 g5 c5)
  exact bodyPost_ret (results_blk_tmp rfl rfl c5 Try.underlying28 rfl size_rec) rfl ⟨rfl, below_of_grown B2 g5 B2.size (by omega)⟩
set_option maxRecDepth 100000 in
set_option maxHeartbeats 8000000 in
theorem rcharge_some (p : Int) (s : ByteArray) (n a r now : Int) (hn0 : 0 ≤ n) (hn5 : n ≤ 5) (ha : 0 ≤ a) (ha1 : a < 9223372036854775808) (h0 : 0 ≤ now) (h1 : now < 9223372036854775808) (hz : tokN n a now ≠ 0) (w : World) :
    Calls Try.prog 22 #[.agg (recA p s n a r), .int .i64 now] w fun e w' => e = .returned (.tuple #[.agg (recA p s (tokN n a now - 1) (tokA n a now) r), .bool true]) ∧ Below w.heap.size w w' := by
  obtain ⟨TN, hTN⟩ : ∃ x, Hid (tokN n a now = x) := ⟨_, hid rfl⟩
  obtain ⟨TA, hTA⟩ : ∃ x, Hid (tokA n a now = x) := ⟨_, hid rfl⟩
  obtain ⟨t0, t5, t6, t7, t8⟩ := tok_bd hn0 hn5 ha h0
  rw [hTN.out] at t0 t5
  rw [hTA.out] at t6 t7 t8
  try rw [hTN.out]
  try rw [hTA.out]
  have q0 := Blk.new w 28 (recA p s n a r)
  have q1 := q0.alloc (.cells #[.int .i64 0, .string ⟨#[]⟩, .slice none 0 0, .int .u32 0, .int .u32 0, .int .u32 0, .int .u32 0, .int .u32 0, .int .u32 0, .int .u32 0, .int .u32 0, .int .u32 0, .int .u32 0, .int .u32 0, .int .u32 0, .int .u32 0, .int .u32 0, .int .u32 0, .int .u32 0, .slice none 0 0, .int .i64 0, .int .i64 0, .int .i64 0] 28)
  have z1 := Blk.new (w.alloc (.cells (recA p s n a r) 28)) 28 #[.int .i64 0, .string ⟨#[]⟩, .slice none 0 0, .int .u32 0, .int .u32 0, .int .u32 0, .int .u32 0, .int .u32 0, .int .u32 0, .int .u32 0, .int .u32 0, .int .u32 0, .int .u32 0, .int .u32 0, .int .u32 0, .int .u32 0, .int .u32 0, .int .u32 0, .int .u32 0, .slice none 0 0, .int .i64 0, .int .i64 0, .int .i64 0]
  rw [World.size_alloc] at z1
  have b0 := step_trans (step_alloc w (.cells (recA p s n a r) 28)) (step_alloc _ (.cells #[.int .i64 0, .string ⟨#[]⟩, .slice none 0 0, .int .u32 0, .int .u32 0, .int .u32 0, .int .u32 0, .int .u32 0, .int .u32 0, .int .u32 0, .int .u32 0, .int .u32 0, .int .u32 0, .int .u32 0, .int .u32 0, .int .u32 0, .int .u32 0, .int .u32 0, .int .u32 0, .slice none 0 0, .int .i64 0, .int .i64 0, .int .i64 0] 28))
  go_enter Try.func22, Try.ntmps22
  go_wp2_with (refine wpList_load_blk rfl _ (.tmp 2) rfl _ rfl _ _ _ q1 Try.underlying28 rfl size_rec ?_)
  generalize World.alloc _ _ = W at *
  refine (rtokens_any p s n a r now hn0 hn5 ha ha1 h0 h1 _).mono ?_
  rintro e w2 ⟨rfl, b1⟩
  have q3 := q1.step b1
  have z3 := z1.step b1
  have B2 := step_trans b0 b1
  rw [hTN.out, hTA.out]
  have hlt := z3.lt
  clear q0 q1 z1 b0 b1
  have hne : ¬ TN = 0 := by rw [← hTN.out]; exact hz
  have hne2 : (TN == 0) = false := by simpa using hne
  obtain ⟨g, hg⟩ : ∃ g, g = w.heap.size := ⟨_, rfl⟩
  rw [← hg] at q3 z3 B2 hlt ⊢
  have HG := hid hg
  clear hz hg
  have k20 := q3.cell (k := 20) rfl
  have k21 := q3.cell (k := 21) rfl
  have f20 := q3.frozen 20
  have f21 := q3.frozen 21
  have q4 := (q3.set 20 (.int .i64 (TN - 1)) (c' := recA p s (TN - 1) a r) rfl).set 21 (.int .i64 TA) (c' := recA p s (TN - 1) TA r) rfl
  have z4 := (z3.far (a := ⟨g, 20, none⟩) (.int .i64 (TN - 1)) (by simp)).far (a := ⟨g, 21, none⟩) (.int .i64 TA) (by simp)
  have B4 := (B2.setCell (p := ⟨g, 20, none⟩) (Nat.le_refl _) (.int .i64 (TN - 1))).setCell (p := ⟨g, 21, none⟩) (Nat.le_refl _) (.int .i64 TA)
  have hs := q3.lt
  clear q3 z3 B2
  go_wp2_with (first | (refine wpList_load_blk rfl _ (.tmp 2) rfl _ rfl _ _ _ q4 Try.underlying28 rfl size_rec ?_) | (refine wpList_store_blk rfl _ (.tmp 4) _ rfl _ rfl _ rfl (by simp [recA, Value.oneCell']) _ z4 rfl size_rec ?_; intro w5 g5 c5))
  obtain rfl := HG.out
  exact bodyPost_ret (results_blk_tmp rfl rfl c5 Try.underlying28 rfl size_rec) rfl ⟨rfl, below_of_grown B4 g5 (by simp; omega) (by omega)⟩
set_option maxRecDepth 100000 in
set_option maxHeartbeats 8000000 in
theorem rrefund_any (p : Int) (s : ByteArray) (n a r now : Int) (hn0 : 0 ≤ n) (hn5 : n ≤ 5) (ha : 0 ≤ a) (ha1 : a < 9223372036854775808) (h0 : 0 ≤ now) (h1 : now < 9223372036854775808) (w : World) :
    Calls Try.prog 25 #[.agg (recA p s n a r), .int .i64 now] w fun e w' => e = .returned (.agg (recA p s (min (tokN n a now + 1) 5) (tokA n a now) r)) ∧ Below w.heap.size w w' := by
  obtain ⟨TN, hTN⟩ : ∃ x, Hid (tokN n a now = x) := ⟨_, hid rfl⟩
  obtain ⟨TA, hTA⟩ : ∃ x, Hid (tokA n a now = x) := ⟨_, hid rfl⟩
  obtain ⟨t0, t5, t6, t7, t8⟩ := tok_bd hn0 hn5 ha h0
  rw [hTN.out] at t0 t5
  rw [hTA.out] at t6 t7 t8
  try rw [hTN.out]
  try rw [hTA.out]
  have q0 := Blk.new w 28 (recA p s n a r)
  have q1 := q0.alloc (.cells #[.int .i64 0, .string ⟨#[]⟩, .slice none 0 0, .int .u32 0, .int .u32 0, .int .u32 0, .int .u32 0, .int .u32 0, .int .u32 0, .int .u32 0, .int .u32 0, .int .u32 0, .int .u32 0, .int .u32 0, .int .u32 0, .int .u32 0, .int .u32 0, .int .u32 0, .int .u32 0, .slice none 0 0, .int .i64 0, .int .i64 0, .int .i64 0] 28)
  have z1 := Blk.new (w.alloc (.cells (recA p s n a r) 28)) 28 #[.int .i64 0, .string ⟨#[]⟩, .slice none 0 0, .int .u32 0, .int .u32 0, .int .u32 0, .int .u32 0, .int .u32 0, .int .u32 0, .int .u32 0, .int .u32 0, .int .u32 0, .int .u32 0, .int .u32 0, .int .u32 0, .int .u32 0, .int .u32 0, .int .u32 0, .int .u32 0, .slice none 0 0, .int .i64 0, .int .i64 0, .int .i64 0]
  rw [World.size_alloc] at z1
  have b0 := step_trans (step_alloc w (.cells (recA p s n a r) 28)) (step_alloc _ (.cells #[.int .i64 0, .string ⟨#[]⟩, .slice none 0 0, .int .u32 0, .int .u32 0, .int .u32 0, .int .u32 0, .int .u32 0, .int .u32 0, .int .u32 0, .int .u32 0, .int .u32 0, .int .u32 0, .int .u32 0, .int .u32 0, .int .u32 0, .int .u32 0, .int .u32 0, .int .u32 0, .slice none 0 0, .int .i64 0, .int .i64 0, .int .i64 0] 28))
  go_enter Try.func25, Try.ntmps25
  go_wp2_with (refine wpList_load_blk rfl _ (.tmp 2) rfl _ rfl _ _ _ q1 Try.underlying28 rfl size_rec ?_)
  generalize World.alloc _ _ = W at *
  refine (rtokens_any p s n a r now hn0 hn5 ha ha1 h0 h1 _).mono ?_
  rintro e w2 ⟨rfl, b1⟩
  have q3 := q1.step b1
  have z3 := z1.step b1
  have B2 := step_trans b0 b1
  rw [hTN.out, hTA.out]
  have hlt := z3.lt
  clear q0 q1 z1 b0 b1
  obtain ⟨g, hg⟩ : ∃ g, g = w.heap.size := ⟨_, rfl⟩
  rw [← hg] at q3 z3 B2 hlt ⊢
  have HG := hid hg
  clear hg
  have k20 := q3.cell (k := 20) rfl
  have k21 := q3.cell (k := 21) rfl
  have f20 := q3.frozen 20
  have f21 := q3.frozen 21
  have hs := q3.lt
  have hm : (5 < TN + 1 ∧ min (TN + 1) 5 = 5) ∨ (TN + 1 ≤ 5 ∧ min (TN + 1) 5 = TN + 1) := by omega
  rcases hm with ⟨hm1, hm2⟩ | ⟨hm1, hm2⟩
  · have HM := hid hm2
    have q4 := (q3.set 20 (.int .i64 5) (c' := recA p s 5 a r) rfl).set 21 (.int .i64 TA) (c' := recA p s 5 TA r) rfl
    have z4 := (z3.far (a := ⟨g, 20, none⟩) (.int .i64 5) (by simp)).far (a := ⟨g, 21, none⟩) (.int .i64 TA) (by simp)
    have B4 := (B2.setCell (p := ⟨g, 20, none⟩) (Nat.le_refl _) (.int .i64 5)).setCell (p := ⟨g, 21, none⟩) (Nat.le_refl _) (.int .i64 TA)
    clear q3 z3 B2 hm2
    go_wp2_with (first | (refine wpList_load_blk rfl _ (.tmp 2) rfl _ rfl _ _ _ q4 Try.underlying28 rfl size_rec ?_) | (refine wpList_store_blk rfl _ (.tmp 4) _ rfl _ rfl _ rfl (by simp [recA, Value.oneCell']) _ z4 rfl size_rec ?_; intro w5 g5 c5))
    obtain rfl := HG.out
    exact bodyPost_ret (results_blk rfl rfl c5 Try.underlying28 rfl size_rec) rfl ⟨by rw [HM.out], below_of_grown B4 g5 (by simp; omega) (by omega)⟩
  · have HM := hid hm2
    have q4 := (q3.set 20 (.int .i64 (TN + 1)) (c' := recA p s (TN + 1) a r) rfl).set 21 (.int .i64 TA) (c' := recA p s (TN + 1) TA r) rfl
    have z4 := (z3.far (a := ⟨g, 20, none⟩) (.int .i64 (TN + 1)) (by simp)).far (a := ⟨g, 21, none⟩) (.int .i64 TA) (by simp)
    have B4 := (B2.setCell (p := ⟨g, 20, none⟩) (Nat.le_refl _) (.int .i64 (TN + 1))).setCell (p := ⟨g, 21, none⟩) (Nat.le_refl _) (.int .i64 TA)
    clear q3 z3 B2 hm2
    go_wp2_with (first | (refine wpList_load_blk rfl _ (.tmp 2) rfl _ rfl _ _ _ q4 Try.underlying28 rfl size_rec ?_) | (refine wpList_store_blk rfl _ (.tmp 4) _ rfl _ rfl _ rfl (by simp [recA, Value.oneCell']) _ z4 rfl size_rec ?_; intro w5 g5 c5))
    obtain rfl := HG.out
    exact bodyPost_ret (results_blk rfl rfl c5 Try.underlying28 rfl size_rec) rfl ⟨by rw [HM.out], below_of_grown B4 g5 (by simp; omega) (by omega)⟩
end Go.Proofs.Ytffoekgopooeaaa
