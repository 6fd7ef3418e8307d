/- guard: buckets: of, by, with, Tokens, Charge, Refund, at records without bytes; the reference's. -/
import Derived.Test.YtffoekgopooeaaaSReg
import Derived.Test.YtffoekgopooeaaaSMem
namespace Go.Proofs.Ytffoekgopooeaaa
set_option linter.unusedVariables false
set_option linter.unusedSimpArgs false
open Go.ChangeShapes Go.WideShapes Go.ChangeAt Go.RowKit
/-- A record without salt, seal, numbers. -/
def recA (p : Int) (s : ByteArray) (n a r : Int) : Array Value := #[.int .i64 p, .string s, .slice none 0 0, .int .u32 0, .int .u32 0, .int .u32 0, .int .u32 0, .int .u32 0, .int .u32 0, .int .u32 0, .int .u32 0, .int .u32 0, .int .u32 0, .int .u32 0, .int .u32 0, .int .u32 0, .int .u32 0, .int .u32 0, .int .u32 0, .slice none 0 0, .int .i64 n, .int .i64 a, .int .i64 r]
abbrev buckA (n a : Int) : Array Value := #[.int .i64 n, .int .i64 a]
theorem size_buck : (Try.prog.info? 59).map (·.size) = some 2 := by kernel_rfl
theorem size_rec : (Try.prog.info? 28).map (·.size) = some 23 := by kernel_rfl
theorem results_blk_tmp {P : Program} {fn : Func} {p q : Tmp} {ty : TypeId} (h : fn.results = #[.cell p ty, .tmp q]) {tmps : Array Value} {w : World} {g : Nat} {t : TypeId} {c : Array Value} {d : TypeDesc}
    (hp : tmps.getD p undef = .pointer (some ⟨g, 0, none⟩)) (hg : Blk w g t c)
    (hu : P.underlying ty = some d) (hd : (match d with | .struct _ | .array _ _ => true | _ => false) = true) (hi : (P.info? ty).map (·.size) = some c.size) :
    (results fn tmps).run P w = .ok (.tuple #[.agg c, tmps.getD q undef]) w := by
  have hp' : tmps[p]?.getD undef = .pointer (some ⟨g, 0, none⟩) := by simpa using hp
  simp [results, h, hp', asAddr, run_loadVar_row w g t ty c (0, 0) d hg hu hd hi]
/-- What a bucket holds by a tick, and the tick that it is reckoned at. -/
def tokN (n a now : Int) : Int := if now ≤ a then n else min (n + (now - a) / 10) 5
def tokA (n a now : Int) : Int := if now ≤ a then a else if min (n + (now - a) / 10) 5 = 5 then now else a + (now - a) / 10 * 10
theorem tok_ways (n a now : Int) : (now ≤ a ∧ tokN n a now = n ∧ tokA n a now = a) ∨ (a < now ∧ 5 ≤ n + (now - a) / 10 ∧ tokN n a now = 5 ∧ tokA n a now = now) ∨ (a < now ∧ n + (now - a) / 10 < 5 ∧ tokN n a now = n + (now - a) / 10 ∧ tokA n a now = a + (now - a) / 10 * 10) := by
  unfold tokN tokA
  by_cases h : now ≤ a
  · simp [h]
  · by_cases h5 : 5 ≤ n + (now - a) / 10
    · have : min (n + (now - a) / 10) 5 = 5 := by omega
      refine .inr (.inl ⟨by omega, h5, ?_, ?_⟩) <;> simp only [if_neg h, this, if_true]
    · have : min (n + (now - a) / 10) 5 = n + (now - a) / 10 := by omega
      have h6 : n + (now - a) / 10 ≠ 5 := by omega
      refine .inr (.inr ⟨by omega, by omega, ?_, ?_⟩) <;> simp only [if_neg h, this, if_neg h6]
theorem tok_bd {n a now : Int} (h0 : 0 ≤ n) (h5 : n ≤ 5) (ha : 0 ≤ a) (hn : 0 ≤ now) : 0 ≤ tokN n a now ∧ tokN n a now ≤ 5 ∧ 0 ≤ tokA n a now ∧ a ≤ tokA n a now ∧ (tokA n a now ≤ now ∨ tokA n a now = a) := by
  rcases tok_ways n a now with ⟨h1, h2, h3⟩ | ⟨h1, h2, h3, h4⟩ | ⟨h1, h2, h3, h4⟩ <;> omega
set_option maxHeartbeats 1000000 in
theorem of_bucket (p : Int) (s : ByteArray) (n a r : Int) (w : World) :
    Calls Try.prog 35 #[.agg (recA p s n a r)] w fun e w' => e = .returned (.agg (buckA n a)) ∧ Below w.heap.size w w' := by
  unfold recA
  go_enter Try.func35, Try.ntmps35
  go_wp2
  have c1 := Blk.new (w.alloc (.cells (recA p s n a r) 28)) 59 (buckA n a)
  rw [World.size_alloc] at c1
  exact bodyPost_ret (results_blk rfl rfl c1 Try.underlying59 rfl size_buck) rfl ⟨rfl, step_trans (step_alloc _ _) (step_alloc _ _)⟩
set_option maxHeartbeats 4000000 in
theorem by_any (n a now : Int) (hn0 : 0 ≤ n) (hn5 : n ≤ 5) (ha : 0 ≤ a) (ha1 : a < 9223372036854775808) (h0 : 0 ≤ now) (h1 : now < 9223372036854775808) (w : World) :
    Calls Try.prog 36 #[.agg (buckA n a), .int .i64 now] w fun e w' => e = .returned (.agg (buckA (tokN n a now) (tokA n a now))) ∧ Below w.heap.size w w' := by
  have c1 : ∀ x y z v : Int, Blk ((w.alloc (.cells (buckA x y) 59)).alloc (.cells (buckA z v) 59)) (w.heap.size + 1) 59 (buckA z v) := fun x y z v => by
    have := Blk.new (w.alloc (.cells (buckA x y) 59)) 59 (buckA z v)
    rwa [World.size_alloc] at this
  have hc : (decide (now ≤ a) = true ∧ tokN n a now = n ∧ tokA n a now = a) ∨ (decide (now ≤ a) = false ∧ (5 < n + (now - a) / 10 ∨ n + (now - a) / 10 = 5) ∧ tokN n a now = 5 ∧ tokA n a now = now) ∨ (decide (now ≤ a) = false ∧ n + (now - a) / 10 < 5 ∧ tokN n a now = n + (now - a) / 10 ∧ tokA n a now = a + (now - a) / 10 * 10) := by
    rcases tok_ways n a now with ⟨h1, h2, h3⟩ | ⟨h1, h2, h3, h4⟩ | ⟨h1, h2, h3, h4⟩
    · exact .inl ⟨by simpa using h1, h2, h3⟩
    · exact .inr (.inl ⟨by simpa using h1, by omega, h3, h4⟩)
    · exact .inr (.inr ⟨by simpa using h1, by omega, h3, h4⟩)
  have hq : a < now → (now - a).tdiv 10 = (now - a) / 10 := fun h => Int.tdiv_eq_ediv_of_nonneg (by omega)
  rcases hc with ⟨d1, e1, e2⟩ | ⟨d1, d2 | d2, e1, e2⟩ | ⟨d1, d2, e1, e2⟩
  · rw [e1, e2]
    clear e1 e2
    go_enter Try.func36, Try.ntmps36
    go_wp2
    exact bodyPost_ret (results_blk rfl rfl (c1 _ _ _ _) Try.underlying59 rfl size_buck) rfl ⟨rfl, step_trans (step_alloc _ _) (step_alloc _ _)⟩
  · rw [e1, e2]
    clear e1 e2
    have hl : ¬ now ≤ a := by simpa using d1
    have hq := hq (by omega)
    have d3 : ¬ n + (now - a) / 10 ≤ 5 := by omega
    have d4 : ¬ n + (now - a) / 10 < 5 := by omega
    go_enter Try.func36, Try.ntmps36
    go_wp2
    all_goals first | (exact bodyPost_ret (results_blk rfl rfl (c1 _ _ _ _) Try.underlying59 rfl size_buck) rfl ⟨rfl, step_trans (step_alloc _ _) (step_alloc _ _)⟩) | (exfalso; omega)
  · rw [e1, e2]
    clear e1 e2
    have hl : ¬ now ≤ a := by simpa using d1
    have hq := hq (by omega)
    have d3 : ¬ 5 < n + (now - a) / 10 := by omega
    have d4 : ((n + (now - a) / 10) == 5) = true := by simpa using d2
    go_enter Try.func36, Try.ntmps36
    go_wp2
    all_goals first | (exact bodyPost_ret (results_blk rfl rfl (c1 _ _ _ _) Try.underlying59 rfl size_buck) rfl ⟨rfl, step_trans (step_alloc _ _) (step_alloc _ _)⟩) | (rw [d2]; exact bodyPost_ret (results_blk rfl rfl (c1 _ _ _ _) Try.underlying59 rfl size_buck) rfl ⟨rfl, step_trans (step_alloc _ _) (step_alloc _ _)⟩) | (exfalso; omega)
  · rw [e1, e2]
    clear e1 e2
    have hl : ¬ now ≤ a := by simpa using d1
    have hq := hq (by omega)
    have d3 : ¬ n + (now - a) / 10 = 5 := by omega
    have d4 : ((n + (now - a) / 10) == 5) = false := by simpa using d3
    go_enter Try.func36, Try.ntmps36
    go_wp2
    all_goals first | (exact bodyPost_ret (results_blk rfl rfl (c1 _ _ _ _) Try.underlying59 rfl size_buck) rfl ⟨rfl, step_trans (step_alloc _ _) (step_alloc _ _)⟩) | (exfalso; omega)
set_option maxRecDepth 100000 in
theorem clone_nil (w : World) : Calls Try.prog 49 #[.slice none 0 0] w fun e w' => e = .returned (.slice none 0 0) ∧ Below w.heap.size w w' := by
  have hnil : ∀ w, (binOp BinOp.eql 23 (.slice none 0 0) (.slice none 0 0)).run Try.prog w = .ok (.bool true) w := fun w => by kernel_rfl
  go_enter Try.func49, Try.ntmps49
  go_wp2
  go_ret
  exact ⟨rfl, Below.refl _ _⟩
set_option maxRecDepth 100000 in
set_option maxHeartbeats 4000000 in
theorem with_any (p : Int) (s : ByteArray) (n a0 r m b : Int) (w : World) :
    Calls Try.prog 37 #[.agg (recA p s n a0 r), .agg (buckA m b)] w fun e w' => e = .returned (.agg (recA p s m b r)) ∧ Below w.heap.size w w' := by
  unfold recA
  go_enter Try.func37, Try.ntmps37
  go_wp2
  go_region
  go_wp2_with fail
  obtain ⟨W, hW⟩ : ∃ W, W = (((w.alloc (.cells #[.int .i64 p, .string s, .slice none 0 0, .int .u32 0, .int .u32 0, .int .u32 0, .int .u32 0, .int .u32 0, .int .u32 0, .int .u32 0, .int .u32 0, .int .u32 0, .int .u32 0, .int .u32 0, .int .u32 0, .int .u32 0, .int .u32 0, .int .u32 0, .int .u32 0, .slice none 0 0, .int .i64 m, .int .i64 b, .int .i64 r] 28)).alloc (.cells (buckA m b) 59)).alloc (.cells #[.int .i64 0, .string ⟨#[]⟩, .slice none 0 0, .int .u32 0, .int .u32 0, .int .u32 0, .int .u32 0, .int .u32 0, .int .u32 0, .int .u32 0, .int .u32 0, .int .u32 0, .int .u32 0, .int .u32 0, .int .u32 0, .int .u32 0, .int .u32 0, .int .u32 0, .int .u32 0, .slice none 0 0, .int .i64 0, .int .i64 0, .int .i64 0] 28)).drew := ⟨_, rfl⟩
  rw [← hW]
  have c1 : Blk W w.heap.size 28 #[.int .i64 p, .string s, .slice none 0 0, .int .u32 0, .int .u32 0, .int .u32 0, .int .u32 0, .int .u32 0, .int .u32 0, .int .u32 0, .int .u32 0, .int .u32 0, .int .u32 0, .int .u32 0, .int .u32 0, .int .u32 0, .int .u32 0, .int .u32 0, .int .u32 0, .slice none 0 0, .int .i64 m, .int .i64 b, .int .i64 r] := by rw [hW]; exact ((Blk.new w 28 #[.int .i64 p, .string s, .slice none 0 0, .int .u32 0, .int .u32 0, .int .u32 0, .int .u32 0, .int .u32 0, .int .u32 0, .int .u32 0, .int .u32 0, .int .u32 0, .int .u32 0, .int .u32 0, .int .u32 0, .int .u32 0, .int .u32 0, .int .u32 0, .int .u32 0, .slice none 0 0, .int .i64 m, .int .i64 b, .int .i64 r]).alloc _).alloc _
  have c3 : Blk W (w.heap.size + 1 + 1) 28 #[.int .i64 0, .string ⟨#[]⟩, .slice none 0 0, .int .u32 0, .int .u32 0, .int .u32 0, .int .u32 0, .int .u32 0, .int .u32 0, .int .u32 0, .int .u32 0, .int .u32 0, .int .u32 0, .int .u32 0, .int .u32 0, .int .u32 0, .int .u32 0, .int .u32 0, .int .u32 0, .slice none 0 0, .int .i64 0, .int .i64 0, .int .i64 0] := by
    have := Blk.new ((w.alloc (.cells #[.int .i64 p, .string s, .slice none 0 0, .int .u32 0, .int .u32 0, .int .u32 0, .int .u32 0, .int .u32 0, .int .u32 0, .int .u32 0, .int .u32 0, .int .u32 0, .int .u32 0, .int .u32 0, .int .u32 0, .int .u32 0, .int .u32 0, .int .u32 0, .int .u32 0, .slice none 0 0, .int .i64 m, .int .i64 b, .int .i64 r] 28)).alloc (.cells (buckA m b) 59)) 28 #[.int .i64 0, .string ⟨#[]⟩, .slice none 0 0, .int .u32 0, .int .u32 0, .int .u32 0, .int .u32 0, .int .u32 0, .int .u32 0, .int .u32 0, .int .u32 0, .int .u32 0, .int .u32 0, .int .u32 0, .int .u32 0, .int .u32 0, .int .u32 0, .int .u32 0, .int .u32 0, .slice none 0 0, .int .i64 0, .int .i64 0, .int .i64 0]
    rw [World.size_alloc, World.size_alloc] at this
    rw [hW]; exact this
  have bW : Below w.heap.size w W := by rw [hW]; exact (step_trans (step_trans (step_alloc _ _) (step_alloc _ _)) (step_alloc _ _)).drew
  clear hW
  obtain ⟨g, hg⟩ : ∃ g, g = w.heap.size := ⟨_, rfl⟩
  rw [← hg] at c1 c3 bW ⊢
  have HG := hid hg
  clear hg
  refine wp_region_stT [StK.eq (.pointer (some ⟨g, 2, none⟩)), StK.eq (.slice none 0 0), StK.eq (.slice none 0 0), StK.eq (.pointer (some ⟨g, 19, none⟩)), StK.eq (.slice none 0 0), StK.eq (.slice none 0 0), StK.eq (.pointer (some ⟨g, 2, none⟩))] 7 20 rfl (by kernel_rfl) (by kernel_rfl) ⟨?_, ?_, ?_, ?_, ?_, ?_, ?_, trivial⟩ ?_
  · intro a w hb hd
    have e2 : a.eval (.tmp 2) = .pointer (some ⟨g, 0, none⟩) := hd 2 (by decide)
    exact hop_runK (F := (StK.eq (.pointer (some ⟨g, 2, none⟩))).F) (wanted_none rfl) _ (by unfold execOp; simp only [e2]; kernel_rfl) rfl
  · intro a w hb hd
    have e11 : a.eval (.tmp 11) = .pointer (some ⟨g, 2, none⟩) := hd 11 (by decide)
    exact hop_runK (F := (StK.eq (.slice none 0 0)).F) (wanted_none rfl) _ (run_ldCell _ _ rfl e11 Try.underlying23 rfl ((c1.step hb).cell (k := 2) rfl)) rfl
  · intro a w hb hd
    have e12 : a.eval (.tmp 12) = .slice none 0 0 := hd 12 (by decide)
    exact hop_callK (F := (StK.eq (.slice none 0 0)).F) (wanted_none rfl) hb.size rfl #[a.eval (.tmp 12)] (by first | (simp only [List.map_toArray, List.map_cons, List.map_nil]; done) | (simp only [List.map_toArray, List.map_cons, List.map_nil]; rfl)) (enters_of Try.func49 (by kernel_rfl) rfl) (by rw [e12]; exact call_eq (clone_nil w))
  · intro a w hb hd
    have e2 : a.eval (.tmp 2) = .pointer (some ⟨g, 0, none⟩) := hd 2 (by decide)
    exact hop_runK (F := (StK.eq (.pointer (some ⟨g, 19, none⟩))).F) (wanted_none rfl) _ (by unfold execOp; simp only [e2]; kernel_rfl) rfl
  · intro a w hb hd
    have e14 : a.eval (.tmp 14) = .pointer (some ⟨g, 19, none⟩) := hd 14 (by decide)
    exact hop_runK (F := (StK.eq (.slice none 0 0)).F) (wanted_none rfl) _ (run_ldCell _ _ rfl e14 Try.underlying23 rfl ((c1.step hb).cell (k := 19) rfl)) rfl
  · intro a w hb hd
    have e15 : a.eval (.tmp 15) = .slice none 0 0 := hd 15 (by decide)
    exact hop_callK (F := (StK.eq (.slice none 0 0)).F) (wanted_none rfl) hb.size rfl #[a.eval (.tmp 15)] (by first | (simp only [List.map_toArray, List.map_cons, List.map_nil]; done) | (simp only [List.map_toArray, List.map_cons, List.map_nil]; rfl)) (enters_of Try.func49 (by kernel_rfl) rfl) (by rw [e15]; exact call_eq (clone_nil w))
  · intro a w hb hd
    have e2 : a.eval (.tmp 2) = .pointer (some ⟨g, 0, none⟩) := hd 2 (by decide)
    exact hop_runK (F := (StK.eq (.pointer (some ⟨g, 2, none⟩))).F) (wanted_none rfl) _ (by unfold execOp; simp only [e2]; kernel_rfl) rfl
  intro pwz wz bwz hp
  obtain ⟨q0, q1, q2, q3, q4, q5, q6, -⟩ := hp
  have e0 : pwz 0 = .pointer (some ⟨g, 2, none⟩) := q0 (by decide)
  have e1 : pwz 1 = .slice none 0 0 := q1 (by decide)
  have e2 : pwz 2 = .slice none 0 0 := q2 (by decide)
  have e3 : pwz 3 = .pointer (some ⟨g, 19, none⟩) := q3 (by decide)
  have e4 : pwz 4 = .slice none 0 0 := q4 (by decide)
  have e5 : pwz 5 = .slice none 0 0 := q5 (by decide)
  have e6 : pwz 6 = .pointer (some ⟨g, 2, none⟩) := q6 (by decide)
  simp only [List.take_succ_cons, List.take_zero, List.drop_succ_cons, List.drop_zero, layAll, Act.put, List.setIfInBounds_toArray, List.set_cons_zero, List.set_cons_succ, Nat.zero_add, Nat.reduceAdd, e0, e1, e2, e3, e4, e5, e6]
  clear q0 e0 q1 e1 q2 e2 q3 e3 q4 e4 q5 e5 q6 e6
  have c1z := c1.step bwz
  have c3z := c3.step bwz
  have hz := bwz.size
  have h3 := c3z.lt
  have bz := bW.trans (bwz.mono (Nat.le_of_lt c1.lt))
  clear c1 c3 bW bwz
  have k2 := c1z.cell (k := 2) rfl
  have f2 := c1z.frozen 2
  have k19 := c1z.cell (k := 19) rfl
  have f19 := c1z.frozen 19
  have c1w := (c1z.set 2 (.slice none 0 0) (c' := #[.int .i64 p, .string s, .slice none 0 0, .int .u32 0, .int .u32 0, .int .u32 0, .int .u32 0, .int .u32 0, .int .u32 0, .int .u32 0, .int .u32 0, .int .u32 0, .int .u32 0, .int .u32 0, .int .u32 0, .int .u32 0, .int .u32 0, .int .u32 0, .int .u32 0, .slice none 0 0, .int .i64 m, .int .i64 b, .int .i64 r]) rfl).set 19 (.slice none 0 0) (c' := #[.int .i64 p, .string s, .slice none 0 0, .int .u32 0, .int .u32 0, .int .u32 0, .int .u32 0, .int .u32 0, .int .u32 0, .int .u32 0, .int .u32 0, .int .u32 0, .int .u32 0, .int .u32 0, .int .u32 0, .int .u32 0, .int .u32 0, .int .u32 0, .int .u32 0, .slice none 0 0, .int .i64 m, .int .i64 b, .int .i64 r]) rfl
  have c3w := (c3z.far (a := ⟨g, 2, none⟩) (.slice none 0 0) (by simp; omega)).far (a := ⟨g, 19, none⟩) (.slice none 0 0) (by simp; omega)
  have bw := (bz.setCell (p := ⟨g, 2, none⟩) (Nat.le_refl _) (.slice none 0 0)).setCell (p := ⟨g, 19, none⟩) (Nat.le_refl _) (.slice none 0 0)
  go_wp2_with (first | (refine wpList_load_blk rfl _ (.tmp 2) rfl _ rfl _ _ _ c1w Try.underlying28 rfl size_rec ?_) | (refine wpList_store_blk rfl _ (.tmp 4) _ rfl _ rfl _ rfl (by simp [Value.oneCell']) _ c3w rfl size_rec ?_; intro w5 g5 c5))
  obtain rfl := HG.out
  have hs := bw.size
  exact bodyPost_ret (results_blk rfl rfl c5 Try.underlying28 rfl size_rec) rfl ⟨rfl, below_of_grown bw g5 (by simpa using hs) (by omega)⟩
end Go.Proofs.Ytffoekgopooeaaa
