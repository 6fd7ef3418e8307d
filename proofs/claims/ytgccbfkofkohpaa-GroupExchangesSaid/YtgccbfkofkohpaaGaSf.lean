/- (*Sponge).Sum. -/
import Derived.Test.YtgccbfkofkohpaaMake
import Derived.Test.YtgccbfkofkohpaaMul
import Derived.Test.YtgccbfkofkohpaaGaByte
import Derived.Test.YtgccbfkofkohpaaGaBk
import Derived.Test.YtgccbfkofkohpaaGaSe
namespace Go.Proofs.Ytgccbfkofkohpaa
set_option linter.unusedVariables false
set_option maxRecDepth 20000
set_option linter.unusedSimpArgs false
open Go.ChangeShapes Go.WideShapes Go.ChangeAt Go.RowKit Go.Shelf

def wrd (s : W8) (i : Nat) : Int := match i with | 0 => s.x0 | 1 => s.x1 | 2 => s.x2 | _ => s.x3
/-- Byte k of a sum. -/
def outF (s : W8) (k : Nat) : Int := wrd s (k / 4) / ((256 ^ (k % 4) : Nat) : Int) % 256
theorem outF_bd (s : W8) (k : Nat) : 0 ≤ outF s k ∧ outF s k < 256 := by unfold outF; omega
def partF (s : W8) (k j : Nat) : Int := if j < k then outF s j else 0
def W8.one7 (s : W8) : W8 := { s with x7 := xorW s.x7 1 }
theorem ok_one7 {s : W8} (h : s.ok) : s.one7.ok := by
  obtain ⟨h0, h1, h2, h3, h4, h5, h6, h7⟩ := h
  exact ⟨h0, h1, h2, h3, h4, h5, h6, xorW_bd _ _⟩
/-- What a sponge of the words s, to which l waits, has for a sum. -/
def sumW (s : W8) (l : List UInt8) : W8 := mixW (feed s (pad16 (l ++ [128]))).1.one7
theorem ok_sumW {s : W8} (h : s.ok) (l : List UInt8) : (sumW s l).ok := ok_mixW (ok_one7 (feed_ok h _))
theorem size25 : (Try.prog.info? 138).map (·.size) = some 25 := by kernel_rfl
theorem size35 : (Try.prog.info? 61).map (·.size) = some 16 := by kernel_rfl
theorem arrS_one (s : W8) (y : Nat → Int) (h : Int) : (arrS s y h).all (·.oneCell') = true := by simp [arrS, Value.oneCell']
theorem arr16_one (y : Nat → Int) : (arr16 y).all (·.oneCell') = true := by simp [arr16, Value.oneCell']
theorem arr16_set (s : W8) {k : Nat} (hk : k < 16) : (arr16 (partF s k)).setIfInBounds k (.int .u8 (outF s k)) = arr16 (partF s (k + 1)) := by
  have : k = 0 ∨ k = 1 ∨ k = 2 ∨ k = 3 ∨ k = 4 ∨ k = 5 ∨ k = 6 ∨ k = 7 ∨ k = 8 ∨ k = 9 ∨ k = 10 ∨ k = 11 ∨ k = 12 ∨ k = 13 ∨ k = 14 ∨ k = 15 := by omega
  rcases this with rfl | rfl | rfl | rfl | rfl | rfl | rfl | rfl | rfl | rfl | rfl | rfl | rfl | rfl | rfl | rfl <;> simp [arr16, partF]
theorem blk_set16 {w : World} {g k : Nat} {t : TypeId} {s : W8} {V : Int} (hb : Blk w g t (arr16 (partF s k))) (hk : k < 16) (hv : V = outF s k) : Blk (w.setCell ⟨g, k, none⟩ (.int .u8 V)) g t (arr16 (partF s (k + 1))) := by
  subst hv
  exact hb.set k _ (arr16_set s hk)
theorem arr16_full (s : W8) : arr16 (partF s 16) = arr16 (outF s) := by simp [arr16, partF]
theorem arr16_zero (s : W8) : #[Value.int .u8 0, .int .u8 0, .int .u8 0, .int .u8 0, .int .u8 0, .int .u8 0, .int .u8 0, .int .u8 0, .int .u8 0, .int .u8 0, .int .u8 0, .int .u8 0, .int .u8 0, .int .u8 0, .int .u8 0, .int .u8 0] = arr16 (partF s 0) := by simp [arr16, partF]
theorem rd_one (x : UInt8) (w : World) : Rd (w.alloc (.cells #[Value.int .u8 (x.toNat : Int)] 5)) (some ⟨w.heap.size, 0, none⟩) [x] := Bts.rd (t := 5) (heap_alloc_new w (.cells (bvs [x]) 5))
attribute [irreducible] outF
set_option maxHeartbeats 16000000 in
set_option maxRecDepth 100000 in
theorem sum_any (p : Nat) (s : W8) (l : List UInt8) (w : World) (hS : SpAt w p s l) :
    Calls Try.prog 109 #[.pointer (some ⟨p, 0, none⟩)] w fun e w' => e = .returned (.agg (arr16 (outF (sumW s l)))) ∧ Below w.heap.size w w' := by
  have hp := hS.lt
  obtain ⟨y, hy, hyl, hb, hsok, hl16⟩ := hS
  have YL := hid hyl
  have YB := hid hy
  have OK := hid hsok
  obtain ⟨h, hh⟩ : ∃ h, l.length = h := ⟨_, rfl⟩
  rw [hh] at hb hl16
  have HH := hid hh
  clear hyl hy hsok hh
  have hbA := (hb.alloc (.cells #[Value.int .u8 0, .int .u8 0, .int .u8 0, .int .u8 0, .int .u8 0, .int .u8 0, .int .u8 0, .int .u8 0, .int .u8 0, .int .u8 0, .int .u8 0, .int .u8 0, .int .u8 0, .int .u8 0, .int .u8 0, .int .u8 0] 61)).alloc (.cells (arrS zeroW (fun _ => 0) 0) 138)
  have b1 := Blk.new w 61 #[Value.int .u8 0, .int .u8 0, .int .u8 0, .int .u8 0, .int .u8 0, .int .u8 0, .int .u8 0, .int .u8 0, .int .u8 0, .int .u8 0, .int .u8 0, .int .u8 0, .int .u8 0, .int .u8 0, .int .u8 0, .int .u8 0]
  have hb1 := hb.alloc (.cells #[Value.int .u8 0, .int .u8 0, .int .u8 0, .int .u8 0, .int .u8 0, .int .u8 0, .int .u8 0, .int .u8 0, .int .u8 0, .int .u8 0, .int .u8 0, .int .u8 0, .int .u8 0, .int .u8 0, .int .u8 0, .int .u8 0] 61)
  have n3 := heap_alloc_new (w.alloc (.cells #[Value.int .u8 0, .int .u8 0, .int .u8 0, .int .u8 0, .int .u8 0, .int .u8 0, .int .u8 0, .int .u8 0, .int .u8 0, .int .u8 0, .int .u8 0, .int .u8 0, .int .u8 0, .int .u8 0, .int .u8 0, .int .u8 0] 61)) (.cells (arrS zeroW (fun _ => 0) 0) 138)
  rw [World.size_alloc] at n3
  have b1' := b1.alloc (.cells (arrS zeroW (fun _ => 0) 0) 138)
  have bB : Below w.heap.size w ((w.alloc (.cells #[Value.int .u8 0, .int .u8 0, .int .u8 0, .int .u8 0, .int .u8 0, .int .u8 0, .int .u8 0, .int .u8 0, .int .u8 0, .int .u8 0, .int .u8 0, .int .u8 0, .int .u8 0, .int .u8 0, .int .u8 0, .int .u8 0] 61)).alloc (.cells (arrS zeroW (fun _ => 0) 0) 138)) := ((Below.refl _ _).alloc (Nat.le_refl _) _).alloc (by simp) _
  go_enter Try.func109, Try.ntmps109
  go_wp2_with (first | (refine wpList_load_blk rfl _ (.tmp 7) rfl _ rfl _ _ _ hb1 Try.underlying138 rfl size25 ?_) | (refine wpList_store_blk rfl _ (.tmp 3) _ rfl _ rfl _ rfl (arrS_one _ _ _) _ n3 rfl size25 ?_; intro w2 g2 c2))
  have S2 : SpAt w2 (w.heap.size + 1) s l := ⟨y, YB.out, YL.out, by rw [HH.out]; exact c2, OK.out, by rw [HH.out]; exact hl16⟩
  have z2 := b1'.grown g2 (by simp)
  have B2 : Below w.heap.size w w2 := below_of_grown bB g2 (by simp; omega) (by omega)
  have q2 := c2.lt
  clear hb hbA b1 hb1 n3 b1' bB g2 c2
  have bz := step_alloc w2 (.cells #[Value.int .u8 128] 5)
  refine (write_any (w.heap.size + 1) s l (some ⟨w2.heap.size, 0, none⟩) [128] 1 1 rfl (Nat.le_refl _) (by unfold maxLen; omega) (fun h => by cases h) _ (S2.of_block (bz.block _ q2)) (Src.of_rd (rd_one 128 w2) (fun b o e => by cases e; omega))).mono ?_
  rintro e w3 ⟨rfl, g3, S3⟩
  have B3 : Below w.heap.size w w3 := below_of_grown (B2.trans (bz.mono B2.size)) g3 (Nat.le_trans B2.size bz.size) (by omega)
  have z3 := (z2.alloc (.cells #[Value.int .u8 128] 5)).grown g3 (by simp)
  obtain ⟨T, hT⟩ : ∃ T, T = feed s (l ++ [128]) := ⟨_, rfl⟩
  have hmod := feed_mod s (l ++ [128])
  rw [← hT] at S3 hmod
  have q3 := S3.lt
  have S3' := S3
  obtain ⟨y3, yb3, yl3, b3, ok3, l3⟩ := S3
  obtain ⟨h3, hh3⟩ : ∃ h3, T.2.length = h3 := ⟨_, rfl⟩
  rw [hh3] at b3 l3 hmod
  obtain ⟨m, hm⟩ : ∃ m : Nat, m = (16 - (l ++ [128]).length % 16) % 16 := ⟨_, rfl⟩
  have hm15 : m ≤ 15 := by omega
  have hI : ((16 : Int) - (h3 : Int)) % 16 = (m : Int) := by rw [hm, ← hmod]; omega
  have hfin : feed T.1 (T.2 ++ List.replicate m 0) = ((feed s (pad16 (l ++ [128]))).1, []) := by
    rw [hT, ← feed_append, hm]
    exact feed_full (pad16_mod _)
  have HF := hid hfin
  have c24 : w3.cell? ⟨w.heap.size + 1, 24, none⟩ = some (.int .i64 (h3 : Int)) := b3.cell (k := 24) rfl
  have hmk := make_zeros m (by omega)
  have h30 : (0 : Int) ≤ (h3 : Int) := Int.natCast_nonneg _
  have h31 : (h3 : Int) < 16 := by omega
  have HM := hid hm
  clear hT hmod hh3 hfin b3 yb3 yl3 ok3 g3 S2 z2 bz B2 hm l3
  go_wp2_with fail
  clear hmk c24 hI
  have bz := step_alloc w3 (.cells (madeCells #[.int .u8 0] m) 5)
  refine (write_any (w.heap.size + 1) T.1 T.2 (some ⟨w3.heap.size, 0, none⟩) (List.replicate m 0) m m (by simp) (Nat.le_refl _) (by unfold maxLen; omega) (fun h => by cases h) _ (S3'.of_block (bz.block _ q3)) (Src.of_rd (rd_zeros m w3) (fun b o e => by cases e; omega))).mono ?_
  rintro e w4 ⟨rfl, g4, S4⟩
  rw [HF.out] at S4
  have B4 : Below w.heap.size w w4 := below_of_grown (B3.trans (bz.mono B3.size)) g4 (Nat.le_trans B3.size bz.size) (by omega)
  have z4 := (z3.alloc (.cells (madeCells #[.int .u8 0] m) 5)).grown g4 (by simp)
  obtain ⟨st, hst⟩ : ∃ st, st = (feed s (pad16 (l ++ [128]))).1 := ⟨_, rfl⟩
  rw [← hst] at S4
  have hsum : sumW s l = mixW st.one7 := by unfold sumW; rw [hst]
  have HS := hid hsum
  obtain ⟨y4, yb4, yl4, b4, ok4, l4⟩ := S4
  have ok7 := hid (ok_one7 ok4)
  have c7 : w4.cell? ⟨w.heap.size + 1, 7, none⟩ = some (.int .u32 st.x7) := b4.cell (k := 7) rfl
  have f7 := b4.frozen 7
  have b5 := b4.set 7 (.int .u32 (bits .xor .u32 st.x7 1)) (c' := arrS st.one7 y4 0) (by rw [xor_fold]; rfl)
  have z5 := z4.far (a := ⟨w.heap.size + 1, 7, none⟩) (.int .u32 (bits .xor .u32 st.x7 1)) (by simp)
  have B5 := B4.setCell (p := ⟨w.heap.size + 1, 7, none⟩) (by simp) (.int .u32 (bits .xor .u32 st.x7 1))
  clear hst hsum yb4 yl4 b4 ok4 l4 g4 S3' z3 bz B3 z4 B4 HF HM
  go_wp2_with (refine wpList_load_sub rfl _ (.tmp 23) rfl _ _ rfl _ _ b5 (arrW st.one7) (arrS_sub _ _ _) _ Try.underlying25 rfl (sizeW _) ?_)
  generalize World.setCell _ _ _ = w5 at *
  refine (mix_any _ ok7.out _).mono ?_
  rintro e w6 ⟨rfl, bM⟩
  rw [← HS.out]
  have okS := hid (ok_sumW OK.out l)
  obtain ⟨F, hF⟩ : ∃ F, F = sumW s l := ⟨_, rfl⟩
  rw [← hF] at okS ⊢
  have HF := hid hF
  have b6 := b5.step bM
  have z6 := z5.step bM
  have B6 := B5.trans (bM.mono B5.size)
  clear hF b5 z5 B5 bM c7 f7
  go_wp2_with (refine wpList_store_sub rfl _ (.tmp 26) _ rfl _ _ rfl (arrW F) rfl (arrW_one _) _ _ b6 (by simp [arrW, arrS]) (arrS F y4 0) rfl (sizeW _) ?_; intro w7 g7 b7)
  have z7 := z6.grown g7 (by simp)
  have B7 := below_of_grown B6 g7 B6.size (by omega)
  have b8 := b7.alloc (.cells #[Value.int .u8 0, .int .u8 0, .int .u8 0, .int .u8 0, .int .u8 0, .int .u8 0, .int .u8 0, .int .u8 0, .int .u8 0, .int .u8 0, .int .u8 0, .int .u8 0, .int .u8 0, .int .u8 0, .int .u8 0, .int .u8 0] 61)
  have z8 := z7.alloc (.cells #[Value.int .u8 0, .int .u8 0, .int .u8 0, .int .u8 0, .int .u8 0, .int .u8 0, .int .u8 0, .int .u8 0, .int .u8 0, .int .u8 0, .int .u8 0, .int .u8 0, .int .u8 0, .int .u8 0, .int .u8 0, .int .u8 0] 61)
  have n8 := Blk.new w7 61 #[Value.int .u8 0, .int .u8 0, .int .u8 0, .int .u8 0, .int .u8 0, .int .u8 0, .int .u8 0, .int .u8 0, .int .u8 0, .int .u8 0, .int .u8 0, .int .u8 0, .int .u8 0, .int .u8 0, .int .u8 0, .int .u8 0]
  have B8 := B7.alloc B7.size (.cells #[Value.int .u8 0, .int .u8 0, .int .u8 0, .int .u8 0, .int .u8 0, .int .u8 0, .int .u8 0, .int .u8 0, .int .u8 0, .int .u8 0, .int .u8 0, .int .u8 0, .int .u8 0, .int .u8 0, .int .u8 0, .int .u8 0] 61)
  replace n8 : Blk (w7.alloc (.cells #[Value.int .u8 0, .int .u8 0, .int .u8 0, .int .u8 0, .int .u8 0, .int .u8 0, .int .u8 0, .int .u8 0, .int .u8 0, .int .u8 0, .int .u8 0, .int .u8 0, .int .u8 0, .int .u8 0, .int .u8 0, .int .u8 0] 61)) w7.heap.size 61 (arr16 (partF F 0)) := by rw [← arr16_zero F]; exact n8
  obtain ⟨g, hg0⟩ : ∃ g, g = w7.heap.size := ⟨_, rfl⟩
  have hgl : w.heap.size + 1 < g := by rw [hg0]; exact b7.lt
  rw [← hg0] at n8
  rw [← hg0]
  clear b6 z6 B6 g7 b7 z7 B7 hg0
  have OUT : Hid (∀ k, k < 16 → outF F k = wrd F (k / 4) / ((256 ^ (k % 4) : Nat) : Int) % 256) := hid (fun k _ => by unfold outF; rfl)
  obtain ⟨⟨x00, x01⟩, ⟨x10, x11⟩, ⟨x20, x21⟩, ⟨x30, x31⟩, -⟩ := okS.out
  generalize World.alloc _ _ = W at *
  go_loopw [27] (fun i wr => ∃ k : Nat, k ≤ 16 ∧ i = .int .i64 k ∧ Blk wr (w.heap.size + 1) 138 (arrS F y4 0) ∧ Blk wr w.heap.size 61 #[Value.int .u8 0, .int .u8 0, .int .u8 0, .int .u8 0, .int .u8 0, .int .u8 0, .int .u8 0, .int .u8 0, .int .u8 0, .int .u8 0, .int .u8 0, .int .u8 0, .int .u8 0, .int .u8 0, .int .u8 0, .int .u8 0] ∧ Blk wr g 61 (arr16 (partF F k)) ∧ Below w.heap.size w wr) (fun i _ => 16 - (intOf i).toNat)
  case atStart => exact ⟨0, by omega, rfl, b8, z8, n8, B8⟩
  case round =>
    obtain ⟨k, hk, rfl, hq, hz, hg, hB⟩ := hrel
    clear b8 z8 n8 B8
    by_cases hlt : k < 16
    · have hkk : k = 0 ∨ k = 1 ∨ k = 2 ∨ k = 3 ∨ k = 4 ∨ k = 5 ∨ k = 6 ∨ k = 7 ∨ k = 8 ∨ k = 9 ∨ k = 10 ∨ k = 11 ∨ k = 12 ∨ k = 13 ∨ k = 14 ∨ k = 15 := by omega
      clear hlt hk
      rcases hkk with rfl | rfl | rfl | rfl | rfl | rfl | rfl | rfl | rfl | rfl | rfl | rfl | rfl | rfl | rfl | rfl
      · have k1 : wr.cell? ⟨w.heap.size + 1, 0, none⟩ = some (.int .u32 F.x0) := hq.cell (k := 0) rfl
        have k2 : wr.cell? ⟨g, 0, none⟩ = some (.int .u8 0) := hg.cell (k := 0) rfl
        have f1 := hg.frozen 0
        go_wp2
        go_roundw
        case rel => exact ⟨1, by omega, by go_num, hq.far _ (by simp; omega), hz.far _ (by simp; omega), blk_set16 hg (by omega) (by rw [OUT.out 0 (by omega)]; simp [wrd] <;> omega), hB.setCell (by simp; omega) _⟩
        case measure => simp [intOf]
      · have k1 : wr.cell? ⟨w.heap.size + 1, 0, none⟩ = some (.int .u32 F.x0) := hq.cell (k := 0) rfl
        have k2 : wr.cell? ⟨g, 1, none⟩ = some (.int .u8 0) := hg.cell (k := 1) rfl
        have f1 := hg.frozen 1
        go_wp2
        go_roundw
        case rel => exact ⟨2, by omega, by go_num, hq.far _ (by simp; omega), hz.far _ (by simp; omega), blk_set16 hg (by omega) (by rw [OUT.out 1 (by omega)]; simp [wrd] <;> omega), hB.setCell (by simp; omega) _⟩
        case measure => simp [intOf]
      · have k1 : wr.cell? ⟨w.heap.size + 1, 0, none⟩ = some (.int .u32 F.x0) := hq.cell (k := 0) rfl
        have k2 : wr.cell? ⟨g, 2, none⟩ = some (.int .u8 0) := hg.cell (k := 2) rfl
        have f1 := hg.frozen 2
        go_wp2
        go_roundw
        case rel => exact ⟨3, by omega, by go_num, hq.far _ (by simp; omega), hz.far _ (by simp; omega), blk_set16 hg (by omega) (by rw [OUT.out 2 (by omega)]; simp [wrd] <;> omega), hB.setCell (by simp; omega) _⟩
        case measure => simp [intOf]
      · have k1 : wr.cell? ⟨w.heap.size + 1, 0, none⟩ = some (.int .u32 F.x0) := hq.cell (k := 0) rfl
        have k2 : wr.cell? ⟨g, 3, none⟩ = some (.int .u8 0) := hg.cell (k := 3) rfl
        have f1 := hg.frozen 3
        go_wp2
        go_roundw
        case rel => exact ⟨4, by omega, by go_num, hq.far _ (by simp; omega), hz.far _ (by simp; omega), blk_set16 hg (by omega) (by rw [OUT.out 3 (by omega)]; simp [wrd] <;> omega), hB.setCell (by simp; omega) _⟩
        case measure => simp [intOf]
      · have k1 : wr.cell? ⟨w.heap.size + 1, 1, none⟩ = some (.int .u32 F.x1) := hq.cell (k := 1) rfl
        have k2 : wr.cell? ⟨g, 4, none⟩ = some (.int .u8 0) := hg.cell (k := 4) rfl
        have f1 := hg.frozen 4
        go_wp2
        go_roundw
        case rel => exact ⟨5, by omega, by go_num, hq.far _ (by simp; omega), hz.far _ (by simp; omega), blk_set16 hg (by omega) (by rw [OUT.out 4 (by omega)]; simp [wrd] <;> omega), hB.setCell (by simp; omega) _⟩
        case measure => simp [intOf]
      · have k1 : wr.cell? ⟨w.heap.size + 1, 1, none⟩ = some (.int .u32 F.x1) := hq.cell (k := 1) rfl
        have k2 : wr.cell? ⟨g, 5, none⟩ = some (.int .u8 0) := hg.cell (k := 5) rfl
        have f1 := hg.frozen 5
        go_wp2
        go_roundw
        case rel => exact ⟨6, by omega, by go_num, hq.far _ (by simp; omega), hz.far _ (by simp; omega), blk_set16 hg (by omega) (by rw [OUT.out 5 (by omega)]; simp [wrd] <;> omega), hB.setCell (by simp; omega) _⟩
        case measure => simp [intOf]
      · have k1 : wr.cell? ⟨w.heap.size + 1, 1, none⟩ = some (.int .u32 F.x1) := hq.cell (k := 1) rfl
        have k2 : wr.cell? ⟨g, 6, none⟩ = some (.int .u8 0) := hg.cell (k := 6) rfl
        have f1 := hg.frozen 6
        go_wp2
        go_roundw
        case rel => exact ⟨7, by omega, by go_num, hq.far _ (by simp; omega), hz.far _ (by simp; omega), blk_set16 hg (by omega) (by rw [OUT.out 6 (by omega)]; simp [wrd] <;> omega), hB.setCell (by simp; omega) _⟩
        case measure => simp [intOf]
      · have k1 : wr.cell? ⟨w.heap.size + 1, 1, none⟩ = some (.int .u32 F.x1) := hq.cell (k := 1) rfl
        have k2 : wr.cell? ⟨g, 7, none⟩ = some (.int .u8 0) := hg.cell (k := 7) rfl
        have f1 := hg.frozen 7
        go_wp2
        go_roundw
        case rel => exact ⟨8, by omega, by go_num, hq.far _ (by simp; omega), hz.far _ (by simp; omega), blk_set16 hg (by omega) (by rw [OUT.out 7 (by omega)]; simp [wrd] <;> omega), hB.setCell (by simp; omega) _⟩
        case measure => simp [intOf]
      · have k1 : wr.cell? ⟨w.heap.size + 1, 2, none⟩ = some (.int .u32 F.x2) := hq.cell (k := 2) rfl
        have k2 : wr.cell? ⟨g, 8, none⟩ = some (.int .u8 0) := hg.cell (k := 8) rfl
        have f1 := hg.frozen 8
        go_wp2
        go_roundw
        case rel => exact ⟨9, by omega, by go_num, hq.far _ (by simp; omega), hz.far _ (by simp; omega), blk_set16 hg (by omega) (by rw [OUT.out 8 (by omega)]; simp [wrd] <;> omega), hB.setCell (by simp; omega) _⟩
        case measure => simp [intOf]
      · have k1 : wr.cell? ⟨w.heap.size + 1, 2, none⟩ = some (.int .u32 F.x2) := hq.cell (k := 2) rfl
        have k2 : wr.cell? ⟨g, 9, none⟩ = some (.int .u8 0) := hg.cell (k := 9) rfl
        have f1 := hg.frozen 9
        go_wp2
        go_roundw
        case rel => exact ⟨10, by omega, by go_num, hq.far _ (by simp; omega), hz.far _ (by simp; omega), blk_set16 hg (by omega) (by rw [OUT.out 9 (by omega)]; simp [wrd] <;> omega), hB.setCell (by simp; omega) _⟩
        case measure => simp [intOf]
      · have k1 : wr.cell? ⟨w.heap.size + 1, 2, none⟩ = some (.int .u32 F.x2) := hq.cell (k := 2) rfl
        have k2 : wr.cell? ⟨g, 10, none⟩ = some (.int .u8 0) := hg.cell (k := 10) rfl
        have f1 := hg.frozen 10
        go_wp2
        go_roundw
        case rel => exact ⟨11, by omega, by go_num, hq.far _ (by simp; omega), hz.far _ (by simp; omega), blk_set16 hg (by omega) (by rw [OUT.out 10 (by omega)]; simp [wrd] <;> omega), hB.setCell (by simp; omega) _⟩
        case measure => simp [intOf]
      · have k1 : wr.cell? ⟨w.heap.size + 1, 2, none⟩ = some (.int .u32 F.x2) := hq.cell (k := 2) rfl
        have k2 : wr.cell? ⟨g, 11, none⟩ = some (.int .u8 0) := hg.cell (k := 11) rfl
        have f1 := hg.frozen 11
        go_wp2
        go_roundw
        case rel => exact ⟨12, by omega, by go_num, hq.far _ (by simp; omega), hz.far _ (by simp; omega), blk_set16 hg (by omega) (by rw [OUT.out 11 (by omega)]; simp [wrd] <;> omega), hB.setCell (by simp; omega) _⟩
        case measure => simp [intOf]
      · have k1 : wr.cell? ⟨w.heap.size + 1, 3, none⟩ = some (.int .u32 F.x3) := hq.cell (k := 3) rfl
        have k2 : wr.cell? ⟨g, 12, none⟩ = some (.int .u8 0) := hg.cell (k := 12) rfl
        have f1 := hg.frozen 12
        go_wp2
        go_roundw
        case rel => exact ⟨13, by omega, by go_num, hq.far _ (by simp; omega), hz.far _ (by simp; omega), blk_set16 hg (by omega) (by rw [OUT.out 12 (by omega)]; simp [wrd] <;> omega), hB.setCell (by simp; omega) _⟩
        case measure => simp [intOf]
      · have k1 : wr.cell? ⟨w.heap.size + 1, 3, none⟩ = some (.int .u32 F.x3) := hq.cell (k := 3) rfl
        have k2 : wr.cell? ⟨g, 13, none⟩ = some (.int .u8 0) := hg.cell (k := 13) rfl
        have f1 := hg.frozen 13
        go_wp2
        go_roundw
        case rel => exact ⟨14, by omega, by go_num, hq.far _ (by simp; omega), hz.far _ (by simp; omega), blk_set16 hg (by omega) (by rw [OUT.out 13 (by omega)]; simp [wrd] <;> omega), hB.setCell (by simp; omega) _⟩
        case measure => simp [intOf]
      · have k1 : wr.cell? ⟨w.heap.size + 1, 3, none⟩ = some (.int .u32 F.x3) := hq.cell (k := 3) rfl
        have k2 : wr.cell? ⟨g, 14, none⟩ = some (.int .u8 0) := hg.cell (k := 14) rfl
        have f1 := hg.frozen 14
        go_wp2
        go_roundw
        case rel => exact ⟨15, by omega, by go_num, hq.far _ (by simp; omega), hz.far _ (by simp; omega), blk_set16 hg (by omega) (by rw [OUT.out 14 (by omega)]; simp [wrd] <;> omega), hB.setCell (by simp; omega) _⟩
        case measure => simp [intOf]
      · have k1 : wr.cell? ⟨w.heap.size + 1, 3, none⟩ = some (.int .u32 F.x3) := hq.cell (k := 3) rfl
        have k2 : wr.cell? ⟨g, 15, none⟩ = some (.int .u8 0) := hg.cell (k := 15) rfl
        have f1 := hg.frozen 15
        go_wp2
        go_roundw
        case rel => exact ⟨16, by omega, by go_num, hq.far _ (by simp; omega), hz.far _ (by simp; omega), blk_set16 hg (by omega) (by rw [OUT.out 15 (by omega)]; simp [wrd] <;> omega), hB.setCell (by simp; omega) _⟩
        case measure => simp [intOf]
    · obtain rfl : k = 16 := by omega
      rw [arr16_full] at hg
      go_wp2_with (first | (refine wpList_load_blk rfl _ (.tmp 4) rfl _ rfl _ _ _ hg Try.underlying61 rfl size35 ?_) | (refine wpList_store_blk rfl _ (.tmp 2) _ rfl _ rfl _ rfl (arr16_one _) _ hz rfl size35 ?_; intro v gv mv))
      exact bodyPost_ret (results_blk rfl rfl mv Try.underlying61 rfl size35) rfl ⟨by rw [HF.out], below_of_grown hB gv hB.size (by omega)⟩
end Go.Proofs.Ytgccbfkofkohpaa
namespace Go.Proofs.Ytgccbfkofkohpaa
set_option linter.unusedVariables false
set_option maxRecDepth 20000
set_option linter.unusedSimpArgs false
open Go.ChangeShapes Go.WideShapes Go.ChangeAt Go.RowKit Go.Shelf

theorem Src.any {N q p : Nat} {w : World} {A : Option Addr} {l : List UInt8} (h : Src N q w A l) (hp : N ≤ p) : Src N p w A l := fun hl => by
  obtain ⟨b, o, e, h1, h2, h3⟩ := h hl
  exact ⟨b, o, e, h1, by omega, h3⟩
theorem Src.rd {N q : Nat} {w : World} {A : Option Addr} {l : List UInt8} (h : Src N q w A l) (hN : N ≤ w.heap.size) : Rd w A l := fun hl => by
  obtain ⟨b, o, e, h1, h2, h3⟩ := h hl
  exact ⟨_, e, by simp only; omega, fun j x hx => by rw [addr_add]; exact h3 j x hx⟩
theorem Rd.src {w : World} {A : Option Addr} {l : List UInt8} (h : Rd w A l) {p : Nat} (hp : w.heap.size ≤ p) : Src w.heap.size p w A l := fun hl => by
  obtain ⟨b, o, e, h1, h2⟩ := h.at hl
  exact ⟨b, o, e, h1, by omega, h2⟩
/-- A slice of slices of bytes, to be read. -/
def PRd (w : World) (A : Option Addr) (L : List (List UInt8)) : Prop :=
  0 < L.length → ∃ b o, A = some ⟨b, o, none⟩ ∧ b < w.heap.size ∧ ∀ j l, L[j]? = some l → ∃ A' c', w.cell? ⟨b, o + j, none⟩ = some (.slice A' l.length c') ∧ l.length ≤ c' ∧ c' ≤ maxLen ∧ (A' = none → c' = 0) ∧ Rd w A' l
theorem PRd.src {w : World} {A : Option Addr} {L : List (List UInt8)} (h : PRd w A L) {p : Nat} (hp : w.heap.size ≤ p) : PSrc w.heap.size p w A L := fun hl => by
  obtain ⟨b, o, e, h1, h3⟩ := h hl
  refine ⟨b, o, e, h1, by omega, fun j l hj => ?_⟩
  obtain ⟨A', c', q1, q2, q3, q4, q5⟩ := h3 j l hj
  exact ⟨A', c', q1, q2, q3, q4, q5.src hp⟩
theorem PRd.step {w w' : World} {A : Option Addr} {L : List (List UInt8)} (h : PRd w A L) (hb : Below w.heap.size w w') : PRd w' A L := fun hl => by
  obtain ⟨b, o, e, h1, h3⟩ := h hl
  refine ⟨b, o, e, Nat.lt_of_lt_of_le h1 hb.size, fun j l hj => ?_⟩
  obtain ⟨A', c', q1, q2, q3, q4, q5⟩ := h3 j l hj
  exact ⟨A', c', (cell_same (hb.block b h1)).trans q1, q2, q3, q4, q5.step hb⟩
/-- The words behind a Mac. -/
def macW (key : List UInt8) (L : List (List UInt8)) : W8 := sumW (feed (initW key) (cat L)).1 (feed (initW key) (cat L)).2
theorem PSrc.any {N q p : Nat} {w : World} {A : Option Addr} {L : List (List UInt8)} (h : PSrc N q w A L) (hp : N ≤ p) : PSrc N p w A L := fun hl => by
  obtain ⟨b, o, e, h1, h2, h3⟩ := h hl
  refine ⟨b, o, e, h1, by omega, fun j l hj => ?_⟩
  obtain ⟨A', c', q1, q2, q3, q4, q5⟩ := h3 j l hj
  exact ⟨A', c', q1, q2, q3, q4, q5.any hp⟩
set_option maxHeartbeats 4000000 in
set_option maxRecDepth 100000 in
theorem mac_any (A : Option Addr) (key : List UInt8) (n c : Nat) (hn : key.length = n) (hc : n ≤ c) (hm : c ≤ maxLen) (hA : A = none → c = 0) (B : Option Addr) (L : List (List UInt8)) (k d : Nat) (hk : L.length = k) (hd : k ≤ d) (hmd : d ≤ maxLen) (w : World) (hR : Rd w A key) (hP : PRd w B L) :
    Calls Try.prog 91 #[.slice A n c, .slice B k d] w fun e w' => e = .returned (.agg (arr16 (outF (macW key L)))) ∧ Below w.heap.size w w' := by
  have b0 := step_alloc w (.cells #[Value.int .u8 0, .int .u8 0, .int .u8 0, .int .u8 0, .int .u8 0, .int .u8 0, .int .u8 0, .int .u8 0, .int .u8 0, .int .u8 0, .int .u8 0, .int .u8 0, .int .u8 0, .int .u8 0, .int .u8 0, .int .u8 0] 61)
  have z0 := Blk.new w 61 #[Value.int .u8 0, .int .u8 0, .int .u8 0, .int .u8 0, .int .u8 0, .int .u8 0, .int .u8 0, .int .u8 0, .int .u8 0, .int .u8 0, .int .u8 0, .int .u8 0, .int .u8 0, .int .u8 0, .int .u8 0, .int .u8 0]
  go_enter Try.func91, Try.ntmps91
  go_wp2_with fail
  refine (new_any A key n c hn hc hm hA _ (hR.step b0)).mono ?_
  rintro e w1 ⟨p, rfl, hp, S1, b1⟩
  rw [World.size_alloc] at hp
  have B1 := step_trans b0 b1
  have z1 := z0.step b1
  have P1 := hP.step B1
  have hPb : PSrc w.heap.size p w B L := hP.src (by omega)
  have P1' : PSrc w.heap.size p w1 B L := hPb.kp (Kp.below B1)
  clear b0 z0 b1 P1 hPb hR hP
  go_wp2_with fail
  refine (counted_any B k d _).mono ?_
  rintro e w2 ⟨rfl, hw2⟩
  have b2 : Below w1.heap.size w1 w2 := by rw [hw2]; exact step_alloc _ _
  have c2 : Blk w2 w1.heap.size 63 #[.slice B k d] := by rw [hw2]; exact Blk.new w1 _ _
  have hp1 := S1.lt
  have S2 := S1.of_block (b2.block p hp1)
  have z2 := z1.step b2
  have P2 : PSrc w2.heap.size p w2 B L := (P1'.kp (Kp.below (b2.mono B1.size))).mono (Nat.le_trans B1.size b2.size)
  have B2 := step_trans B1 b2
  rw [← hk] at c2
  clear hw2 S1 z1 P1' B1
  go_wp2_with fail
  refine (each_any p w1.heap.size (initW key) [] B d L (by rw [hk]; exact hd) hmd w2 (by omega) S2 P2 c2).mono ?_
  rintro e w3 ⟨rfl, g3, S3⟩
  rw [List.nil_append] at S3
  have z3 := z2.grown g3 (fun e => by cases e; omega)
  have B3 : Below w.heap.size w w3 := below_of_grown B2 g3 B2.size (by omega)
  clear S2 P2 c2 g3 z2 B2 b2
  go_wp2_with fail
  refine (sum_any p _ _ w3 S3).mono ?_
  rintro e w4 ⟨rfl, b4⟩
  have z4 := z3.step b4
  have B4 := step_trans B3 b4
  obtain ⟨F, hF⟩ : ∃ F, F = macW key L := ⟨_, rfl⟩
  have HF := hid hF
  rw [show sumW (feed (initW key) (cat L)).1 (feed (initW key) (cat L)).2 = F from hF.symm]
  clear hF S3 z3 B3 b4
  go_wp2_with (refine wpList_store_blk rfl _ (.tmp 4) _ rfl _ rfl _ rfl (arr16_one _) _ z4 rfl size35 ?_; intro w5 g5 c5)
  exact bodyPost_ret (results_blk rfl rfl c5 Try.underlying61 rfl size35) rfl ⟨by rw [HF.out], below_of_grown B4 g5 B4.size (Nat.le_refl _)⟩
set_option maxHeartbeats 4000000 in
set_option maxRecDepth 100000 in
theorem of_any (B : Option Addr) (L : List (List UInt8)) (k d : Nat) (hk : L.length = k) (hd : k ≤ d) (hmd : d ≤ maxLen) (w : World) (hP : PRd w B L) :
    Calls Try.prog 58 #[.slice B k d] w fun e w' => e = .returned (.agg (arr16 (outF (macW [] L)))) ∧ Below w.heap.size w w' := by
  have b0 := step_alloc w (.cells #[Value.int .u8 0, .int .u8 0, .int .u8 0, .int .u8 0, .int .u8 0, .int .u8 0, .int .u8 0, .int .u8 0, .int .u8 0, .int .u8 0, .int .u8 0, .int .u8 0, .int .u8 0, .int .u8 0, .int .u8 0, .int .u8 0] 61)
  have z0 := Blk.new w 61 #[Value.int .u8 0, .int .u8 0, .int .u8 0, .int .u8 0, .int .u8 0, .int .u8 0, .int .u8 0, .int .u8 0, .int .u8 0, .int .u8 0, .int .u8 0, .int .u8 0, .int .u8 0, .int .u8 0, .int .u8 0, .int .u8 0]
  go_enter Try.func58, Try.ntmps58
  go_wp2_with fail
  refine (mac_any none [] 0 0 rfl (Nat.le_refl _) (by unfold maxLen; omega) (fun _ => rfl) B L k d hk hd hmd _ (fun h => absurd h (by simp)) (hP.step b0)).mono ?_
  rintro e w1 ⟨rfl, b1⟩
  have z1 := z0.step b1
  have B1 := step_trans b0 b1
  obtain ⟨F, hF⟩ : ∃ F, F = macW [] L := ⟨_, rfl⟩
  rw [← hF]
  have HF := hid hF
  clear hF z0 b0 b1
  go_wp2_with (refine wpList_store_blk rfl _ (.tmp 2) _ rfl _ rfl _ rfl (arr16_one _) _ z1 rfl size35 ?_; intro w5 g5 c5)
  exact bodyPost_ret (results_blk rfl rfl c5 Try.underlying61 rfl size35) rfl ⟨by first | rfl | rw [HF.out], below_of_grown B1 g5 B1.size (Nat.le_refl _)⟩
end Go.Proofs.Ytgccbfkofkohpaa
