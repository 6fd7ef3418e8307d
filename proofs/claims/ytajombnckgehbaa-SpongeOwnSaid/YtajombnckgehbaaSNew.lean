/- sponge.New. -/
import Derived.Test.YtajombnckgehbaaSCount
namespace Go.Proofs.Ytajombnckgehbaa
set_option linter.unusedVariables false
set_option linter.unusedSimpArgs false
open Go.ChangeShapes Go.WideShapes Go.ChangeAt Go.RowKit Go.Shelf

def zeroW : W8 := ⟨0, 0, 0, 0, 0, 0, 0, 0⟩
theorem zeroW_ok : zeroW.ok := by unfold W8.ok zeroW; decide
def pad16 (L : List UInt8) : List UInt8 := L ++ List.replicate ((16 - L.length % 16) % 16) 0
theorem pad16_mod (L : List UInt8) : (pad16 L).length % 16 = 0 := by unfold pad16; rw [List.length_append, List.length_replicate]; omega
theorem feed_mod (s : W8) (L : List UInt8) : (feed s L).2.length = L.length % 16 := by
  induction h : L.length using Nat.strongRecOn generalizing s L with
  | _ n ih =>
    by_cases h16 : L.length < 16
    · rw [feed_lt h16, ← h, Nat.mod_eq_of_lt h16]
    · rw [feed_ge (by omega)]
      have := ih (L.drop 16).length (by rw [List.length_drop]; omega) (takeW (byI L) s) (L.drop 16) rfl
      rw [this, List.length_drop]
      omega
theorem feed_full {s : W8} {L : List UInt8} (h : L.length % 16 = 0) : feed s L = ((feed s L).1, []) := by
  have := feed_mod s L
  rw [h] at this
  exact Prod.ext rfl (List.eq_nil_of_length_eq_zero this)
/-- The words of a sponge that took a key. -/
def initW (key : List UInt8) : W8 := (feed zeroW (pad16 (eightL key.length ++ key))).1
theorem initW_ok (key : List UInt8) : (initW key).ok := feed_ok zeroW_ok _
theorem make_zeros (n : Nat) (hn : n ≤ 1000) (w : World) : (Instr.makeSlice 29 (.int .i64 (n : Int)) (.int .i64 (n : Int))).run Try.prog w = .ok (.slice (some ⟨w.heap.size, 0, none⟩) n n) (w.alloc (.cells (madeCells #[.int .u8 0] n) 5)) := by
  obtain ⟨i, h1, h2, h3, h4⟩ := info_u8
  exact run_make_row 29 5 i (.int .u8 0) Try.underlying29 h1 h2 h3 rfl .i64 .i64 n (by rw [h4]; omega) (by omega) w
theorem rd_zeros (n : Nat) (w : World) : Rd (w.alloc (.cells (madeCells #[.int .u8 0] n) 5)) (some ⟨w.heap.size, 0, none⟩) (List.replicate n 0) := fun hp => by
  have hr := World.rowIs_made w (.int .u8 0) n 5
  refine ⟨_, rfl, hr.lt, fun j b hj => ?_⟩
  have hjn : j < n := by have := (List.getElem?_eq_some_iff.1 hj).1; rwa [List.length_replicate] at this
  rw [List.getElem?_replicate, if_pos hjn] at hj
  obtain rfl := Option.some.inj hj
  rw [addr_add, Nat.zero_add, hr.cell hjn]; rfl
set_option maxHeartbeats 4000000 in
set_option maxRecDepth 100000 in
theorem new_any (A : Option Addr) (key : List UInt8) (n c : Nat) (hn : key.length = n) (hc : n ≤ c) (hm : c ≤ maxLen) (hA : A = none → c = 0) (w : World) (hR : Rd w A key) :
    Calls Try.prog 19 #[.slice A n c] w fun e w' => ∃ p, e = .returned (.pointer (some ⟨p, 0, none⟩)) ∧ w.heap.size ≤ p ∧ SpAt w' p (initW key) [] ∧ Below w.heap.size w w' := by
  go_enter Try.func19, Try.ntmps19
  go_wp2_with fail
  obtain ⟨Wa, hWa⟩ : ∃ Wa, Wa = (w.alloc (.cells #[Value.int .u32 0, .int .u32 0, .int .u32 0, .int .u32 0, .int .u32 0, .int .u32 0, .int .u32 0, .int .u32 0, .int .u8 0, .int .u8 0, .int .u8 0, .int .u8 0, .int .u8 0, .int .u8 0, .int .u8 0, .int .u8 0, .int .u8 0, .int .u8 0, .int .u8 0, .int .u8 0, .int .u8 0, .int .u8 0, .int .u8 0, .int .u8 0, .int .i64 0] 62)).alloc (.cells #[.slice A n c] 29) := ⟨_, rfl⟩
  rw [← hWa]
  have za : Wa.heap.size = w.heap.size + 2 := by rw [hWa]; simp
  have ba : Below w.heap.size w Wa := by rw [hWa]; exact ((Below.refl _ _).alloc (Nat.le_refl _) _).alloc (by simp) _
  have Sa : SpAt Wa w.heap.size zeroW [] := ⟨fun _ => 0, fun _ => (show (0:Int) ≤ 0 ∧ (0:Int) < 256 from ⟨by omega, by omega⟩), fun k hk => absurd hk (by simp), by rw [hWa]; exact (Blk.new w 62 (arrS zeroW (fun _ => 0) 0)).alloc _, zeroW_ok, by decide⟩
  have Ka : Blk Wa (w.heap.size + 1) 29 #[.slice A n c] := by
    rw [hWa]
    have := Blk.new (w.alloc (.cells #[Value.int .u32 0, .int .u32 0, .int .u32 0, .int .u32 0, .int .u32 0, .int .u32 0, .int .u32 0, .int .u32 0, .int .u8 0, .int .u8 0, .int .u8 0, .int .u8 0, .int .u8 0, .int .u8 0, .int .u8 0, .int .u8 0, .int .u8 0, .int .u8 0, .int .u8 0, .int .u8 0, .int .u8 0, .int .u8 0, .int .u8 0, .int .u8 0, .int .i64 0] 62)) 29 #[.slice A n c]
    rw [World.size_alloc] at this
    exact this
  have ra : Src (w.heap.size) w.heap.size w A key := fun hl => by
    obtain ⟨b, o, e, h1, h2⟩ := hR.at hl
    exact ⟨b, o, e, h1, by omega, h2⟩
  clear hWa
  refine (counted_any _ 1 1 _).mono ?_
  rintro e w1 ⟨rfl, hw1⟩
  have S1 : SpAt w1 w.heap.size zeroW [] := Sa.of_block (by rw [hw1]; exact Below.heap_alloc _ _ _ (by omega))
  have b1 : Below w.heap.size w w1 := by rw [hw1]; exact ba.alloc (by omega) _
  have B1 : Blk w1 Wa.heap.size 39 #[.slice (some ⟨w.heap.size + 1, 0, none⟩) 1 1] := by rw [hw1]; exact Blk.new Wa _ _
  have P1 : PSrc w1.heap.size w.heap.size w1 (some ⟨w.heap.size + 1, 0, none⟩) [key] := fun _ => by
    have hs1 : w1.heap.size = w.heap.size + 3 := by rw [hw1]; simp; omega
    have Kb : Blk w1 (w.heap.size + 1) 29 #[.slice A n c] := by rw [hw1]; exact Ka.alloc _
    refine ⟨w.heap.size + 1, 0, rfl, by omega, by omega, fun j l hj => ?_⟩
    obtain rfl : j = 0 := by
      have := (List.getElem?_eq_some_iff.1 hj).1
      simp at this; omega
    obtain rfl : key = l := Option.some.inj hj
    exact ⟨A, c, by rw [hn]; exact Kb.cell (k := 0) rfl, by rw [hn]; exact hc, hm, hA, (ra.kp (Kp.below b1)).mono (by omega)⟩
  clear hw1 Sa Ka ra ba
  rw [za] at B1 ⊢
  clear za
  go_wp2_with fail
  refine (each_any w.heap.size (w.heap.size + 2) zeroW [] (some ⟨w.heap.size + 1, 0, none⟩) 1 [key] (by simp) (by unfold maxLen; omega) w1 (by omega) S1 P1 B1).mono ?_
  rintro e w2 ⟨rfl, g2, S2⟩
  have b2 : Below w.heap.size w w2 := below_of_grown b1 g2 b1.size (Nat.le_refl _)
  have hT : feed zeroW ([] ++ cat [key]) = feed zeroW (eightL key.length ++ key) := by simp [cat]
  rw [hT] at S2
  obtain ⟨T, hTT⟩ : ∃ T, T = feed zeroW (eightL key.length ++ key) := ⟨_, rfl⟩
  have hmod := feed_mod zeroW (eightL key.length ++ key)
  rw [← hTT] at S2 hmod
  have hfin : initW key = (feed T.1 (T.2 ++ List.replicate ((16 - (eightL key.length ++ key).length % 16) % 16) 0)).1 := by
    unfold initW pad16
    rw [feed_append, ← hTT]
  have HF := hid hfin
  have hpad := pad16_mod (eightL key.length ++ key)
  have hfull : (feed T.1 (T.2 ++ List.replicate ((16 - (eightL key.length ++ key).length % 16) % 16) 0)).2 = [] := by
    rw [hTT, ← feed_append]
    have := feed_full (s := zeroW) (L := pad16 (eightL key.length ++ key)) hpad
    unfold pad16 at this
    rw [this]
  have HE := hid hfull
  clear hfin hfull hpad hT hTT S1 P1 B1
  obtain ⟨s, l⟩ := T
  dsimp only at S2 hmod HF HE
  rw [← hmod] at HF HE
  clear hmod
  obtain ⟨h, hh⟩ : ∃ h, l.length = h := ⟨_, rfl⟩
  rw [hh] at HF HE
  have hlt := S2.lt
  have S2' := S2
  obtain ⟨y, hy, hyl, hb, hsok, hl16⟩ := S2
  rw [hh] at hb hl16
  have hc24 : w2.cell? ⟨w.heap.size, 24, none⟩ = some (.int .i64 (h : Int)) := hb.cell (k := 24) rfl
  clear hb hy hyl
  by_cases h0 : h = 0
  · subst h0
    obtain rfl : l = [] := List.eq_nil_of_length_eq_zero hh
    have e1 : feed s ([] ++ List.replicate ((16 - 0) % 16) 0) = (s, []) := feed_lt (by simp)
    have HF2 : Hid (initW key = s) := hid (by rw [HF.out, e1])
    clear HF HE e1 hh
    go_wp2
    go_ret
    exact ⟨_, rfl, Nat.le_refl _, by rw [HF2.out]; exact S2', b2⟩
  · obtain ⟨m, hm16, hm0⟩ : ∃ m, h + m = 16 ∧ 0 < m := ⟨16 - h, by omega, by omega⟩
    have hI : (16 : Int) - (h : Int) = (m : Int) := by omega
    have e2 : (16 - h) % 16 = m := by omega
    rw [e2] at HF HE
    have hpos : decide (0 < h) = true := by rw [decide_eq_true_iff]; omega
    have hpn : 0 < h := by omega
    have hmk := make_zeros m (by omega)
    have HH := hid hh
    clear hh e2 h0
    go_wp2_with fail
    clear hmk
    have bz := step_alloc w2 (.cells (madeCells #[.int .u8 0] m) 5)
    refine (write_any w.heap.size s l (some ⟨w2.heap.size, 0, none⟩) (List.replicate m 0) m m (by simp) (Nat.le_refl _) (by unfold maxLen; omega) (fun h => by cases h) _ (S2'.of_block (bz.block _ hlt)) (Src.of_rd (rd_zeros m w2) (fun b o e => by cases e; omega))).mono ?_
    rintro e w3 ⟨rfl, g3, S3⟩
    rw [HE.out, ← HF.out] at S3
    have b3 : Below w.heap.size w w3 := below_of_grown (b2.trans (bz.mono b2.size)) g3 (Nat.le_trans b2.size bz.size) (Nat.le_refl _)
    go_wp2
    go_ret
    exact ⟨_, rfl, Nat.le_refl _, S3, b3⟩
end Go.Proofs.Ytajombnckgehbaa
