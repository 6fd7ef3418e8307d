/- sponge.Mac, sponge.Of. -/
import Derived.Test.YtajombnckgehbaaSSum
namespace Go.Proofs.Ytajombnckgehbaa
set_option linter.unusedVariables false
set_option linter.unusedSimpArgs false
open Go.ChangeShapes Go.WideShapes Go.ChangeAt Go.RowKit Go.Shelf

theorem Src.any {N q p : Nat} {w : World} {A : Option Addr} {l : List UInt8} (h : Src N q w A l) (hp : N ≤ p) : Src N p w A l := fun hl => by
  obtain ⟨b, o, e, h1, h2, h3⟩ := h hl
  exact ⟨b, o, e, h1, by omega, h3⟩
theorem Src.rd {N q : Nat} {w : World} {A : Option Addr} {l : List UInt8} (h : Src N q w A l) (hN : N ≤ w.heap.size) : Rd w A l := fun hl => by
  obtain ⟨b, o, e, h1, h2, h3⟩ := h hl
  exact ⟨_, e, by simp only; omega, fun j x hx => by rw [addr_add]; exact h3 j x hx⟩
theorem Rd.src {w : World} {A : Option Addr} {l : List UInt8} (h : Rd w A l) {p : Nat} (hp : w.heap.size ≤ p) : Src w.heap.size p w A l := fun hl => by
  obtain ⟨b, o, e, h1, h2⟩ := h.at hl
  exact ⟨b, o, e, h1, by omega, h2⟩
/-- A slice of slices of bytes, to be read. -/
def PRd (w : World) (A : Option Addr) (L : List (List UInt8)) : Prop :=
  0 < L.length → ∃ b o, A = some ⟨b, o, none⟩ ∧ b < w.heap.size ∧ ∀ j l, L[j]? = some l → ∃ A' c', w.cell? ⟨b, o + j, none⟩ = some (.slice A' l.length c') ∧ l.length ≤ c' ∧ c' ≤ maxLen ∧ (A' = none → c' = 0) ∧ Rd w A' l
theorem PRd.src {w : World} {A : Option Addr} {L : List (List UInt8)} (h : PRd w A L) {p : Nat} (hp : w.heap.size ≤ p) : PSrc w.heap.size p w A L := fun hl => by
  obtain ⟨b, o, e, h1, h3⟩ := h hl
  refine ⟨b, o, e, h1, by omega, fun j l hj => ?_⟩
  obtain ⟨A', c', q1, q2, q3, q4, q5⟩ := h3 j l hj
  exact ⟨A', c', q1, q2, q3, q4, q5.src hp⟩
theorem PRd.step {w w' : World} {A : Option Addr} {L : List (List UInt8)} (h : PRd w A L) (hb : Below w.heap.size w w') : PRd w' A L := fun hl => by
  obtain ⟨b, o, e, h1, h3⟩ := h hl
  refine ⟨b, o, e, Nat.lt_of_lt_of_le h1 hb.size, fun j l hj => ?_⟩
  obtain ⟨A', c', q1, q2, q3, q4, q5⟩ := h3 j l hj
  exact ⟨A', c', (cell_same (hb.block b h1)).trans q1, q2, q3, q4, q5.step hb⟩
/-- The words behind a Mac. -/
def macW (key : List UInt8) (L : List (List UInt8)) : W8 := sumW (feed (initW key) (cat L)).1 (feed (initW key) (cat L)).2
theorem PSrc.any {N q p : Nat} {w : World} {A : Option Addr} {L : List (List UInt8)} (h : PSrc N q w A L) (hp : N ≤ p) : PSrc N p w A L := fun hl => by
  obtain ⟨b, o, e, h1, h2, h3⟩ := h hl
  refine ⟨b, o, e, h1, by omega, fun j l hj => ?_⟩
  obtain ⟨A', c', q1, q2, q3, q4, q5⟩ := h3 j l hj
  exact ⟨A', c', q1, q2, q3, q4, q5.any hp⟩
set_option maxHeartbeats 4000000 in
set_option maxRecDepth 100000 in
theorem mac_any (A : Option Addr) (key : List UInt8) (n c : Nat) (hn : key.length = n) (hc : n ≤ c) (hm : c ≤ maxLen) (hA : A = none → c = 0) (B : Option Addr) (L : List (List UInt8)) (k d : Nat) (hk : L.length = k) (hd : k ≤ d) (hmd : d ≤ maxLen) (w : World) (hR : Rd w A key) (hP : PRd w B L) :
    Calls Try.prog 24 #[.slice A n c, .slice B k d] w fun e w' => e = .returned (.agg (arr16 (outF (macW key L)))) ∧ Below w.heap.size w w' := by
  have b0 := step_alloc w (.cells #[Value.int .u8 0, .int .u8 0, .int .u8 0, .int .u8 0, .int .u8 0, .int .u8 0, .int .u8 0, .int .u8 0, .int .u8 0, .int .u8 0, .int .u8 0, .int .u8 0, .int .u8 0, .int .u8 0, .int .u8 0, .int .u8 0] 35)
  have z0 := Blk.new w 35 #[Value.int .u8 0, .int .u8 0, .int .u8 0, .int .u8 0, .int .u8 0, .int .u8 0, .int .u8 0, .int .u8 0, .int .u8 0, .int .u8 0, .int .u8 0, .int .u8 0, .int .u8 0, .int .u8 0, .int .u8 0, .int .u8 0]
  go_enter Try.func24, Try.ntmps24
  go_wp2_with fail
  refine (new_any A key n c hn hc hm hA _ (hR.step b0)).mono ?_
  rintro e w1 ⟨p, rfl, hp, S1, b1⟩
  rw [World.size_alloc] at hp
  have B1 := step_trans b0 b1
  have z1 := z0.step b1
  have P1 := hP.step B1
  have hPb : PSrc w.heap.size p w B L := hP.src (by omega)
  have P1' : PSrc w.heap.size p w1 B L := hPb.kp (Kp.below B1)
  clear b0 z0 b1 P1 hPb hR hP
  go_wp2_with fail
  refine (counted_any B k d _).mono ?_
  rintro e w2 ⟨rfl, hw2⟩
  have b2 : Below w1.heap.size w1 w2 := by rw [hw2]; exact step_alloc _ _
  have c2 : Blk w2 w1.heap.size 39 #[.slice B k d] := by rw [hw2]; exact Blk.new w1 _ _
  have hp1 := S1.lt
  have S2 := S1.of_block (b2.block p hp1)
  have z2 := z1.step b2
  have P2 : PSrc w2.heap.size p w2 B L := (P1'.kp (Kp.below (b2.mono B1.size))).mono (Nat.le_trans B1.size b2.size)
  have B2 := step_trans B1 b2
  rw [← hk] at c2
  clear hw2 S1 z1 P1' B1
  go_wp2_with fail
  refine (each_any p w1.heap.size (initW key) [] B d L (by rw [hk]; exact hd) hmd w2 (by omega) S2 P2 c2).mono ?_
  rintro e w3 ⟨rfl, g3, S3⟩
  rw [List.nil_append] at S3
  have z3 := z2.grown g3 (fun e => by cases e; omega)
  have B3 : Below w.heap.size w w3 := below_of_grown B2 g3 B2.size (by omega)
  clear S2 P2 c2 g3 z2 B2 b2
  go_wp2_with fail
  refine (sum_any p _ _ w3 S3).mono ?_
  rintro e w4 ⟨rfl, b4⟩
  have z4 := z3.step b4
  have B4 := step_trans B3 b4
  obtain ⟨F, hF⟩ : ∃ F, F = macW key L := ⟨_, rfl⟩
  have HF := hid hF
  rw [show sumW (feed (initW key) (cat L)).1 (feed (initW key) (cat L)).2 = F from hF.symm]
  clear hF S3 z3 B3 b4
  go_wp2_with (refine wpList_store_blk rfl _ (.tmp 4) _ rfl _ rfl _ rfl (arr16_one _) _ z4 rfl size35 ?_; intro w5 g5 c5)
  exact bodyPost_ret (results_blk rfl rfl c5 Try.underlying35 rfl size35) rfl ⟨by rw [HF.out], below_of_grown B4 g5 B4.size (Nat.le_refl _)⟩
set_option maxHeartbeats 4000000 in
set_option maxRecDepth 100000 in
theorem of_any (B : Option Addr) (L : List (List UInt8)) (k d : Nat) (hk : L.length = k) (hd : k ≤ d) (hmd : d ≤ maxLen) (w : World) (hP : PRd w B L) :
    Calls Try.prog 26 #[.slice B k d] w fun e w' => e = .returned (.agg (arr16 (outF (macW [] L)))) ∧ Below w.heap.size w w' := by
  have b0 := step_alloc w (.cells #[Value.int .u8 0, .int .u8 0, .int .u8 0, .int .u8 0, .int .u8 0, .int .u8 0, .int .u8 0, .int .u8 0, .int .u8 0, .int .u8 0, .int .u8 0, .int .u8 0, .int .u8 0, .int .u8 0, .int .u8 0, .int .u8 0] 35)
  have z0 := Blk.new w 35 #[Value.int .u8 0, .int .u8 0, .int .u8 0, .int .u8 0, .int .u8 0, .int .u8 0, .int .u8 0, .int .u8 0, .int .u8 0, .int .u8 0, .int .u8 0, .int .u8 0, .int .u8 0, .int .u8 0, .int .u8 0, .int .u8 0]
  go_enter Try.func26, Try.ntmps26
  go_wp2_with fail
  refine (mac_any none [] 0 0 rfl (Nat.le_refl _) (by unfold maxLen; omega) (fun _ => rfl) B L k d hk hd hmd _ (fun h => absurd h (by simp)) (hP.step b0)).mono ?_
  rintro e w1 ⟨rfl, b1⟩
  have z1 := z0.step b1
  have B1 := step_trans b0 b1
  obtain ⟨F, hF⟩ : ∃ F, F = macW [] L := ⟨_, rfl⟩
  rw [← hF]
  have HF := hid hF
  clear hF z0 b0 b1
  go_wp2_with (refine wpList_store_blk rfl _ (.tmp 2) _ rfl _ rfl _ rfl (arr16_one _) _ z1 rfl size35 ?_; intro w5 g5 c5)
  exact bodyPost_ret (results_blk rfl rfl c5 Try.underlying35 rfl size35) rfl ⟨by first | rfl | rw [HF.out], below_of_grown B1 g5 B1.size (Nat.le_refl _)⟩
end Go.Proofs.Ytajombnckgehbaa
