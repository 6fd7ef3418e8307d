/- What SrpWrong stands on, part 12. -/
import Derived.Test.YtcfepoopkfhojaaGreatSrpWrongP1
import Derived.Test.YtcfepoopkfhojaaGreatSrpWrongP2
import Derived.Test.YtcfepoopkfhojaaGreatSrpWrongP3
import Derived.Test.YtcfepoopkfhojaaGreatSrpWrongP4
import Derived.Test.YtcfepoopkfhojaaGreatSrpWrongP5
import Derived.Test.YtcfepoopkfhojaaGreatSrpWrongP6
import Derived.Test.YtcfepoopkfhojaaGreatSrpWrongP7
import Derived.Test.YtcfepoopkfhojaaGreatSrpWrongP8
import Derived.Test.YtcfepoopkfhojaaGreatSrpWrongP9
import Derived.Test.YtcfepoopkfhojaaGreatSrpWrongP10
import Derived.Test.YtcfepoopkfhojaaGreatSrpWrongP11
set_option maxRecDepth 100000
set_option maxHeartbeats 8000000
set_option linter.unusedVariables false
set_option linter.unusedSimpArgs false
namespace Go.Proofs.YtcfepoopkfhojaaGreat
open Go.ChangeShapes Go.WideShapes Go.ChangeAt Go.RowKit
theorem take4 (a : Nat) {k : Nat} (hk : k < 8) : (zq a).take (32 - 4 * k) = (zq a).take (28 - 4 * k) ++ [zhb a (28 - 4 * k), zhb a (29 - 4 * k), zhb a (30 - 4 * k), zhb a (31 - 4 * k)] := by
 have h : k = 0 ∨ k = 1 ∨ k = 2 ∨ k = 3 ∨ k = 4 ∨ k = 5 ∨ k = 6 ∨ k = 7 := by omega
 rcases h with rfl | rfl | rfl | rfl | rfl | rfl | rfl | rfl <;> rfl
theorem four_bytes (a : Nat) {k : Nat} (hk : k < 8) : #[Value.int .u8 (IntKind.u8.wrap (digI a k / 16777216)), .int .u8 (IntKind.u8.wrap (digI a k / 65536)), .int .u8 (IntKind.u8.wrap (digI a k / 256)), .int .u8 (IntKind.u8.wrap (digI a k))] = bvs [zhb a (28 - 4 * k), zhb a (29 - 4 * k), zhb a (30 - 4 * k), zhb a (31 - 4 * k)] := by
 have h0 := dig_byte a k 0 (by omega)
 have h1 := dig_byte a k 1 (by omega)
 have h2 := dig_byte a k 2 (by omega)
 have h3 := dig_byte a k 3 (by omega)
 have hl := dig_lt a k
 simp only [bvs, List.map_cons, List.map_nil, bv, byteN_toNat, digI, IntKind.wrap_u8]
 rw [show 31 - (28 - 4 * k) = 4 * k + 3 by omega, show 31 - (29 - 4 * k) = 4 * k + 2 by omega, show 31 - (30 - 4 * k) = 4 * k + 1 by omega, show 31 - (31 - 4 * k) = 4 * k + 0 by omega, ← h0, ← h1, ← h2, ← h3]
 generalize dig a k = d at *
 simp
theorem rbytes_any (a : Nat) (w : World) :
  Calls Tryz.prog 26 #[numV a] w fun e w' => ∃ A c, e = .returned (.slice A 32 c) ∧ 32 ≤ c ∧ c ≤ maxLen ∧ Rd w' A (zq a) ∧ Below w.heap.size w w' := by
 have g0 := Num.new w 27 a
 have gb := zga w (.cells (numA a) 27)
 have T4 := hid (fun k hk => @take4 a k hk)
 have F4 := hid (fun k hk => @four_bytes a k hk)
 have TF := hid (List.take_of_length_le (Nat.le_of_eq (zya a)))
 have LN := hid (zya a)
 go_enter Tryz.func26, Tryz.ntmps26
 go_wp2
 have hW1 : (w.alloc (.cells (numA a) 27)).heap.size = w.heap.size + 1 := by simp
 generalize World.alloc _ _ = W at *
 have HW := hid hW1
 clear hW1
 go_loopw [3, 4] (fun v i wr => ∃ q : Int, -1 ≤ q ∧ q ≤ 7 ∧ i = .int .i64 q ∧ Byt wr (w.heap.size + 1) v ((zq a).take (28 - 4 * q).toNat) ∧ Below (w.heap.size + 1) W wr) (fun _ i _ => (intOf i + 1).toNat)
 case atStart => exact ⟨7, by omega, by omega, rfl, Byt.nil _ _, Below.refl _ _⟩
 case round =>
  obtain ⟨q, hq1, hq2, rfl, hv, hB⟩ := hrel
  have n0 := g0.below hB (by omega)
  have hsz : w.heap.size + 1 ≤ wr.heap.size := by have := hB.size; have := HW.out; omega
  by_cases hq : 0 ≤ q
  ·obtain ⟨k, rfl⟩ := Int.eq_ofNat_of_zero_le hq
   have hc := n0.cell (k := k) (by omega)
   have hk : k < 8 := by omega
   have t4 := T4.out k hk
   have hd0 := zka a k
   have hd1 := zla a k
   have e1 : (28 - 4 * (k : Int)).toNat = 28 - 4 * k := by omega
   have hv' : Byt wr (w.heap.size + 1) u3 ((zq a).take (28 - 4 * k)) := by rw [← e1]; exact hv
   have H4 := hid t4
   clear hv e1 t4
   have hrd : Rd (wr.alloc (.cells #[Value.int .u8 (IntKind.u8.wrap (digI a k / 16777216)), .int .u8 (IntKind.u8.wrap (digI a k / 65536)), .int .u8 (IntKind.u8.wrap (digI a k / 256)), .int .u8 (IntKind.u8.wrap (digI a k))] 5)).drew (some ⟨wr.heap.size, 0, none⟩) [zhb a (28 - 4 * k), zhb a (29 - 4 * k), zhb a (30 - 4 * k), zhb a (31 - 4 * k)] := by
    rw [F4.out k hk]
    exact Bts.rd (t := 5) (heap_alloc_new wr _)
   have hle : ((zq a).take (28 - 4 * k)).length ≤ 32 := by rw [List.length_take, LN.out]; omega
   have hk8 : (k : Int) < 8 := by omega
   obtain ⟨L, hL⟩ : ∃ L, L = (zq a).take (28 - 4 * k) := ⟨_, rfl⟩
   rw [← hL] at hv' hle
   have HL := hid hL
   clear hL
   clear LN hq1 hq2 hq F4
   go_wp2_with fail
   go_region_held3 (fun w' => w'.cell? ⟨w.heap.size, k, none⟩ = some (.int .u32 (digI a k))) (first | go_keep | (go_split_ands; rw [h2.cell (p := ⟨w.heap.size, k, none⟩) (by show w.heap.size < w.heap.size + 1; omega)]; assumption))
    ((refine step_append_bytes (by rfl) _ _ (by rfl) (w.heap.size + 1) u3 L [zhb a (28 - 4 * k), zhb a (29 - 4 * k), zhb a (30 - 4 * k), zhb a (31 - 4 * k)] (by rfl) (show Byt _ _ _ _ from Byt.alloc hv' _) _ 4 4 (by rfl) (by rfl) (by omega) hrd (by simp <;> omega) (by simp <;> omega) ?_; intro g cap w' h1 h2 h3 h4 h5))
   have eL : L ++ [zhb a (28 - 4 * k), zhb a (29 - 4 * k), zhb a (30 - 4 * k), zhb a (31 - 4 * k)] = (zq a).take (32 - 4 * k) := by rw [HL.out, ← H4.out]
   rw [eL] at h1
   have hB2 : Below (w.heap.size + 1) wr w' := ((zga wr _).mono (by omega)).trans (show Below _ (wr.alloc _) w' from ⟨h2.os, h2.tape, h2.output, h2.size, h2.block⟩)
   clear eL h2
   have H1 := hid h1
   clear h1
   go_wp2
   go_roundw
   case rel => exact ⟨(k : Int) - 1, by omega, by omega, by go_num, by rw [show (28 - 4 * ((k : Int) - 1)).toNat = 32 - 4 * k by omega]; exact H1.out, hB.trans hB2⟩
   case measure => simp [intOf] <;> omega
  ·have hq' : q = -1 := by omega
   subst hq'
   have hv' : Byt wr (w.heap.size + 1) u3 (zq a) := by have := hv; rw [show (28 - 4 * (-1 : Int)).toNat = 32 from rfl, TF.out] at this; exact this
   clear hv
   obtain ⟨A, c, rfl, h1, h2, h3, h4⟩ := hv'.slice
   rw [LN.out] at h1
   have e := LN.out
   go_wp2
   go_ret
   exact ⟨A, c, rfl, h1, h2, h3, gb.trans (hB.mono (by omega))⟩
/-! Read. -/
theorem dig_place {R k b : Nat} (hR : 256 ^ (k + 1) ∣ R) (hb : b < 256) : (∀ j, j ≠ k / 4 → dig (R + b * 256 ^ k) j = dig R j) ∧ dig (R + b * 256 ^ k) (k / 4) = dig R (k / 4) + b * 256 ^ (k % 4) ∧ dig R (k / 4) % 256 ^ (k % 4 + 1) = 0 := by
 obtain ⟨Q, rfl⟩ := hR
 have e : ∀ j, (4294967296 : Nat) ^ j = 256 ^ (4 * j) := fun j => by rw [Nat.pow_mul]
 have hp : ∀ j, (0 : Nat) < 256 ^ j := fun j => Nat.pow_pos (by decide)
 refine ⟨fun j hj => ?_, ?_⟩
 ·unfold dig
  rw [e]
  rcases Nat.lt_or_gt_of_ne hj with h | h
  ·obtain ⟨x, rfl⟩ : ∃ x, k = 4 * j + 4 + x := ⟨k - (4 * j + 4), by omega⟩
   have e1 : b * 256 ^ (4 * j + 4 + x) = 256 ^ (4 * j) * (4294967296 * (b * 256 ^ x)) := by
    rw [Nat.pow_add, Nat.pow_add, show (4294967296 : Nat) = 256 ^ 4 from rfl]; simp only [Nat.mul_assoc, Nat.mul_comm, Nat.mul_left_comm]
   rw [e1, Nat.add_mul_div_left _ _ (hp _), Nat.add_mul_mod_self_left]
  ·obtain ⟨x, hx⟩ : ∃ x, 4 * j = k + 1 + x := ⟨4 * j - (k + 1), by omega⟩
   have e3 : (256 : Nat) ^ (k + 1 + x) = 256 ^ k * (256 * 256 ^ x) := by rw [Nat.pow_add, Nat.pow_succ, Nat.mul_assoc]
   have e4 : 256 ^ (k + 1) * Q = 256 ^ k * (256 * Q) := by rw [Nat.pow_succ, Nat.mul_assoc]
   rw [hx, e3, e4, Nat.mul_comm b, ← Nat.mul_add, Nat.mul_div_mul_left _ _ (hp k), Nat.mul_div_mul_left _ _ (hp k), ← Nat.div_div_eq_div_mul, ← Nat.div_div_eq_div_mul]
   congr 2
   omega
 ·unfold dig
  rw [e]
  obtain ⟨d, r, hk, hr⟩ : ∃ d r, k = 4 * d + r ∧ r < 4 := ⟨k / 4, k % 4, by omega, by omega⟩
  have h1 : k / 4 = d := by omega
  have h2 : k % 4 = r := by omega
  rw [h1, h2, hk]
  have e1 : 256 ^ (4 * d + r + 1) * Q = 256 ^ (4 * d) * (256 ^ (r + 1) * Q) := by
   rw [Nat.add_assoc, Nat.pow_add, Nat.mul_assoc]
  have e2 : b * 256 ^ (4 * d + r) = 256 ^ (4 * d) * (b * 256 ^ r) := by
   rw [Nat.pow_add]; simp only [Nat.mul_assoc, Nat.mul_comm, Nat.mul_left_comm]
  rw [e1, e2, ← Nat.mul_add, Nat.mul_div_cancel_left _ (hp _), Nat.mul_div_cancel_left _ (hp _)]
  have : r = 0 ∨ r = 1 ∨ r = 2 ∨ r = 3 := by omega
  rcases this with rfl | rfl | rfl | rfl <;> simp <;> omega
theorem or_place {x b r : Nat} (hx : x < 4294967296) (hm : x % 256 ^ (r + 1) = 0) (hb : b < 256) (hr : r < 4) : bits .or .u32 (x : Int) ((b * 256 ^ r : Nat) : Int) = ((x + b * 256 ^ r : Nat) : Int) := by
 have h : b * 256 ^ r < 256 ^ (r + 1) := by rw [Nat.pow_succ, Nat.mul_comm]; exact Nat.mul_lt_mul_of_pos_left hb (Nat.pow_pos (by decide))
 have h2 : (256 : Nat) ^ (r + 1) ≤ 256 ^ 4 := Nat.pow_le_pow_right (by decide) (by omega)
 rw [u32_or_nat _ _ hx (by omega), nat_join (8 * (r + 1)) x _ (by rw [Nat.pow_mul]; exact hm) (by rw [Nat.pow_mul]; exact h)]
theorem Num.setDig {w : World} {b R R' d : Nat} {t : TypeId} (h : Num w b t R) (hd : d < 8) (hj : ∀ j, j ≠ d → dig R' j = dig R j) : Num (w.setCell ⟨b, d, none⟩ (.int .u32 (digI R' d))) b t R' := by
 refine zlb (h.row.set d _) fun j hj8 => ?_
 by_cases e : j = d
 ·rw [if_pos e, e]; rfl
 ·rw [if_neg e]; unfold numF digI; rw [hj j e]
def sofar (l : List UInt8) (n i : Nat) : Nat := zua (l.take i) * 256 ^ (n - i)
theorem sofar_next {l : List UInt8} {n i : Nat} (hl : l.length = n) (hi : i < n) : ∃ b : UInt8, l[i]? = some b ∧ sofar l n (i + 1) = sofar l n i + b.toNat * 256 ^ (n - 1 - i) ∧ 256 ^ (n - 1 - i + 1) ∣ sofar l n i := by
 have h : i < l.length := by omega
 refine ⟨l[i], List.getElem?_eq_getElem h, ?_, ?_⟩
 ·unfold sofar
  rw [List.take_succ_eq_append_getElem h, readN_snoc, show n - i = n - 1 - i + 1 by omega, show n - (i + 1) = n - 1 - i by omega, Nat.pow_succ]
  grind
 ·unfold sofar
  rw [show n - 1 - i + 1 = n - i by omega]
  exact Nat.dvd_mul_left _ _
theorem sofar_zero (l : List UInt8) (n : Nat) : sofar l n 0 = 0 := by unfold sofar; simp [zua]
theorem sofar_all {l : List UInt8} {n : Nat} (hl : l.length = n) : sofar l n n = zua l := by unfold sofar; rw [List.take_of_length_le (by omega)]; simp
attribute [irreducible] sofar
theorem place_step {l : List UInt8} {n i : Nat} (hl : l.length = n) (hn : n ≤ 32) (hi : i < n) : ∃ (b : UInt8) (d r : Nat), l[i]? = some b ∧ n - 1 - i = 4 * d + r ∧ d < 8 ∧ r < 4 ∧
  (∀ j, j ≠ d → dig (sofar l n (i + 1)) j = dig (sofar l n i) j) ∧ bits .or .u32 (digI (sofar l n i) d) ((b.toNat * 256 ^ r : Nat) : Int) = digI (sofar l n (i + 1)) d := by
 obtain ⟨b, h1, h2, h3⟩ := sofar_next hl hi
 obtain ⟨q1, q2, q3⟩ := dig_place h3 b.toNat_lt
 refine ⟨b, (n - 1 - i) / 4, (n - 1 - i) % 4, h1, by omega, by omega, by omega, fun j hj => by rw [h2]; exact q1 j hj, ?_⟩
 unfold digI
 rw [or_place (dig_lt _ _) q3 b.toNat_lt (by omega), h2, q2]
theorem rread_any (A : Option Addr) (l : List UInt8) (n cap : Nat) (hl : l.length = n) (hn : n ≤ 32) (w : World) (hR : Rd w A l) :
  Calls Tryz.prog 120 #[.slice A n cap] w fun e w' => e = .returned (.tuple #[numV (zua l), .bool true]) ∧ Below w.heap.size w w' := by
 have PS := hid (fun i hi => @place_step l n i hl hn hi)
 have SA := hid (sofar_all hl)
 have g0 := (Num.new w 27 0).alloc (.cells (numA 0) 27)
 have g1 := Num.new (w.alloc (.cells (numA 0) 27)) 27 0
 rw [World.size_alloc, ← sofar_zero l n] at g1
 have gb : Below w.heap.size w ((w.alloc (.cells (numA 0) 27)).alloc (.cells (numA 0) 27)) := ((Below.refl _ _).alloc (Nat.le_refl _) _).alloc (by simp) _
 have hs : ((w.alloc (.cells (numA 0) 27)).alloc (.cells (numA 0) 27)).heap.size = w.heap.size + 2 := by simp
 rw [sofar_zero] at g1
 rw [← zeroA] at g0 g1 gb hs
 have SZ := hid (sofar_zero l n)
 have HL := hid hl
 clear hl
 go_enter Tryz.func120, Tryz.ntmps120
 go_wp2
 generalize World.alloc (World.alloc _ _) _ = W at *
 go_loopw [5] (fun i wr => ∃ k : Nat, k ≤ n ∧ i = .int .i64 k ∧ Num wr (w.heap.size + 1) 27 (sofar l n k) ∧ W.grownBy wr (some (w.heap.size + 1))) (fun i _ => n - (intOf i).toNat)
 case atStart => exact ⟨0, by omega, rfl, by rw [SZ.out]; exact g1, World.grownBy.refl _ _⟩
 case round =>
  obtain ⟨i, hi, rfl, hnm, hg⟩ := hrel
  clear g1
  by_cases hlt : i < n
  ·obtain ⟨b, d, r, hb, hk, hd, hr, hj, hor⟩ := PS.out i hlt
   have hbb := b.toNat_lt
   have hcd := hnm.cell hd
   have hfd := hnm.frozen d
   have hB := zf gb hg (by omega) (by omega)
   obtain ⟨bb, oo, rfl, hbb2, hcl⟩ := (hR.below hB (Nat.le_refl _)).at (by have := HL.out; omega)
   have hcb := hcl i b hb
   clear hcl
   have HK := hid hk
   have HN := hid (hnm.setDig hd hj)
   clear hk hj hb
   obtain ⟨c, hc⟩ : ∃ c : Int, c = (b.toNat : Int) := ⟨_, rfl⟩
   rw [← hc] at hcb
   have hr3 : r = 0 ∨ r = 1 ∨ r = 2 ∨ r = 3 := by omega
   have hoR := zka (sofar l n i) d
   have hoS := zla (sofar l n i) d
   rcases hr3 with rfl | rfl | rfl | rfl
   ·have hd8 : (d : Int) < 8 := by omega
    have hd0 : (0 : Int) ≤ (d : Int) := by omega
    have hor' : bits BinOp.or IntKind.u32 (digI (sofar l n i) d) (c % 4294967296) = digI (sofar l n (i + 1)) d := by rw [← hor, hc, Int.emod_eq_of_lt (by omega) (by omega)]; simp
    have hkI : (n : Int) - 1 - (i : Int) = 4 * (d : Int) := by have := HK.out; omega
    have hdd : IntKind.i64.wrap (d : Int) = (d : Int) := Go.IntWalk.i64_in _ (by omega)
    have hk4 : IntKind.i64.wrap ((4 * (d : Int)).tdiv 4) = (d : Int) := by rw [Int.tdiv_eq_ediv_of_nonneg (by omega), show (4 * (d : Int)) / 4 = (d : Int) by omega]; exact Go.IntWalk.i64_in _ (by omega)
    have hr4 : IntKind.i64.wrap ((4 * (d : Int)).tmod 4) = 0 := by rw [Int.tmod_eq_emod_of_nonneg (by omega), show (4 * (d : Int)) % 4 = 0 by omega]; rfl
    clear hor
    have hc0 : 0 ≤ c := by omega
    have hc1 : c < 256 := by omega
    clear hc
    go_wp2_with fail
    go_still_tail 18, (by kernel_rfl)
    change wpList _ _ _ _ _ (World.drew _)
    go_wp2
    go_roundw
    case rel => exact ⟨i + 1, by omega, by go_num, HN.out, only_drewN (zsa hg rfl _) 1⟩
    case measure => simp [intOf] <;> omega
   ·have hd8 : (d : Int) < 8 := by omega
    have hd0 : (0 : Int) ≤ (d : Int) := by omega
    have hor' : bits BinOp.or IntKind.u32 (digI (sofar l n i) d) (c * 256 % 4294967296) = digI (sofar l n (i + 1)) d := by rw [← hor, hc, Int.emod_eq_of_lt (by omega) (by omega)]; simp
    have hkI : (n : Int) - 1 - (i : Int) = 4 * (d : Int) + 1 := by have := HK.out; omega
    have hk4 : IntKind.i64.wrap ((4 * (d : Int) + 1).tdiv 4) = (d : Int) := by rw [Int.tdiv_eq_ediv_of_nonneg (by omega), show (4 * (d : Int) + 1) / 4 = (d : Int) by omega]; exact Go.IntWalk.i64_in _ (by omega)
    have hr4 : IntKind.i64.wrap ((4 * (d : Int) + 1).tmod 4) = 1 := by rw [Int.tmod_eq_emod_of_nonneg (by omega), show (4 * (d : Int) + 1) % 4 = 1 by omega]; rfl
    clear hor
    have hc0 : 0 ≤ c := by omega
    have hc1 : c < 256 := by omega
    clear hc
    go_wp2_with fail
    go_still_tail 18, (by kernel_rfl)
    change wpList _ _ _ _ _ (World.drew _)
    go_wp2
    go_roundw
    case rel => exact ⟨i + 1, by omega, by go_num, HN.out, only_drewN (zsa hg rfl _) 1⟩
    case measure => simp [intOf] <;> omega
   ·have hd8 : (d : Int) < 8 := by omega
    have hd0 : (0 : Int) ≤ (d : Int) := by omega
    have hor' : bits BinOp.or IntKind.u32 (digI (sofar l n i) d) (c * 65536 % 4294967296) = digI (sofar l n (i + 1)) d := by rw [← hor, hc, Int.emod_eq_of_lt (by omega) (by omega)]; simp
    have hkI : (n : Int) - 1 - (i : Int) = 4 * (d : Int) + 2 := by have := HK.out; omega
    have hk4 : IntKind.i64.wrap ((4 * (d : Int) + 2).tdiv 4) = (d : Int) := by rw [Int.tdiv_eq_ediv_of_nonneg (by omega), show (4 * (d : Int) + 2) / 4 = (d : Int) by omega]; exact Go.IntWalk.i64_in _ (by omega)
    have hr4 : IntKind.i64.wrap ((4 * (d : Int) + 2).tmod 4) = 2 := by rw [Int.tmod_eq_emod_of_nonneg (by omega), show (4 * (d : Int) + 2) % 4 = 2 by omega]; rfl
    clear hor
    have hc0 : 0 ≤ c := by omega
    have hc1 : c < 256 := by omega
    clear hc
    go_wp2_with fail
    go_still_tail 18, (by kernel_rfl)
    change wpList _ _ _ _ _ (World.drew _)
    go_wp2
    go_roundw
    case rel => exact ⟨i + 1, by omega, by go_num, HN.out, only_drewN (zsa hg rfl _) 1⟩
    case measure => simp [intOf] <;> omega
   ·have hd8 : (d : Int) < 8 := by omega
    have hd0 : (0 : Int) ≤ (d : Int) := by omega
    have hor' : bits BinOp.or IntKind.u32 (digI (sofar l n i) d) (c * 16777216 % 4294967296) = digI (sofar l n (i + 1)) d := by rw [← hor, hc, Int.emod_eq_of_lt (by omega) (by omega)]; simp
    have hkI : (n : Int) - 1 - (i : Int) = 4 * (d : Int) + 3 := by have := HK.out; omega
    have hk4 : IntKind.i64.wrap ((4 * (d : Int) + 3).tdiv 4) = (d : Int) := by rw [Int.tdiv_eq_ediv_of_nonneg (by omega), show (4 * (d : Int) + 3) / 4 = (d : Int) by omega]; exact Go.IntWalk.i64_in _ (by omega)
    have hr4 : IntKind.i64.wrap ((4 * (d : Int) + 3).tmod 4) = 3 := by rw [Int.tmod_eq_emod_of_nonneg (by omega), show (4 * (d : Int) + 3) % 4 = 3 by omega]; rfl
    clear hor
    have hc0 : 0 ≤ c := by omega
    have hc1 : c < 256 := by omega
    clear hc
    go_wp2_with fail
    go_still_tail 18, (by kernel_rfl)
    change wpList _ _ _ _ _ (World.drew _)
    go_wp2
    go_roundw
    case rel => exact ⟨i + 1, by omega, by go_num, HN.out, only_drewN (zsa hg rfl _) 1⟩
    case measure => simp [intOf] <;> omega
  ·obtain rfl : i = n := by omega
   have hB := zf gb hg (by omega) (by omega)
   have m0 : Num wr w.heap.size 27 0 := g0.grown hg (by simp)
   rw [SA.out] at hnm
   go_wp2_with (first | (refine ze rfl _ _ rfl _ rfl _ _ _ hnm Tryz.underlying27 rfl zd ?_) | (refine zl rfl _ _ _ rfl _ rfl _ rfl _ rfl m0 zd ?_; intro w5 hg5 m5))
   exact bodyPost_ret (z2a rfl rfl m5 Tryz.underlying27 rfl zd) rfl ⟨rfl, zf hB hg5 hB.size (by omega)⟩
end Go.Proofs.YtcfepoopkfhojaaGreat
namespace Go.Proofs.YtcfepoopkfhojaaGreat
open Go.ChangeShapes Go.WideShapes Go.ChangeAt Go.RowKit Go.Shelf
theorem cat_le {B : Nat} : ∀ {L : List (List UInt8)}, (∀ l ∈ L, l.length ≤ B) → (cat L).length ≤ L.length * (B + 8)
 | [], _ => Nat.zero_le _
 | l :: L, h => by
  have h1 := h l (List.mem_cons_self ..)
  have h2 := cat_le fun q hq => h q (List.mem_cons_of_mem _ hq)
  rw [List.length_cons, Nat.succ_mul]
  simp only [cat, List.length_append, ztb]
  omega
theorem cat_5 {L : List (List UInt8)} (hL : L.length ≤ 6) (h : ∀ l ∈ L, l.length ≤ 200) : (cat L).length ≤ 5000 := by
 have h1 := cat_le h
 have h2 : L.length * (200 + 8) ≤ 6 * (200 + 8) := Nat.mul_le_mul_right _ hL
 omega
theorem le_2 {L : List (List UInt8)} (h : ∀ l ∈ L, l.length ≤ 200) : ∀ l ∈ L, l.length ≤ 2000 := fun l hl => Nat.le_trans (h l hl) (by decide)
theorem srof_b {w : World} {u : Value} {L : List (List UInt8)} (hu : IsP w L u) (hL : L.length ≤ 6) (h : ∀ l ∈ L, l.length ≤ 200) :
  Calls Tryz.prog 29 #[u] w fun e w' => e = .returned (.agg (zi (outF (macW [] L)))) ∧ Below w.heap.size w w' := by
 obtain ⟨B, d, rfl, k1, k2, k3⟩ := hu
 exact rof_any B L _ d rfl k1 (Nat.le_trans hL (by decide)) (le_2 h) (cat_5 hL h) w k3
theorem srmac_b {w : World} {v u : Value} {key : List UInt8} {L : List (List UInt8)} (hv : IsB w key v) (hk : key.length ≤ 2000) (hu : IsP w L u) (hL : L.length ≤ 6) (h : ∀ l ∈ L, l.length ≤ 200) :
  Calls Tryz.prog 78 #[v, u] w fun e w' => e = .returned (.agg (zi (outF (macW key L)))) ∧ Below w.heap.size w w' := by
 obtain ⟨A, c, rfl, a1, a2, a3, a4⟩ := hv
 obtain ⟨B, d, rfl, k1, k2, k3⟩ := hu
 exact rmac_any A key _ c rfl a3 hk B L _ d rfl k1 (Nat.le_trans hL (by decide)) (le_2 h) (cat_5 hL h) w a4 k3
theorem srstretch_b {w : World} {v u : Value} {pass salt : List UInt8} (hv : IsB w pass v) (hu : IsB w salt u) (l0 : pass.length ≤ 2000) (l1 : salt.length ≤ 2000) :
  Calls Tryz.prog 91 #[v, u, .int .i64 3] w fun e w' => e = .returned (.agg (zi (strA pass salt 2))) ∧ Below w.heap.size w w' := by
 obtain ⟨A, c, rfl, a1, a2, a3, a4⟩ := hv
 obtain ⟨B, d, rfl, b1, b2, b3, b4⟩ := hu
 exact rstretch_any A pass _ c rfl a1 a2 a3 B salt _ d rfl b1 b2 b3 l0 l1 3 (by decide) (by decide) 2 (by decide) w a4 b4
theorem sb_r (y : Nat → Int) (hy : ∀ k, 0 ≤ y k ∧ y k < 256) (w : World) : Calls Tryz.prog 18 #[.agg (zi y)] w fun e w' => ∃ v, e = .returned v ∧ Below w.heap.size w w' ∧ IsB w' (sumY y) v :=
 (srbytes_any y hy w).mono fun e w' ⟨v, h1, h2, h3⟩ => ⟨v, h1, h3, h2.isb⟩
theorem rb_r (a : Nat) (w : World) : Calls Tryz.prog 26 #[numV a] w fun e w' => ∃ v, e = .returned v ∧ Below w.heap.size w w' ∧ IsB w' (zq a) v :=
 (rbytes_any a w).mono fun e w' ⟨A, c, h1, h2, h3, h4, h5⟩ => ⟨_, h1, h5, A, c, by rw [zya], by rw [zya]; exact h2, h3, (fun e => by
  obtain ⟨ad, h, _⟩ := h4 (by rw [zya]; decide)
  rw [e] at h; cases h), h4⟩
theorem srread_b {l : List UInt8} {v : Value} {N : Nat} (w : World) (h : IsB w l v) (hl : l.length ≤ 32) (hN : zua l = N) :
  Calls Tryz.prog 120 #[v] w fun e w' => e = .returned (.tuple #[numV N, .bool true]) ∧ Below w.heap.size w w' := by
 subst hN
 obtain ⟨A, c, rfl, h1, h2, h3, h4⟩ := h
 exact rread_any A l _ c rfl hl w h4
section
variable {Q : Exit → Act → World → Prop} {a : Act} {w : World} {o : Oper} {B : Nat} {ops : Array Oper}
theorem hop_cvS (hw : Region.wanted o (yielded ops a.tmps) = true) (hB : B ≤ w.heap.size) (x : Operand) (ho : o.op = .convert 9 22 x) {s : ByteArray} (hx : a.eval x = .string s) (hs : s.size ≤ 1000000) :
  if Region.wanted o (yielded ops a.tmps) = true then o.wp Tryz.prog a w (fun a' w' => ∃ v, a' = a.put o.dst v ∧ Kc B w w' ∧ (StK.bytes (sBy s)).F w' v) Q else (StK.bytes (sBy s)).F w undef := by
 obtain ⟨v, w', h1, h2⟩ := run_cvS (Mx.start w) 0 x ho hx hs
 exact hop_growK (F := (StK.bytes (sBy s)).F) hw v h1 (Kc.of_below hB h2.below) (h2.at_ 0 _ rfl).1
theorem isb5 {w : World} {l1 l2 l3 l4 l5 : List UInt8} {v1 v2 v3 v4 v5 : Value} (h1 : IsB w l1 v1) (h2 : IsB w l2 v2) (h3 : IsB w l3 v3) (h4 : IsB w l4 v4) (h5 : IsB w l5 v5) : ∀ (j : Nat) (l : List UInt8) (v : Value), [l1, l2, l3, l4, l5][j]? = some l → [v1, v2, v3, v4, v5][j]? = some v → IsB w l v
 | 0, l, v, hl, hv => by cases hl; cases hv; exact h1
 | 1, l, v, hl, hv => by cases hl; cases hv; exact h2
 | 2, l, v, hl, hv => by cases hl; cases hv; exact h3
 | 3, l, v, hl, hv => by cases hl; cases hv; exact h4
 | 4, l, v, hl, hv => by cases hl; cases hv; exact h5
 | j + 5, l, v, hl, hv => by cases hl
theorem hop_parts5 (hw : Region.wanted o (yielded ops a.tmps) = true) (hB : B ≤ w.heap.size) (x1 x2 x3 x4 x5 : Operand) (ho : o.op = .buildSlice 54 5 #[(0, x1), (1, x2), (2, x3), (3, x4), (4, x5)]) {l1 l2 l3 l4 l5 : List UInt8} (h1 : IsB w l1 (a.eval x1)) (h2 : IsB w l2 (a.eval x2)) (h3 : IsB w l3 (a.eval x3)) (h4 : IsB w l4 (a.eval x4)) (h5 : IsB w l5 (a.eval x5)) :
  if Region.wanted o (yielded ops a.tmps) = true then o.wp Tryz.prog a w (fun a' w' => ∃ v, a' = a.put o.dst v ∧ Kc B w w' ∧ (StK.parts [l1, l2, l3, l4, l5]).F w' v) Q else (StK.parts [l1, l2, l3, l4, l5]).F w undef := by
 obtain ⟨A1, c1, e1, _⟩ := id h1
 obtain ⟨A2, c2, e2, _⟩ := id h2
 obtain ⟨A3, c3, e3, _⟩ := id h3
 obtain ⟨A4, c4, e4, _⟩ := id h4
 obtain ⟨A5, c5, e5, _⟩ := id h5
 refine hop_parts (n := 5) hw hB ho (vs := [a.eval x1, a.eval x2, a.eval x3, a.eval x4, a.eval x5]) (L := [l1, l2, l3, l4, l5]) rfl rfl (by decide) (by decide) ?_ (isb5 h1 h2 h3 h4 h5)
 simp only [List.map_toArray, List.map_cons, List.map_nil, e1, e2, e3, e4, e5]
 kernel_rfl
end
end Go.Proofs.YtcfepoopkfhojaaGreat
namespace Go.Proofs.YtcfepoopkfhojaaGreat
open Go.ChangeShapes Go.WideShapes Go.ChangeAt Go.RowKit
theorem rnumber7_any (y : Nat → Int) (hy : ∀ k, 0 ≤ y k ∧ y k < 256) (w : World) :
  Calls Tryz.prog 94 #[.agg (zi y)] w fun e w' => e = .returned (numV (zua (sumY y))) ∧ Below w.heap.size w w' := by
 obtain ⟨N, hN⟩ : ∃ N, zua (sumY y) = N := ⟨_, rfl⟩
 have hsl := zsb y
 rw [hN]
 refine zea (args := [.agg (zi y)]) 12 Tryz.func94 rfl rfl rfl ?_
 intro fa F
 have M := Mx.start w
 refine zT fun _ hK1 => zh (zc rfl) rfl F rfl M 0 (t := 35) (c := zi y) (by unfold execOp; simp only [(F.get (t := 0) rfl)]; kernel_rfl) ?_
 intro g2 a2 w2 F2 M2
 refine zh (zc rfl) rfl F2 rfl M2 1 (t := 27) (c := numA 0) (zu rfl) ?_
 intro g3 a3 w3 F3 M3
 refine hK1 _ _ (zT fun _ hK4 => zj (w' := w3) (zc rfl) rfl F3 rfl _ (zxa _ _ rfl (F3.get (t := 1) rfl) (M3.blk (k := 0) rfl) (zi y) (z1a rfl) Tryz.underlying35 rfl (by kernel_rfl)) fun _ F5 => ?_)
 refine zaa (zc rfl) rfl F5 rfl rfl (zE Tryz.func18 rfl) #[.agg (zi y)] (zwa (F5.get (t := 6) rfl)) ((srbytes_any y hy w3)) ?_
 rintro v6 w6 a6 h6 F6
 have M6 := M3.newO h6.2 2 h6.1
 clear M3 h6
 obtain ⟨A6, c6, rfl⟩ := (M6.isO (k := 2) rfl).shape
 refine zaa (zc rfl) rfl F6 rfl rfl (zE Tryz.func120 rfl) #[.slice A6 ((sumY y)).length c6] (zwa (F6.get (t := 7) rfl)) (zca ((srread_b w6 (M6.isO (k := 2) rfl) (by rw [hsl]; decide) hN))) ?_
 rintro _ w7 a7 ⟨rfl, b7⟩ F7
 have M7 := M6.step b7
 refine zB 3 [(2, .pointer (some ⟨g3, 0, none⟩)), (9, numV N), (10, .bool true)] [] dnil [] F7 fun _ F8 => ?_
 refine zh (zc rfl) rfl F8 rfl M7 3 (t := 27) (c := numA 0) (zu rfl) ?_
 intro g9 a9 w9 F9 M9
 refine zr (zc rfl) rfl F9 M9 (k := 3) rfl _ _ _ rfl (F9.get (t := 3) rfl) (F9.get (t := 9) rfl) (numA N) _ rfl (zL rfl) (zy _) (zo rfl) zd ?_
 intro w10 M10
 refine rm rfl F9 fun _ F11 => hK4 _ _ (zT fun _ hK12 => zj (w' := w10) (zc rfl) rfl F11 rfl (numV N) (zxa _ _ rfl (F11.get (t := 3) rfl) (M10.blk (k := 3) rfl) (numA N) (z1a rfl) Tryz.underlying27 rfl zd) fun _ F13 => ?_)
 refine zr (zc rfl) rfl F13 M10 (k := 1) rfl _ _ _ rfl (F13.get (t := 2) rfl) (F13.get (t := 11) rfl) (numA N) _ rfl (zL rfl) (zy _) (zo rfl) zd ?_
 intro w14 M14
 refine hK12 _ _ (wp_ret ?_)
 try simp only [Exit.then, Exit.inBlock, Exit.jump]
 exact bodyPost_ret (results_cell_row rfl _ _ _ _ _ (0, 0) _ (F13.get rfl) (M14.blk (k := 1) rfl) Tryz.underlying27 rfl zd) F13.defers ⟨rfl, M14.below⟩
theorem rexp4_any (k : Int) (P Q g : Nat) (h2 : 2 < Q) (hQ5 : Q < 4294967296) (l : List UInt8) (hl : l.length ≤ 200) (v : Value) (w : World) (hB : IsB w l v) :
  Calls Tryz.prog 59 #[.agg (zg k P Q g), v] w fun e w' => e = .returned (numV (expN Q l)) ∧ Below w.heap.size w w' := by
 have hQ : Q < 4294967296 ^ 8 := Nat.lt_trans hQ5 (by decide)
 obtain ⟨Al, cl, rfl⟩ := id hB.shape
 obtain ⟨S, hS⟩ : ∃ S, macW [] [[101, 120, 112, 111, 110, 101, 110, 116], l] = S := ⟨_, rfl⟩
 have kM := fun (w : World) (u : Value) (h : IsP w [[101, 120, 112, 111, 110, 101, 110, 116], l] u) => srof_b h (by simp) (fun q hq => by
  rcases List.mem_cons.1 hq with rfl | hq
  ·decide
  ·rcases List.mem_cons.1 hq with rfl | hq
   ·exact hl
   ·cases hq)
 rw [hS] at kM
 obtain ⟨N, hN⟩ : ∃ N, zua (sumY (outF S)) = N := ⟨_, rfl⟩
 have kN := fun w => rnumber7_any (outF S) (zzb S) w
 rw [hN] at kN
 have hNl : N < 4294967296 ^ 8 := by rw [← hN]; exact readN_lt_num (by rw [zsb]; decide)
 obtain ⟨M1, hM1⟩ : ∃ M1, Q - 1 = M1 := ⟨_, rfl⟩
 obtain ⟨r, hr⟩ : ∃ r, N % M1 = r := ⟨_, rfl⟩
 have hrl : r < M1 := by rw [← hr]; exact Nat.mod_lt _ (by omega)
 have kL := fun w => rleft_any N M1 hNl (by omega) (by omega) w
 rw [hr] at kL
 have kF := fun w => from_ref ((r + 1 : Nat) : Int) (by omega) (by omega) w
 rw [Int.toNat_natCast] at kF
 rw [show expN Q l = r + 1 by unfold expN; rw [hS, hN, hM1, hr]]
 clear hr hN hS
 have kS := fun w => rsmall_any Q hQ5 w
 refine zea (args := [.agg (zg k P Q g), .slice Al l.length cl]) 20 Tryz.func59 rfl rfl rfl ?_
 intro fa F
 have M := Mx.start w
 replace M := M.argB 0 hB (fun g e => by cases e)
 refine zT fun _ hK1 => zh (zc rfl) rfl F rfl M 1 (t := 29) (c := zg k P Q g) (by unfold execOp; simp only [(F.get (t := 0) rfl)]; kernel_rfl) ?_
 intro g2 a2 w2 F2 M2
 refine zh (zc rfl) rfl F2 rfl M2 2 (t := 27) (c := numA 0) (zu rfl) ?_
 intro g3 a3 w3 F3 M3
 refine hK1 _ _ (zSk fun _ hK4 => ?_)
 have hD5 := (zp (M3.blk (k := 1) rfl) dnil)
 refine zha F3 (SK [.inr (StK.lit w3.heap.size [101, 120, 112, 111, 110, 101, 110, 116]), .inr (StK.lit w3.heap.size [101, 120, 112, 111, 110, 101, 110, 116]), .inl (.slice Al l.length cl), .inr (StK.parts [[101, 120, 112, 111, 110, 101, 110, 116], l]), .inl (.agg (zi (outF S))), .inl (numV N), .inl (.pointer (some ⟨g2, 9, none⟩)), .inl (numV Q), .inl (.int .i64 (Q : Int)), .inl (.int .i64 (M1 : Int)), .inl (.int .i64 (r : Int)), .inl (.int .i64 (r : Int))]) 12 rfl (by kernel_rfl) ⟨?_, ?_, hop0 F3 (by kernel_rfl), ?_, ?_, hopC F3 [(10, .agg (zi (outF S)))] rfl (zE Tryz.func94 rfl) fun uw hb => kN uw, hop0 F3 (by kernel_rfl), hopP F3 hD5 0 (some g2) (by kernel_rfl), hopC F3 [(13, numV Q)] rfl (zE Tryz.func60 rfl) fun uw hb => kS uw, hopR F3 [(14, .int .i64 (Q : Int))] (v := .int .i64 (M1 : Int)) fun ua uw hb ⟨e14, _⟩ => (y_subI _ _ _ _ rfl e14 rfl (by omega) (by omega)), hopC F3 [(11, numV N), (15, .int .i64 (M1 : Int))] rfl (zE Tryz.func61 rfl) fun uw hb => kL uw, hop0 F3 (by kernel_rfl), trivial⟩ ?_
 ·intro ua uw hb hd
  exact hop_lit (zc rfl) hb.size [101, 120, 112, 111, 110, 101, 110, 116] (by decide) (by decide) _ rfl (by simp only [List.map_toArray, List.map_cons, List.map_nil]; kernel_rfl)
 ·intro ua uw hb hd
  have l6 : LitB w3.heap.size uw [101, 120, 112, 111, 110, 101, 110, 116] (ua.eval (.tmp 6)) := hd 6 (by decide)
  have e6 := l6.isB
  exact zmc (zc rfl) _ rfl l6
 ·intro ua uw hb hd
  have l7 : LitB w3.heap.size uw [101, 120, 112, 111, 110, 101, 110, 116] (ua.eval (.tmp 7)) := hd 7 (by decide)
  have e7 := l7.isB
  have e8 : ua.eval (.tmp 8) = .slice Al l.length cl := hd 8 (by decide)
  exact hop_parts2 (zc rfl) hb.size (.tmp 7) (.tmp 8) rfl e7 (by rw [e8]; exact ((M3.step hb).isb (k := 0) rfl))
 ·intro ua uw hb hd
  have e9 : IsP uw [[101, 120, 112, 111, 110, 101, 110, 116], l] (ua.eval (.tmp 9)) := hd 9 (by decide)
  exact zba (F := (StK.eq (.agg (zi (outF S)))).F) (zc rfl) hb.size rfl #[(ua.eval (.tmp 9))] (zwa rfl) (zE Tryz.func29 rfl) (zqa ((kM _ _ e9)))
 intro p6 a6 w6 b6 G6 y6
 obtain ⟨-, -, -, -, -, -, -, -, -, -, -, q11, -⟩ := y6
 have r11 : p6 11 = .int .i64 (r : Int) := q11 (by decide)
 simp only [List.take, layV, Nat.zero_add, Nat.reduceAdd, r11] at G6
 have M6 := M3.kc b6
 clear F3 M3 r11 q11
 refine hK4 _ _ (zT fun _ hK7 => rm rfl G6 fun _ F8 => zj (w' := w6) (zc rfl) rfl F8 rfl (.int .i64 ((r + 1 : Nat) : Int)) (y_addI _ _ _ _ rfl (F8.get (t := 17) rfl) rfl (by omega) (by omega)) fun _ F9 => ?_)
 refine zaa (zc rfl) rfl F9 rfl rfl (zE Tryz.func63 rfl) #[.int .i64 ((r + 1 : Nat) : Int)] (zwa (F9.get (t := 18) rfl)) (zca (kF w6)) ?_
 rintro _ w10 a10 ⟨rfl, b10⟩ F10
 have M10 := M6.step b10
 refine zr (zc rfl) rfl F10 M10 (k := 2) rfl _ _ _ rfl (F10.get (t := 4) rfl) (F10.get (t := 19) rfl) (numA (r + 1)) _ rfl (zL rfl) (zy _) (zo rfl) zd ?_
 intro w11 M11
 refine hK7 _ _ (wp_ret ?_)
 try simp only [Exit.then, Exit.inBlock, Exit.jump]
 exact bodyPost_ret (results_cell_row rfl _ _ _ _ _ (0, 0) _ (F10.get rfl) (M11.blk (k := 2) rfl) Tryz.underlying27 rfl zd) F10.defers ⟨rfl, M11.below⟩
theorem rexp7_any (k : Int) (P Q g : Nat) (h2 : 2 < Q) (hQ5 : Q < 4294967296) (L : List (List UInt8)) (hL : L.length ≤ 6) (hb : ∀ l ∈ L, l.length ≤ 200) (u : Value) (w : World) (hu : IsP w L u) :
  Calls Tryz.prog 25 #[.agg (zg k P Q g), u] w fun e w' => e = .returned (numV (expN Q (sumY (outF (macW [] L))))) ∧ Below w.heap.size w w' := by
 obtain ⟨S, hS⟩ : ∃ S, macW [] L = S := ⟨_, rfl⟩
 have kM := fun (w : World) (h : IsP w L u) => srof_b h hL hb
 rw [hS] at kM
 obtain ⟨N, hN⟩ : ∃ N, expN Q (sumY (outF S)) = N := ⟨_, rfl⟩
 have kE := fun (w : World) (v : Value) (h : IsB w (sumY (outF S)) v) => rexp4_any k P Q g h2 hQ5 (sumY (outF S)) (by rw [zsb]; decide) v w h
 have hbd := zzb S
 rw [hS, hN]
 rw [hN] at kE
 clear hN hS
 refine zea (args := [.agg (zg k P Q g), u]) 10 Tryz.func25 rfl rfl rfl ?_
 intro fa F
 have M := Mx.start w
 refine zT fun _ hK1 => zh (zc rfl) rfl F rfl M 0 (t := 29) (c := zg k P Q g) (by unfold execOp; simp only [(F.get (t := 0) rfl)]; kernel_rfl) ?_
 intro g2 a2 w2 F2 M2
 refine zh (zc rfl) rfl F2 rfl M2 1 (t := 27) (c := numA 0) (zu rfl) ?_
 intro g3 a3 w3 F3 M3
 refine hK1 _ _ (zSk fun _ hK4 => ?_)
 have hD5 := (zp (M3.blk (k := 0) rfl) dnil)
 refine zha F3 (SK [.inl (.agg (zg k P Q g)), .inl (u), .inl (.agg (zi (outF S))), .inr (StK.bytes (sumY (outF S))), .inl (numV N)]) 5 rfl (by kernel_rfl) ⟨hopP F3 hD5 0 (some g2) (by kernel_rfl), hop0 F3 (by kernel_rfl), hopC F3 [(6, u)] rfl (zE Tryz.func29 rfl) fun uw hb => (kM uw (hu.step (M3.step hb).below)), ?_, ?_, trivial⟩ ?_
 ·intro ua uw hb hd
  have e7 : ua.eval (.tmp 7) = .agg (zi (outF S)) := hd 7 (by decide)
  exact zba (F := (StK.bytes (sumY (outF S))).F) (zc rfl) hb.size rfl #[.agg (zi (outF S))] (zwa e7) (zE Tryz.func18 rfl) ((sb_r (outF S) hbd uw))
 ·intro ua uw hb hd
  have e5 : ua.eval (.tmp 5) = .agg (zg k P Q g) := hd 5 (by decide)
  have e8 : IsB uw (sumY (outF S)) (ua.eval (.tmp 8)) := hd 8 (by decide)
  exact zba (F := (StK.eq (numV N)).F) (zc rfl) hb.size rfl #[.agg (zg k P Q g), (ua.eval (.tmp 8))] (z3a e5 rfl) (zE Tryz.func59 rfl) (zqa ((kE uw _ e8)))
 intro p6 a6 w6 b6 G6 y6
 obtain ⟨-, -, -, -, q4, -⟩ := y6
 have r4 : p6 4 = numV N := q4 (by decide)
 simp only [List.take, layV, Nat.zero_add, Nat.reduceAdd, r4] at G6
 have M6 := M3.kc b6
 clear F3 M3 r4 q4
 refine zr (zc rfl) rfl G6 M6 (k := 1) rfl _ _ _ rfl (G6.get (t := 4) rfl) (G6.get (t := 9) rfl) (numA N) _ rfl (zL rfl) (zy _) (zo rfl) zd ?_
 intro w7 M7
 refine hK4 _ _ (wp_ret ?_)
 try simp only [Exit.then, Exit.inBlock, Exit.jump]
 exact bodyPost_ret (results_cell_row rfl _ _ _ _ _ (0, 0) _ (G6.get (t := 4) rfl) (M7.blk (k := 1) rfl) Tryz.underlying27 rfl zd) G6.defers ⟨rfl, M7.below⟩
theorem rk7_any (k : Int) (P Q g : Nat) (h2 : 2 < Q) (hQ5 : Q < 4294967296) (w : World) :
  Calls Tryz.prog 44 #[.agg (zg k P Q g)] w fun e w' => e = .returned (numV (kN Q)) ∧ Below w.heap.size w w' := by
 obtain ⟨N, hN⟩ : ∃ N, kN Q = N := ⟨_, rfl⟩
 have kE := fun (w : World) (u : Value) (h : IsP w [[107]] u) => rexp7_any k P Q g h2 hQ5 [[107]] (by decide) (by simp) u w h
 rw [show expN Q (sumY (outF (macW [] [[107]]))) = N from hN] at kE
 rw [hN]
 clear hN
 refine zea (args := [.agg (zg k P Q g)]) 8 Tryz.func44 rfl rfl rfl ?_
 intro fa F
 have M := Mx.start w
 refine zT fun _ hK1 => zh (zc rfl) rfl F rfl M 0 (t := 29) (c := zg k P Q g) (by unfold execOp; simp only [(F.get (t := 0) rfl)]; kernel_rfl) ?_
 intro g2 a2 w2 F2 M2
 refine zh (zc rfl) rfl F2 rfl M2 1 (t := 27) (c := numA 0) (zu rfl) ?_
 intro g3 a3 w3 F3 M3
 refine hK1 _ _ (zSk fun _ hK4 => ?_)
 have hD5 := (zp (M3.blk (k := 0) rfl) dnil)
 refine region_fxU F3 (SK [.inl (.agg (zg k P Q g)), .inr (StK.lit w3.heap.size [107]), .inr (StK.lit w3.heap.size [107]), .inr (StK.parts [[107]]), .inl (numV N)]) 5 (by kernel_rfl) rfl ⟨hopP F3 hD5 0 (some g2) (by kernel_rfl), ?_, ?_, ?_, ?_, trivial⟩ ?_
 ·intro ua uw hb hd
  exact hop_lit (zc rfl) hb.size [107] (by decide) (by decide) _ rfl (by simp only [List.map_toArray, List.map_cons, List.map_nil]; kernel_rfl)
 ·intro ua uw hb hd
  have l4 : LitB w3.heap.size uw [107] (ua.eval (.tmp 4)) := hd 4 (by decide)
  have e4 := l4.isB
  exact zmc (zc rfl) _ rfl l4
 ·intro ua uw hb hd
  have l5 : LitB w3.heap.size uw [107] (ua.eval (.tmp 5)) := hd 5 (by decide)
  have e5 := l5.isB
  exact hop_parts1 (zc rfl) hb.size (.tmp 5) rfl e5
 ·intro ua uw hb hd
  have e3 : ua.eval (.tmp 3) = .agg (zg k P Q g) := hd 3 (by decide)
  have e6 : IsP uw [[107]] (ua.eval (.tmp 6)) := hd 6 (by decide)
  exact zba (F := (StK.eq (numV N)).F) (zc rfl) hb.size rfl #[.agg (zg k P Q g), (ua.eval (.tmp 6))] (z3a e3 rfl) (zE Tryz.func25 rfl) (zqa ((kE _ _ e6)))
 intro p6 a6 w6 b6 G6 y6
 obtain ⟨-, -, -, -, q4, -⟩ := y6
 have r4 : p6 4 = numV N := q4 (by decide)
 simp only [List.take, layV, Nat.zero_add, Nat.reduceAdd, r4] at G6
 have M6 := M3.kc b6
 clear F3 M3 r4 q4
 refine zr (zc rfl) rfl G6 M6 (k := 1) rfl _ _ _ rfl (G6.get (t := 2) rfl) (G6.get (t := 7) rfl) (numA N) _ rfl (zL rfl) (zy _) (zo rfl) zd ?_
 intro w7 M7
 refine hK4 _ _ (wp_ret ?_)
 try simp only [Exit.then, Exit.inBlock, Exit.jump]
 exact bodyPost_ret (results_cell_row rfl _ _ _ _ _ (0, 0) _ (G6.get (t := 2) rfl) (M7.blk (k := 1) rfl) Tryz.underlying27 rfl zd) G6.defers ⟨rfl, M7.below⟩
theorem ru7_any (k : Int) (P Q g : Nat) (h2 : 2 < Q) (hQ5 : Q < 4294967296) (a b : Nat) (w : World) :
  Calls Tryz.prog 45 #[.agg (zg k P Q g), numV a, numV b] w fun e w' => e = .returned (numV (uN Q a b)) ∧ Below w.heap.size w w' := by
 obtain ⟨N, hN⟩ : ∃ N, uN Q a b = N := ⟨_, rfl⟩
 have kE := fun (w : World) (u : Value) (h : IsP w [[117], zq a, zq b] u) => rexp7_any k P Q g h2 hQ5 [[117], zq a, zq b] (show 3 ≤ 6 by decide) (by simp [zya]) u w h
 rw [show expN Q (sumY (outF (macW [] [[117], zq a, zq b]))) = N from hN] at kE
 rw [hN]
 clear hN
 refine zea (args := [.agg (zg k P Q g), numV a, numV b]) 16 Tryz.func45 rfl rfl rfl ?_
 intro fa F
 have M := Mx.start w
 refine zT fun _ hK1 => zh (zc rfl) rfl F rfl M 0 (t := 29) (c := zg k P Q g) (by unfold execOp; simp only [(F.get (t := 0) rfl)]; kernel_rfl) ?_
 intro g2 a2 w2 F2 M2
 refine zh (zc rfl) rfl F2 rfl M2 1 (t := 27) (c := numA a) (by unfold execOp; simp only [(F2.get (t := 1) rfl)]; kernel_rfl) ?_
 intro g3 a3 w3 F3 M3
 refine zh (zc rfl) rfl F3 rfl M3 2 (t := 27) (c := numA b) (by unfold execOp; simp only [(F3.get (t := 2) rfl)]; kernel_rfl) ?_
 intro g4 a4 w4 F4 M4
 refine zh (zc rfl) rfl F4 rfl M4 3 (t := 27) (c := numA 0) (zu rfl) ?_
 intro g5 a5 w5 F5 M5
 refine hK1 _ _ (zSk fun _ hK6 => ?_)
 have hD7 := (zp (M5.blk (k := 0) rfl) (zp (M5.blk (k := 1) rfl) (zp (M5.blk (k := 2) rfl) dnil)))
 refine zha F5 (SK [.inl (.agg (zg k P Q g)), .inr (StK.lit w5.heap.size [117]), .inr (StK.lit w5.heap.size [117]), .inl (numV a), .inr (StK.bytes (zq a)), .inl (numV b), .inr (StK.bytes (zq b)), .inr (StK.parts [[117], (zq a), (zq b)]), .inl (numV N)]) 9 rfl (by kernel_rfl) ⟨hopP F5 hD7 0 (some g2) (by kernel_rfl), ?_, ?_, hopP F5 hD7 1 (some g3) (by kernel_rfl), ?_, hopP F5 hD7 2 (some g4) (by kernel_rfl), ?_, ?_, ?_, trivial⟩ ?_
 ·intro ua uw hb hd
  exact hop_lit (zc rfl) hb.size [117] (by decide) (by decide) _ rfl (by simp only [List.map_toArray, List.map_cons, List.map_nil]; kernel_rfl)
 ·intro ua uw hb hd
  have l8 : LitB w5.heap.size uw [117] (ua.eval (.tmp 8)) := hd 8 (by decide)
  have e8 := l8.isB
  exact zmc (zc rfl) _ rfl l8
 ·intro ua uw hb hd
  have e10 : ua.eval (.tmp 10) = numV a := hd 10 (by decide)
  exact zba (F := (StK.bytes (zq a)).F) (zc rfl) hb.size rfl #[numV a] (zwa e10) (zE Tryz.func26 rfl) ((rb_r a uw))
 ·intro ua uw hb hd
  have e12 : ua.eval (.tmp 12) = numV b := hd 12 (by decide)
  exact zba (F := (StK.bytes (zq b)).F) (zc rfl) hb.size rfl #[numV b] (zwa e12) (zE Tryz.func26 rfl) ((rb_r b uw))
 ·intro ua uw hb hd
  have l9 : LitB w5.heap.size uw [117] (ua.eval (.tmp 9)) := hd 9 (by decide)
  have e9 := l9.isB
  have e11 : IsB uw (zq a) (ua.eval (.tmp 11)) := hd 11 (by decide)
  have e13 : IsB uw (zq b) (ua.eval (.tmp 13)) := hd 13 (by decide)
  exact hop_parts3 (zc rfl) hb.size (.tmp 9) (.tmp 11) (.tmp 13) rfl e9 e11 e13
 ·intro ua uw hb hd
  have e7 : ua.eval (.tmp 7) = .agg (zg k P Q g) := hd 7 (by decide)
  have e14 : IsP uw [[117], (zq a), (zq b)] (ua.eval (.tmp 14)) := hd 14 (by decide)
  exact zba (F := (StK.eq (numV N)).F) (zc rfl) hb.size rfl #[.agg (zg k P Q g), (ua.eval (.tmp 14))] (z3a e7 rfl) (zE Tryz.func25 rfl) (zqa ((kE _ _ e14)))
 intro p8 a8 w8 b8 G8 y8
 obtain ⟨-, -, -, -, -, -, -, -, q8, -⟩ := y8
 have r8 : p8 8 = numV N := q8 (by decide)
 simp only [List.take, layV, Nat.zero_add, Nat.reduceAdd, r8] at G8
 have M8 := M5.kc b8
 clear F5 M5 r8 q8
 refine zr (zc rfl) rfl G8 M8 (k := 3) rfl _ _ _ rfl (G8.get (t := 6) rfl) (G8.get (t := 15) rfl) (numA N) _ rfl (zL rfl) (zy _) (zo rfl) zd ?_
 intro w9 M9
 refine hK6 _ _ (wp_ret ?_)
 try simp only [Exit.then, Exit.inBlock, Exit.jump]
 exact bodyPost_ret (results_cell_row rfl _ _ _ _ _ (0, 0) _ (G8.get (t := 6) rfl) (M9.blk (k := 3) rfl) Tryz.underlying27 rfl zd) G8.defers ⟨rfl, M9.below⟩
theorem rsum7_any (a b m : Nat) (ha : a < 4294967296) (hb : b < 4294967296) (h0 : 0 < m) (hm : m < 4294967296 ^ 8) (w : World) :
  Calls Tryz.prog 43 #[numV a, numV b, numV m] w fun e w' => e = .returned (numV ((a + b) % m)) ∧ Below w.heap.size w w' := by
 have ha8 : a < 4294967296 ^ 8 := Nat.lt_trans ha (by decide)
 have hb8 : b < 4294967296 ^ 8 := Nat.lt_trans hb (by decide)
 have hab : a + b < 4294967296 ^ 8 := Nat.lt_trans (show a + b < 4294967296 * 2 by omega) (by decide)
 have kA := fun w => radd_any a b ha8 hb8 w
 rw [show addN a b = a + b by unfold addN; exact if_pos hab, show overI a b = 0 by unfold overI; exact if_pos hab] at kA
 have kO := fun w => from_ref 0 (by decide) (by decide) w
 have kR := fun w => rrest_pos (a + b) 0 m hab (by decide) hm h0 w
 rw [Nat.zero_mul, Nat.add_zero] at kR
 refine zea (args := [numV a, numV b, numV m]) 27 Tryz.func43 rfl rfl rfl ?_
 intro fa F
 have M := Mx.start w
 refine zT fun _ hK1 => zh (zc rfl) rfl F rfl M 0 (t := 27) (c := numA a) (by unfold execOp; simp only [(F.get (t := 0) rfl)]; kernel_rfl) ?_
 intro g2 a2 w2 F2 M2
 refine zh (zc rfl) rfl F2 rfl M2 1 (t := 27) (c := numA b) (by unfold execOp; simp only [(F2.get (t := 1) rfl)]; kernel_rfl) ?_
 intro g3 a3 w3 F3 M3
 refine zh (zc rfl) rfl F3 rfl M3 2 (t := 27) (c := numA m) (by unfold execOp; simp only [(F3.get (t := 2) rfl)]; kernel_rfl) ?_
 intro g4 a4 w4 F4 M4
 refine zh (zc rfl) rfl F4 rfl M4 3 (t := 27) (c := numA 0) (zu rfl) ?_
 intro g5 a5 w5 F5 M5
 refine hK1 _ _ (zT fun _ hK6 => zAx 2 [(12, numV a), (13, numV b)] [0, 1] (zp (M5.blk (k := 0) rfl) (zp (M5.blk (k := 1) rfl) dnil)) [g2, g3] F5 fun _ F7 => ?_)
 refine zaa (zc rfl) rfl F7 rfl rfl (zE Tryz.func77 rfl) #[numV a, numV b] (z3a (F7.get (t := 12) rfl) (F7.get (t := 13) rfl)) (zca (kA w5)) ?_
 rintro _ w8 a8 ⟨rfl, b8⟩ F8
 have M8 := M5.step b8
 refine zB 3 [(5, .pointer (some ⟨g4, 0, none⟩)), (6, .pointer (some ⟨g5, 0, none⟩)), (15, numV (a + b)), (16, .int .u32 0)] [] dnil [] F8 fun _ F9 => ?_
 refine zh (zc rfl) rfl F9 rfl M8 4 (t := 27) (c := numA 0) (zu rfl) ?_
 intro g10 a10 w10 F10 M10
 refine zr (zc rfl) rfl F10 M10 (k := 4) rfl _ _ _ rfl (F10.get (t := 7) rfl) (F10.get (t := 15) rfl) (numA (a + b)) _ rfl (zL rfl) (zy _) (zo rfl) zd ?_
 intro w11 M11
 refine rm rfl F10 fun _ F12 => hK6 _ _ (zSk fun _ hK13 => ?_)
 have hD14 := (zp (M11.blk (k := 4) rfl) (zp (M11.blk (k := 2) rfl) dnil))
 refine region_fxL F12 (SK [.inl (numV (a + b)), .inl (.int .u32 0), .inl (.int .i64 0), .inl (numV 0), .inl (numV m), .inl (.tuple #[numV ((a + b) % m), .bool true]), .inl (.tuple #[numV ((a + b) % m), .bool true]), .inl (numV ((a + b) % m)), .inl (.bool true), .inr (StK.new w11.heap.size (numA 0) 27 (by decide))]) 10 8 17 1 6 #[numV ((a + b) % m), .bool true] (.bool true) rfl (by kernel_rfl) rfl (by kernel_rfl) (fun _ _ h => h) rfl (fun _ _ => Iff.rfl) rfl ⟨hopP F12 hD14 0 (some g10) (by kernel_rfl), hop0 F12 (by kernel_rfl), hopR F12 [(19, .int .u32 0)] (v := .int .i64 0) fun ua uw hb ⟨e19, _⟩ => (y_cvI _ _ _ rfl e19 Tryz.underlying25 Tryz.underlying3 rfl), hopC F12 [(20, .int .i64 0)] rfl (zE Tryz.func63 rfl) fun uw hb => kO uw, hopP F12 hD14 1 (some g4) (by kernel_rfl), hopC F12 [(18, numV (a + b)), (21, numV 0), (22, numV m)] rfl (zE Tryz.func58 rfl) fun uw hb => kR uw, hop0 F12 (by kernel_rfl), hop0 F12 (by kernel_rfl), hop0 F12 (by kernel_rfl), ?_, trivial⟩ ?_
 ·intro ua uw hb hd
  exact hop_new (zc rfl) hb.size hb.size (by decide) (zu rfl)
 intro p15 a15 w15 b15 G15 y15
 obtain ⟨-, -, -, -, -, -, -, q7, q8, q9, -⟩ := y15
 obtain ⟨gn9x14, r9, hg9, hc9⟩ := q9 (by decide)
 replace r9 : p15 9 = .pointer (some ⟨gn9x14, 0, none⟩) := r9
 have r7 : p15 7 = numV ((a + b) % m) := q7 (by decide)
 have r8 : p15 8 = .bool true := q8 (by decide)
 simp only [List.take, layV, Nat.zero_add, Nat.reduceAdd, r7, r8, r9] at G15
 have M15 := M11.newb b15.below 5 hg9 hc9
 clear hg9 hc9 r9
 clear F12 M11 r7 q7 r8 q8
 refine st_ex M15 (k := 5) rfl _ _ _ rfl (G15.get (t := 9) rfl) (G15.get (t := 24) rfl) (numA ((a + b) % m)) _ rfl (zL rfl) (zy _) (zo rfl) zd ?_
 intro w16 M16
 refine rm rfl G15 fun _ F17 => hK13 _ _ (zT fun _ hK18 => zj (w' := w16) (zc rfl) rfl F17 rfl (numV ((a + b) % m)) (zxa _ _ rfl (F17.get (t := 9) rfl) (M16.blk (k := 5) rfl) (numA ((a + b) % m)) (z1a rfl) Tryz.underlying27 rfl zd) fun _ F19 => ?_)
 refine zr (zc rfl) rfl F19 M16 (k := 3) rfl _ _ _ rfl (F19.get (t := 6) rfl) (F19.get (t := 26) rfl) (numA ((a + b) % m)) _ rfl (zL rfl) (zy _) (zo rfl) zd ?_
 intro w20 M20
 refine hK18 _ _ (wp_ret ?_)
 try simp only [Exit.then, Exit.inBlock, Exit.jump]
 exact bodyPost_ret (results_cell_row rfl _ _ _ _ _ (0, 0) _ (F19.get rfl) (M20.blk (k := 3) rfl) Tryz.underlying27 rfl zd) F19.defers ⟨rfl, M20.below⟩
theorem rx7_any (k : Int) (P Q g : Nat) (h2 : 2 < Q) (hQ5 : Q < 4294967296) (t : ByteArray) (ht : t.size ≤ 200) (lp ls : List UInt8) (hlp : lp.length ≤ 200) (hls : ls.length ≤ 200) (vp vs : Value) (w : World) (hp : IsB w lp vp) (hs : IsB w ls vs) :
  Calls Tryz.prog 54 #[.agg (zg k P Q g), .string t, vp, vs] w fun e w' => e = .returned (numV (secN Q (sBy t) lp ls)) ∧ Below w.heap.size w w' := by
 obtain ⟨S, hS⟩ : ∃ S, macW [] [[120], sBy t, lp] = S := ⟨_, rfl⟩
 have kM := fun (w : World) (u : Value) (h : IsP w [[120], sBy t, lp] u) => srof_b h (show 3 ≤ 6 by decide) (by simp only [List.mem_cons, List.not_mem_nil, or_false, forall_eq_or_imp, forall_eq]; exact ⟨(by decide), by rw [sBy_len]; exact ht, hlp⟩)
 rw [hS] at kM
 obtain ⟨Y, hY⟩ : ∃ Y, strA (sumY (outF S)) ls 2 = Y := ⟨_, rfl⟩
 have hyb : ∀ k, 0 ≤ Y k ∧ Y k < 256 := by rw [← hY]; exact strA_bd _ _ 2
 have kS := fun (w : World) (v u : Value) (h : IsB w (sumY (outF S)) v) (h2 : IsB w ls u) => srstretch_b h h2 (by rw [zsb]; decide) (Nat.le_trans hls (by decide))
 rw [hY] at kS
 obtain ⟨N, hN⟩ : ∃ N, expN Q (sumY Y) = N := ⟨_, rfl⟩
 rw [show secN Q (sBy t) lp ls = N by unfold secN; rw [hS, hY, hN]]
 have hbd := zzb S
 have kE := fun (w : World) (v : Value) (h : IsB w (sumY Y) v) => rexp4_any k P Q g h2 hQ5 (sumY Y) (by rw [zsb]; decide) v w h
 rw [hN] at kE
 clear hN hS hY
 obtain ⟨Ap, cp, rfl⟩ := id hp.shape
 obtain ⟨As, cs, rfl⟩ := id hs.shape
 refine zea (args := [.agg (zg k P Q g), .string t, .slice Ap lp.length cp, .slice As ls.length cs]) 24 Tryz.func54 rfl rfl rfl ?_
 intro fa F
 have M := Mx.start w
 replace M := M.argB 0 hp (fun g e => by cases e)
 replace M := M.argB 1 hs (fun g e => by cases e)
 refine zT fun _ hK1 => zh (zc rfl) rfl F rfl M 2 (t := 29) (c := zg k P Q g) (by unfold execOp; simp only [(F.get (t := 0) rfl)]; kernel_rfl) ?_
 intro g2 a2 w2 F2 M2
 refine zh (zc rfl) rfl F2 rfl M2 3 (t := 27) (c := numA 0) (zu rfl) ?_
 intro g3 a3 w3 F3 M3
 refine hK1 _ _ (zSk fun _ hK4 => region_fxU F3 (SK [.inr (StK.lit w3.heap.size [120]), .inr (StK.lit w3.heap.size [120]), .inl (.string t), .inr (StK.bytes (sBy t)), .inl (.slice Ap lp.length cp), .inr (StK.parts [[120], (sBy t), lp]), .inl (.agg (zi (outF S)))]) 7 (by kernel_rfl) rfl ⟨?_, ?_, hop0 F3 (by kernel_rfl), ?_, hop0 F3 (by kernel_rfl), ?_, ?_, trivial⟩ ?_)
 ·intro ua uw hb hd
  exact hop_lit (zc rfl) hb.size [120] (by decide) (by decide) _ rfl (by simp only [List.map_toArray, List.map_cons, List.map_nil]; kernel_rfl)
 ·intro ua uw hb hd
  have l10 : LitB w3.heap.size uw [120] (ua.eval (.tmp 10)) := hd 10 (by decide)
  have e10 := l10.isB
  exact zmc (zc rfl) _ rfl l10
 ·intro ua uw hb hd
  have e12 : ua.eval (.tmp 12) = .string t := hd 12 (by decide)
  exact hop_cvS (zc rfl) hb.size _ rfl e12 (by omega)
 ·intro ua uw hb hd
  have l11 : LitB w3.heap.size uw [120] (ua.eval (.tmp 11)) := hd 11 (by decide)
  have e11 := l11.isB
  have e13 : IsB uw (sBy t) (ua.eval (.tmp 13)) := hd 13 (by decide)
  have e14 : ua.eval (.tmp 14) = .slice Ap lp.length cp := hd 14 (by decide)
  exact hop_parts3 (zc rfl) hb.size (.tmp 11) (.tmp 13) (.tmp 14) rfl e11 e13 (by rw [e14]; exact ((M3.step hb).isb (k := 0) rfl))
 ·intro ua uw hb hd
  have e15 : IsP uw [[120], (sBy t), lp] (ua.eval (.tmp 15)) := hd 15 (by decide)
  exact zba (F := (StK.eq (.agg (zi (outF S)))).F) (zc rfl) hb.size rfl #[(ua.eval (.tmp 15))] (zwa rfl) (zE Tryz.func29 rfl) (zqa ((kM _ _ e15)))
 intro p6 a6 w6 b6 G6 y6
 obtain ⟨-, -, -, -, -, -, q6, -⟩ := y6
 have r6 : p6 6 = .agg (zi (outF S)) := q6 (by decide)
 simp only [List.take, layV, Nat.zero_add, Nat.reduceAdd, r6] at G6
 have M6 := M3.kc b6
 clear F3 M3 r6 q6
 refine zh (zc rfl) rfl G6 rfl M6 4 (t := 35) (c := zi (fun _ => 0)) (by unfold execOp; kernel_rfl) ?_
 intro g7 a7 w7 F7 M7
 clear G6 M6
 refine zr (zc rfl) rfl F7 M7 (k := 4) rfl _ _ _ rfl (F7.get (t := 9) rfl) (F7.get (t := 16) rfl) (zi (outF S)) _ rfl (zL rfl) (zda _) (zo rfl) (by kernel_rfl) ?_
 intro w8 M8
 refine hK4 _ _ (zSk fun _ hK9 => ?_)
 have hD10 := (zp (M8.blk (k := 2) rfl) (zp (M8.blk (k := 4) rfl) dnil))
 refine zha F7 (SK [.inl (.agg (zg k P Q g)), .inl (.agg (zi (outF S))), .inr (StK.bytes (sumY (outF S))), .inl (.slice As ls.length cs), .inl (.agg (zi Y)), .inr (StK.bytes (sumY Y)), .inl (numV N)]) 7 rfl (by kernel_rfl) ⟨hopP F7 hD10 0 (some g2) (by kernel_rfl), hopP F7 hD10 1 (some g7) (by kernel_rfl), ?_, hop0 F7 (by kernel_rfl), ?_, ?_, ?_, trivial⟩ ?_
 ·intro ua uw hb hd
  have e18 : ua.eval (.tmp 18) = .agg (zi (outF S)) := hd 18 (by decide)
  exact zba (F := (StK.bytes (sumY (outF S))).F) (zc rfl) hb.size rfl #[.agg (zi (outF S))] (zwa e18) (zE Tryz.func18 rfl) ((sb_r (outF S) hbd uw))
 ·intro ua uw hb hd
  have e19 : IsB uw (sumY (outF S)) (ua.eval (.tmp 19)) := hd 19 (by decide)
  have e20 : ua.eval (.tmp 20) = .slice As ls.length cs := hd 20 (by decide)
  exact zba (F := (StK.eq (.agg (zi Y))).F) (zc rfl) hb.size rfl #[(ua.eval (.tmp 19)), .slice As ls.length cs, .int .i64 3] (args3 rfl e20 rfl) (zE Tryz.func91 rfl) (zqa ((kS _ _ _ e19 ((M8.step hb).isb (k := 1) rfl))))
 ·intro ua uw hb hd
  have e21 : ua.eval (.tmp 21) = .agg (zi Y) := hd 21 (by decide)
  exact zba (F := (StK.bytes (sumY Y)).F) (zc rfl) hb.size rfl #[.agg (zi Y)] (zwa e21) (zE Tryz.func18 rfl) ((sb_r Y hyb uw))
 ·intro ua uw hb hd
  have e17 : ua.eval (.tmp 17) = .agg (zg k P Q g) := hd 17 (by decide)
  have e22 : IsB uw (sumY Y) (ua.eval (.tmp 22)) := hd 22 (by decide)
  exact zba (F := (StK.eq (numV N)).F) (zc rfl) hb.size rfl #[.agg (zg k P Q g), (ua.eval (.tmp 22))] (z3a e17 rfl) (zE Tryz.func59 rfl) (zqa ((kE uw _ e22)))
 intro p11 a11 w11 b11 G11 y11
 obtain ⟨-, -, -, -, -, -, q6, -⟩ := y11
 have r6 : p11 6 = numV N := q6 (by decide)
 simp only [List.take, layV, Nat.zero_add, Nat.reduceAdd, r6] at G11
 have M11 := M8.kc b11
 clear F7 M8 r6 q6
 refine zr (zc rfl) rfl G11 M11 (k := 3) rfl _ _ _ rfl (G11.get (t := 8) rfl) (G11.get (t := 23) rfl) (numA N) _ rfl (zL rfl) (zy _) (zo rfl) zd ?_
 intro w12 M12
 refine hK9 _ _ (wp_ret ?_)
 try simp only [Exit.then, Exit.inBlock, Exit.jump]
 exact bodyPost_ret (results_cell_row rfl _ _ _ _ _ (0, 0) _ (G11.get (t := 8) rfl) (M12.blk (k := 3) rfl) Tryz.underlying27 rfl zd) G11.defers ⟨rfl, M12.below⟩
theorem rver7_any (k : Int) (P Q g : Nat) (h1 : 1 < P) (hP : P < 2147483648) (h2 : 2 < Q) (hQ5 : Q < 4294967296) (hg : g < 4294967296 ^ 8) (t : ByteArray) (ht : t.size ≤ 200) (lp ls : List UInt8) (hlp : lp.length ≤ 200) (hls : ls.length ≤ 200) (vp vs : Value) (w : World) (hp : IsB w lp vp) (hs : IsB w ls vs) :
  Calls Tryz.prog 20 #[.agg (zg k P Q g), .string t, vp, vs] w fun e w' => e = .returned (numV (g ^ secN Q (sBy t) lp ls % P)) ∧ Below w.heap.size w w' := by
 obtain ⟨X, hX⟩ : ∃ X, secN Q (sBy t) lp ls = X := ⟨_, rfl⟩
 have hXl : X < 4294967296 ^ 8 := by rw [← hX]; exact Nat.lt_trans (z8b h2 _).2 (Nat.lt_trans hQ5 (by decide))
 have kX := fun (w : World) (vp vs : Value) (hp : IsB w lp vp) (hs : IsB w ls vs) => rx7_any k P Q g h2 hQ5 t ht lp ls hlp hls vp vs w hp hs
 rw [hX] at kX ⊢
 have kR := fun w => zqc k P Q g h1 hP g X hg hXl w
 obtain ⟨N, hN⟩ : ∃ N, g ^ X % P = N := ⟨_, rfl⟩
 rw [hN] at kR ⊢
 clear hN hX
 obtain ⟨Ap, cp, rfl⟩ := id hp.shape
 obtain ⟨As, cs, rfl⟩ := id hs.shape
 refine zea (args := [.agg (zg k P Q g), .string t, .slice Ap lp.length cp, .slice As ls.length cs]) 18 Tryz.func20 rfl rfl rfl ?_
 intro fa F
 have M := Mx.start w
 replace M := M.argB 0 hp (fun g e => by cases e)
 replace M := M.argB 1 hs (fun g e => by cases e)
 refine zT fun _ hK1 => zh (zc rfl) rfl F rfl M 2 (t := 29) (c := zg k P Q g) (by unfold execOp; simp only [(F.get (t := 0) rfl)]; kernel_rfl) ?_
 intro g2 a2 w2 F2 M2
 refine zh (zc rfl) rfl F2 rfl M2 3 (t := 27) (c := numA 0) (zu rfl) ?_
 intro g3 a3 w3 F3 M3
 refine hK1 _ _ (zSk fun _ hK4 => ?_)
 have hD5 := (zp (M3.blk (k := 2) rfl) dnil)
 refine zha F3 (SK [.inl (.agg (zg k P Q g)), .inl (.pointer (some ⟨g2, 17, none⟩)), .inl (numV g), .inl (.agg (zg k P Q g)), .inl (.string t), .inl (.slice Ap lp.length cp), .inl (.slice As ls.length cs), .inl (numV X), .inl (numV N)]) 9 rfl (by kernel_rfl) ⟨hopP F3 hD5 0 (some g2) (by kernel_rfl), hop0 F3 (by kernel_rfl), hopP F3 hD5 0 (some g2) (by kernel_rfl), hopP F3 hD5 0 (some g2) (by kernel_rfl), hop0 F3 (by kernel_rfl), hop0 F3 (by kernel_rfl), hop0 F3 (by kernel_rfl), hopC F3 [(12, .agg (zg k P Q g)), (13, .string t), (14, .slice Ap lp.length cp), (15, .slice As ls.length cs)] rfl (zE Tryz.func54 rfl) fun uw hb => (kX uw _ _ ((M3.step hb).isb (k := 0) rfl) ((M3.step hb).isb (k := 1) rfl)), hopC F3 [(9, .agg (zg k P Q g)), (11, numV g), (16, numV X)] rfl (zE Tryz.func27 rfl) fun uw hb => kR uw, trivial⟩ ?_
 intro p6 a6 w6 b6 G6 y6
 obtain ⟨-, -, -, -, -, -, -, -, q8, -⟩ := y6
 have r8 : p6 8 = numV N := q8 (by decide)
 simp only [List.take, layV, Nat.zero_add, Nat.reduceAdd, r8] at G6
 have M6 := M3.kc b6
 clear F3 M3 r8 q8
 refine zr (zc rfl) rfl G6 M6 (k := 3) rfl _ _ _ rfl (G6.get (t := 8) rfl) (G6.get (t := 17) rfl) (numA N) _ rfl (zL rfl) (zy _) (zo rfl) zd ?_
 intro w7 M7
 refine hK4 _ _ (wp_ret ?_)
 try simp only [Exit.then, Exit.inBlock, Exit.jump]
 exact bodyPost_ret (results_cell_row rfl _ _ _ _ _ (0, 0) _ (G6.get (t := 8) rfl) (M7.blk (k := 3) rfl) Tryz.underlying27 rfl zd) G6.defers ⟨rfl, M7.below⟩
theorem rkeyed7_any (x : SideN) (y : SideV) (n : Nat) (hs : x.s.size ≤ 200) (hls : x.ls.length ≤ 200) (w : World) (hx : SideIs w x y) :
  Calls Tryz.prog 46 #[.agg (zk x y), numV n] w fun e w' => e = .returned (.agg (zk (zja x n) y)) ∧ Below w.heap.size w w' := by
 obtain ⟨S, hS⟩ : ∃ S, macW [] [[107, 101, 121], zq n] = S := ⟨_, rfl⟩
 have kO := fun (w : World) (u : Value) (h : IsP w [[107, 101, 121], zq n] u) => srof_b h (show 2 ≤ 6 by decide) (by simp [zya])
 rw [hS] at kO
 obtain ⟨U, hU⟩ : ∃ U, macW (sumY (outF S)) [[49], sBy x.s, x.ls, zq x.A, zq x.B] = U := ⟨_, rfl⟩
 have kM := fun (w : World) (v u : Value) (h : IsB w (sumY (outF S)) v) (h2 : IsP w [[49], sBy x.s, x.ls, zq x.A, zq x.B] u) => srmac_b h (by rw [zsb]; decide) h2 (show 5 ≤ 6 by decide) (by simp only [List.mem_cons, List.not_mem_nil, or_false, forall_eq_or_imp, forall_eq, zya]; exact ⟨by decide, by rw [sBy_len]; exact hs, hls, by decide, by decide⟩)
 rw [hU] at kM
 have hbd := zzb S
 rw [show zja x n = { x with Ky := outF S, Pr := outF U } by unfold zja; rw [hS, show shL x 2 = [[49], sBy x.s, x.ls, zq x.A, zq x.B] from rfl, hU]]
 clear hS hU
 obtain ⟨vp, vs⟩ := y
 obtain ⟨Ap, cp, rfl⟩ := id hx.hp.shape
 obtain ⟨As, cs, rfl⟩ := id hx.hs.shape
 refine zea (args := [.agg (zk x ⟨.slice Ap x.lp.length cp, .slice As x.ls.length cs⟩), numV n]) 32 Tryz.func46 rfl rfl rfl ?_
 intro fa F
 have M := Mx.start w
 replace M := M.argB 0 hx.hp (fun g e => by cases e)
 replace M := M.argB 1 hx.hs (fun g e => by cases e)
 refine zT fun _ hK1 => zh (zc rfl) rfl F rfl M 2 (t := 42) (c := zk x ⟨.slice Ap x.lp.length cp, .slice As x.ls.length cs⟩) (by unfold execOp; simp only [(F.get (t := 0) rfl)]; kernel_rfl) ?_
 intro g2 a2 w2 F2 M2
 refine zh (zc rfl) rfl F2 rfl M2 3 (t := 27) (c := numA n) (by unfold execOp; simp only [(F2.get (t := 1) rfl)]; kernel_rfl) ?_
 intro g3 a3 w3 F3 M3
 refine zh (zc rfl) rfl F3 rfl M3 4 (t := 42) (c := zSA) (by unfold execOp; kernel_rfl) ?_
 intro g4 a4 w4 F4 M4
 refine hK1 _ _ (zSk fun _ hK5 => ?_)
 have hD6 := (zp (M4.blk (k := 3) rfl) dnil)
 refine region_fxU F4 (SK [.inr (StK.lit w4.heap.size [107, 101, 121]), .inr (StK.lit w4.heap.size [107, 101, 121]), .inl (numV n), .inr (StK.bytes (zq n)), .inr (StK.parts [[107, 101, 121], (zq n)]), .inl (.agg (zi (outF S))), .inl (.pointer (some ⟨g2, 60, none⟩))]) 7 (by kernel_rfl) rfl ⟨?_, ?_, hopP F4 hD6 0 (some g3) (by kernel_rfl), ?_, ?_, ?_, hop0 F4 (by kernel_rfl), trivial⟩ ?_
 ·intro ua uw hb hd
  exact hop_lit (zc rfl) hb.size [107, 101, 121] (by decide) (by decide) _ rfl (by simp only [List.map_toArray, List.map_cons, List.map_nil]; kernel_rfl)
 ·intro ua uw hb hd
  have l5 : LitB w4.heap.size uw [107, 101, 121] (ua.eval (.tmp 5)) := hd 5 (by decide)
  have e5 := l5.isB
  exact zmc (zc rfl) _ rfl l5
 ·intro ua uw hb hd
  have e7 : ua.eval (.tmp 7) = numV n := hd 7 (by decide)
  exact zba (F := (StK.bytes (zq n)).F) (zc rfl) hb.size rfl #[numV n] (zwa e7) (zE Tryz.func26 rfl) ((rb_r n uw))
 ·intro ua uw hb hd
  have l6 : LitB w4.heap.size uw [107, 101, 121] (ua.eval (.tmp 6)) := hd 6 (by decide)
  have e6 := l6.isB
  have e8 : IsB uw (zq n) (ua.eval (.tmp 8)) := hd 8 (by decide)
  exact hop_parts2 (zc rfl) hb.size (.tmp 6) (.tmp 8) rfl e6 e8
 ·intro ua uw hb hd
  have e9 : IsP uw [[107, 101, 121], (zq n)] (ua.eval (.tmp 9)) := hd 9 (by decide)
  exact zba (F := (StK.eq (.agg (zi (outF S)))).F) (zc rfl) hb.size rfl #[(ua.eval (.tmp 9))] (zwa rfl) (zE Tryz.func29 rfl) (zqa ((kO _ _ e9)))
 intro p7 a7 w7 b7 G7 y7
 obtain ⟨-, -, -, -, -, q5, q6, -⟩ := y7
 have r5 : p7 5 = .agg (zi (outF S)) := q5 (by decide)
 have r6 : p7 6 = .pointer (some ⟨g2, 60, none⟩) := q6 (by decide)
 simp only [List.take, layV, Nat.zero_add, Nat.reduceAdd, r5, r6] at G7
 have M7 := M4.kc b7
 clear F4 M4 r5 q5 r6 q6
 refine zr (zc rfl) rfl G7 M7 (k := 2) rfl _ _ _ rfl (G7.get (t := 11) rfl) (G7.get (t := 10) rfl) (zi (outF S)) (zk ⟨x.k, x.P, x.Q, x.g, x.s, x.lp, x.A, x.B, x.O, x.ls, x.V, (outF S), x.Pr⟩ ⟨.slice Ap x.lp.length cp, .slice As x.ls.length cs⟩) rfl (zL rfl) (zda _) (by kernel_rfl) (by kernel_rfl) ?_
 intro w8 M8
 refine hK5 _ _ (zSk fun _ hK9 => ?_)
 have hD10 := (zp (M8.blk (k := 2) rfl) dnil)
 refine zha G7 (SK [.inl (.pointer (some ⟨g2, 60, none⟩)), .inl (.agg (zi (outF S))), .inr (StK.bytes (sumY (outF S))), .inr (StK.lit w8.heap.size [49]), .inr (StK.lit w8.heap.size [49]), .inl (.pointer (some ⟨g2, 25, none⟩)), .inl (.string x.s), .inr (StK.bytes (sBy x.s)), .inl (.pointer (some ⟨g2, 51, none⟩)), .inl (.slice As x.ls.length cs), .inl (.pointer (some ⟨g2, 27, none⟩)), .inl (numV x.A), .inr (StK.bytes (zq x.A)), .inl (.pointer (some ⟨g2, 35, none⟩)), .inl (numV x.B), .inr (StK.bytes (zq x.B)), .inr (StK.parts [[49], (sBy x.s), x.ls, (zq x.A), (zq x.B)]), .inl (.agg (zi (outF U))), .inl (.pointer (some ⟨g2, 76, none⟩))]) 19 rfl (by kernel_rfl) ⟨hop0 G7 (by kernel_rfl), hopP G7 hD10 0 (some g2) (by kernel_rfl), ?_, ?_, ?_, hop0 G7 (by kernel_rfl), hopP G7 hD10 0 (some g2) (by kernel_rfl), ?_, hop0 G7 (by kernel_rfl), hopP G7 hD10 0 (some g2) (by kernel_rfl), hop0 G7 (by kernel_rfl), hopP G7 hD10 0 (some g2) (by kernel_rfl), ?_, hop0 G7 (by kernel_rfl), hopP G7 hD10 0 (some g2) (by kernel_rfl), ?_, ?_, ?_, hop0 G7 (by kernel_rfl), trivial⟩ ?_
 ·intro ua uw hb hd
  have e13 : ua.eval (.tmp 13) = .agg (zi (outF S)) := hd 13 (by decide)
  exact zba (F := (StK.bytes (sumY (outF S))).F) (zc rfl) hb.size rfl #[.agg (zi (outF S))] (zwa e13) (zE Tryz.func18 rfl) ((sb_r (outF S) hbd uw))
 ·intro ua uw hb hd
  exact hop_lit (zc rfl) hb.size [49] (by decide) (by decide) _ rfl (by simp only [List.map_toArray, List.map_cons, List.map_nil]; kernel_rfl)
 ·intro ua uw hb hd
  have l15 : LitB w8.heap.size uw [49] (ua.eval (.tmp 15)) := hd 15 (by decide)
  have e15 := l15.isB
  exact zmc (zc rfl) _ rfl l15
 ·intro ua uw hb hd
  have e18 : ua.eval (.tmp 18) = .string x.s := hd 18 (by decide)
  exact hop_cvS (zc rfl) hb.size _ rfl e18 (by omega)
 ·intro ua uw hb hd
  have e23 : ua.eval (.tmp 23) = numV x.A := hd 23 (by decide)
  exact zba (F := (StK.bytes (zq x.A)).F) (zc rfl) hb.size rfl #[numV x.A] (zwa e23) (zE Tryz.func26 rfl) ((rb_r x.A uw))
 ·intro ua uw hb hd
  have e26 : ua.eval (.tmp 26) = numV x.B := hd 26 (by decide)
  exact zba (F := (StK.bytes (zq x.B)).F) (zc rfl) hb.size rfl #[numV x.B] (zwa e26) (zE Tryz.func26 rfl) ((rb_r x.B uw))
 ·intro ua uw hb hd
  have l16 : LitB w8.heap.size uw [49] (ua.eval (.tmp 16)) := hd 16 (by decide)
  have e16 := l16.isB
  have e19 : IsB uw (sBy x.s) (ua.eval (.tmp 19)) := hd 19 (by decide)
  have e21 : ua.eval (.tmp 21) = .slice As x.ls.length cs := hd 21 (by decide)
  have e24 : IsB uw (zq x.A) (ua.eval (.tmp 24)) := hd 24 (by decide)
  have e27 : IsB uw (zq x.B) (ua.eval (.tmp 27)) := hd 27 (by decide)
  exact hop_parts5 (zc rfl) hb.size (.tmp 16) (.tmp 19) (.tmp 21) (.tmp 24) (.tmp 27) rfl e16 e19 (by rw [e21]; exact ((M8.step hb).isb (k := 1) rfl)) e24 e27
 ·intro ua uw hb hd
  have e14 : IsB uw (sumY (outF S)) (ua.eval (.tmp 14)) := hd 14 (by decide)
  have e28 : IsP uw [[49], (sBy x.s), x.ls, (zq x.A), (zq x.B)] (ua.eval (.tmp 28)) := hd 28 (by decide)
  exact zba (F := (StK.eq (.agg (zi (outF U)))).F) (zc rfl) hb.size rfl #[(ua.eval (.tmp 14)), (ua.eval (.tmp 28))] (z3a rfl rfl) (zE Tryz.func78 rfl) (zqa ((kM _ _ _ e14 e28)))
 intro p11 a11 w11 b11 G11 y11
 obtain ⟨-, -, -, -, -, -, -, -, -, -, -, -, -, -, -, -, -, q17, q18, -⟩ := y11
 have r17 : p11 17 = .agg (zi (outF U)) := q17 (by decide)
 have r18 : p11 18 = .pointer (some ⟨g2, 76, none⟩) := q18 (by decide)
 simp only [List.take, layV, Nat.zero_add, Nat.reduceAdd, r17, r18] at G11
 have M11 := M8.kc b11
 clear G7 M8 r17 q17 r18 q18
 refine zr (zc rfl) rfl G11 M11 (k := 2) rfl _ _ _ rfl (G11.get (t := 30) rfl) (G11.get (t := 29) rfl) (zi (outF U)) (zk ⟨x.k, x.P, x.Q, x.g, x.s, x.lp, x.A, x.B, x.O, x.ls, x.V, (outF S), (outF U)⟩ ⟨.slice Ap x.lp.length cp, .slice As x.ls.length cs⟩) rfl (zL rfl) (zda _) (by kernel_rfl) (by kernel_rfl) ?_
 intro w12 M12
 refine hK9 _ _ (zT fun _ hK13 => zj (w' := w12) (zc rfl) rfl G11 rfl _ (zxa _ _ rfl (G11.get (t := 2) rfl) (M12.blk (k := 2) rfl) (zk ⟨x.k, x.P, x.Q, x.g, x.s, x.lp, x.A, x.B, x.O, x.ls, x.V, (outF S), (outF U)⟩ ⟨.slice Ap x.lp.length cp, .slice As x.ls.length cs⟩) (z1a rfl) Tryz.underlying42 rfl (by kernel_rfl)) fun _ F14 => ?_)
 clear G11
 refine zr (zc rfl) rfl F14 M12 (k := 4) rfl _ _ _ rfl (F14.get (t := 4) rfl) (F14.get (t := 31) rfl) (zk ⟨x.k, x.P, x.Q, x.g, x.s, x.lp, x.A, x.B, x.O, x.ls, x.V, (outF S), (outF U)⟩ ⟨.slice Ap x.lp.length cp, .slice As x.ls.length cs⟩) _ rfl (zL rfl) (zpa (w := w12) ⟨(M12.isb (k := 0) rfl), (M12.isb (k := 1) rfl)⟩) (zo rfl) (by kernel_rfl) ?_
 intro w15 M15
 refine hK13 _ _ (wp_ret ?_)
 try simp only [Exit.then, Exit.inBlock, Exit.jump]
 exact bodyPost_ret (results_cell_row rfl _ _ _ _ _ (0, 0) _ (F14.get rfl) (M15.blk (k := 4) rfl) Tryz.underlying42 rfl (by kernel_rfl)) F14.defers ⟨rfl, M15.below⟩
theorem rhello7_any (k : Int) (P Q g : Nat) (h1 : 1 < P) (hP : P < 2147483648) (h2 : 2 < Q) (hQ5 : Q < 4294967296) (hg : g < 4294967296 ^ 8) (t : ByteArray) (lp ld : List UInt8) (hdl : ld.length ≤ 200) (vp vd : Value) (w : World) (hp : IsB w lp vp) (hd : IsB w ld vd) :
  Calls Tryz.prog 23 #[.agg (zg k P Q g), .string t, vp, vd] w fun e w' => e = .returned (.tuple #[.agg (zk ⟨k, P, Q, g, t, lp, g ^ texN Q [97] [ld] % P, 0, texN Q [97] [ld], [], 0, fun _ => 0, fun _ => 0⟩ ⟨vp, zN⟩), numV (g ^ texN Q [97] [ld] % P)]) ∧ Below w.heap.size w w' := by
 have hP8 : P < 4294967296 ^ 8 := Nat.lt_trans hP (by decide)
 obtain ⟨O, hO⟩ : ∃ O, texN Q [97] [ld] = O := ⟨_, rfl⟩
 have hOl : O < 4294967296 ^ 8 := by rw [← hO]; exact Nat.lt_trans (z8b h2 _).2 (Nat.lt_trans hQ5 (by decide))
 have kE := fun (w : World) (u : Value) (h : IsP w [[97], ld] u) => rexp7_any k P Q g h2 hQ5 [[97], ld] (show 2 ≤ 6 by decide) (by simp only [List.mem_cons, List.not_mem_nil, or_false, forall_eq_or_imp, forall_eq]; exact ⟨by decide, hdl⟩) u w h
 rw [show expN Q (sumY (outF (macW [] [[97], ld]))) = O from hO] at kE
 have kR := fun w => zqc k P Q g h1 hP g O hg hOl w
 rw [hO]
 obtain ⟨N, hN⟩ : ∃ N, g ^ O % P = N := ⟨_, rfl⟩
 rw [hN] at kR ⊢
 clear hN hO
 obtain ⟨Ap, cp, rfl⟩ := id hp.shape
 obtain ⟨As, cs, rfl⟩ := id hd.shape
 refine zea (args := [.agg (zg k P Q g), .string t, .slice Ap lp.length cp, .slice As ld.length cs]) 31 Tryz.func23 rfl rfl rfl ?_
 intro fa F
 have M := Mx.start w
 replace M := M.argB 0 hp (fun g e => by cases e)
 replace M := M.argB 1 hd (fun g e => by cases e)
 refine zT fun _ hK1 => zh (zc rfl) rfl F rfl M 2 (t := 29) (c := zg k P Q g) (by unfold execOp; simp only [(F.get (t := 0) rfl)]; kernel_rfl) ?_
 intro g2 a2 w2 F2 M2
 refine zh (zc rfl) rfl F2 rfl M2 3 (t := 42) (c := zSA) (by unfold execOp; kernel_rfl) ?_
 intro g3 a3 w3 F3 M3
 refine zh (zc rfl) rfl F3 rfl M3 4 (t := 27) (c := numA 0) (zu rfl) ?_
 intro g4 a4 w4 F4 M4
 refine hK1 _ _ (zSk fun _ hK5 => ?_)
 have hD6 := (zp (M4.blk (k := 2) rfl) dnil)
 refine zha F4 (SK [.inl (.agg (zg k P Q g)), .inl (.string t), .inl (.slice Ap lp.length cp), .inl (.agg (zg k P Q g)), .inr (StK.lit w4.heap.size [97]), .inr (StK.lit w4.heap.size [97]), .inl (.slice As ld.length cs), .inr (StK.parts [[97], ld]), .inl (numV O), .inl (.agg (zk ⟨k, P, Q, g, t, lp, 0, 0, O, [], 0, (fun _ => 0), (fun _ => 0)⟩ ⟨.slice Ap lp.length cp, zN⟩)), .inr (StK.new w4.heap.size (zSA) 42 (by decide))]) 11 rfl (by kernel_rfl) ⟨hopP F4 hD6 0 (some g2) (by kernel_rfl), hop0 F4 (by kernel_rfl), hop0 F4 (by kernel_rfl), hopP F4 hD6 0 (some g2) (by kernel_rfl), ?_, ?_, hop0 F4 (by kernel_rfl), ?_, ?_, hopR F4 [(11, .agg (zg k P Q g)), (12, .string t), (13, .slice Ap lp.length cp), (19, numV O)] (v := .agg (zk ⟨k, P, Q, g, t, lp, 0, 0, O, [], 0, (fun _ => 0), (fun _ => 0)⟩ ⟨.slice Ap lp.length cp, zN⟩)) fun ua uw hb ⟨e11, e12, e13, e19, _⟩ => (by unfold execOp; simp only [List.map_toArray, List.map_cons, List.map_nil, e11, e12, e13, e19]; kernel_rfl), ?_, trivial⟩ ?_
 ·intro ua uw hb hd
  exact hop_lit (zc rfl) hb.size [97] (by decide) (by decide) _ rfl (by simp only [List.map_toArray, List.map_cons, List.map_nil]; kernel_rfl)
 ·intro ua uw hb hd
  have l15 : LitB w4.heap.size uw [97] (ua.eval (.tmp 15)) := hd 15 (by decide)
  have e15 := l15.isB
  exact zmc (zc rfl) _ rfl l15
 ·intro ua uw hb hd
  have l16 : LitB w4.heap.size uw [97] (ua.eval (.tmp 16)) := hd 16 (by decide)
  have e16 := l16.isB
  have e17 : ua.eval (.tmp 17) = .slice As ld.length cs := hd 17 (by decide)
  exact hop_parts2 (zc rfl) hb.size (.tmp 16) (.tmp 17) rfl e16 (by rw [e17]; exact ((M4.step hb).isb (k := 1) rfl))
 ·intro ua uw hb hd
  have e14 : ua.eval (.tmp 14) = .agg (zg k P Q g) := hd 14 (by decide)
  have e18 : IsP uw [[97], ld] (ua.eval (.tmp 18)) := hd 18 (by decide)
  exact zba (F := (StK.eq (numV O)).F) (zc rfl) hb.size rfl #[.agg (zg k P Q g), (ua.eval (.tmp 18))] (z3a e14 rfl) (zE Tryz.func25 rfl) (zqa ((kE _ _ e18)))
 ·intro ua uw hb hd
  exact hop_new (zc rfl) hb.size hb.size (by decide) (by unfold execOp; kernel_rfl)
 intro p7 a7 w7 b7 G7 y7
 obtain ⟨-, -, -, -, -, -, -, -, -, q9, q10, -⟩ := y7
 obtain ⟨gn10x6, r10, hg10, hc10⟩ := q10 (by decide)
 replace r10 : p7 10 = .pointer (some ⟨gn10x6, 0, none⟩) := r10
 have r9 : p7 9 = .agg (zk ⟨k, P, Q, g, t, lp, 0, 0, O, [], 0, (fun _ => 0), (fun _ => 0)⟩ ⟨.slice Ap lp.length cp, zN⟩) := q9 (by decide)
 simp only [List.take, layV, Nat.zero_add, Nat.reduceAdd, r9, r10] at G7
 have M7 := M4.newb b7.below 5 hg10 hc10
 clear hg10 hc10 r10
 clear F4 M4 r9 q9
 refine zr (zc rfl) rfl G7 M7 (k := 5) rfl _ _ _ rfl (G7.get (t := 10) rfl) (G7.get (t := 20) rfl) (zk ⟨k, P, Q, g, t, lp, 0, 0, O, [], 0, (fun _ => 0), (fun _ => 0)⟩ ⟨.slice Ap lp.length cp, zN⟩) _ rfl (zL rfl) (zpa (w := w7) ⟨(M7.isb (k := 0) rfl), (zfa _)⟩) (zo rfl) (by kernel_rfl) ?_
 intro w8 M8
 refine hK5 _ _ (zT fun _ hK9 => zB 5 [(8, .pointer (some ⟨g3, 0, none⟩)), (9, .pointer (some ⟨g4, 0, none⟩)), (10, .pointer (some ⟨gn10x6, 0, none⟩)), (21, .agg (zg k P Q g)), (23, numV g), (25, numV O)] [0, 0, 1] (zp (M8.blk (k := 2) rfl) (zp (M8.blk (k := 5) rfl) dnil)) [g2, g2, gn10x6] G7 fun _ F10 => ?_)
 clear G7
 refine zaa (zc rfl) rfl F10 rfl rfl (zE Tryz.func27 rfl) #[.agg (zg k P Q g), numV g, numV O] (args3 (F10.get (t := 21) rfl) (F10.get (t := 23) rfl) (F10.get (t := 25) rfl)) (zca (kR w8)) ?_
 rintro _ w11 a11 ⟨rfl, b11⟩ F11
 have M11 := M8.step b11
 refine zj (w' := w11) (zc rfl) rfl F11 rfl (.pointer (some ⟨gn10x6, 27, none⟩)) (y_fa (off := 27) rfl (F11.get (t := 10) rfl) (by kernel_rfl) rfl) fun _ F12 => ?_
 refine zr (zc rfl) rfl F12 M11 (k := 5) rfl _ _ _ rfl (F12.get (t := 27) rfl) (F12.get (t := 26) rfl) (numA N) (zk ⟨k, P, Q, g, t, lp, N, 0, O, [], 0, (fun _ => 0), (fun _ => 0)⟩ ⟨.slice Ap lp.length cp, zN⟩) rfl (zL rfl) (zy _) (by kernel_rfl) zd ?_
 intro w13 M13
 refine hK9 _ _ (zSk fun _ hK14 => ?_)
 refine z4a F12 (SE [.inl (.agg (zk ⟨k, P, Q, g, t, lp, N, 0, O, [], 0, (fun _ => 0), (fun _ => 0)⟩ ⟨.slice Ap lp.length cp, zN⟩)), .inl (.pointer (some ⟨gn10x6, 27, none⟩)), .inl (numV N), .inl (undef)]) (JM none w fun SV pV => [(0, bytR lp (.slice Ap lp.length cp)), (1, bytR ld (.slice As ld.length cs)), (2, blkR g2 29 (zg k P Q g)), (3, blkR g3 42 (zk (cond (SV 3) (⟨k, P, Q, g, t, lp, N, 0, O, [], 0, (fun _ => 0), (fun _ => 0)⟩ : SideN) ⟨0, 0, 0, 0, "".toUTF8, [], 0, 0, 0, [], 0, (fun _ => 0), (fun _ => 0)⟩) (cond (SV 3) (⟨.slice Ap lp.length cp, zN⟩ : SideV) ⟨zN, zN⟩))), (4, blkR g4 27 (numA 0)), (5, blkR gn10x6 42 (zk ⟨k, P, Q, g, t, lp, N, 0, O, [], 0, (fun _ => 0), (fun _ => 0)⟩ ⟨.slice Ap lp.length cp, zN⟩))]) 4 rfl (by kernel_rfl) rfl ⟨trivial, trivial, trivial, fun _ => Iff.rfl, trivial⟩ (fun p => (M13.step (zta _)).sub ⟨rfl, rfl, rfl, rfl, rfl, rfl, trivial⟩) ⟨z0a F12 (fun _ _ _ M => zp (Mx.blk (k := 5) M rfl) dnil) (some gn10x6) (by kernel_rfl), zeb F12 (by kernel_rfl), z0a F12 (fun _ _ _ M => zp (Mx.blk (k := 5) M rfl) dnil) (some gn10x6) (by kernel_rfl), ?_, trivial⟩ ?_
 ·intro ua uw SV pV (M : Mx none w uw _) hk hn hd
  have e8 : ua.eval (.tmp 8) = .pointer (some ⟨g3, 0, none⟩) := (show ua.eval (.tmp 8) = _ from hd 8 (by decide)).trans (F12.get (t := 8) rfl)
  have e28 : ua.eval (.tmp 28) = .agg (zk ⟨k, P, Q, g, t, lp, N, 0, O, [], 0, (fun _ => 0), (fun _ => 0)⟩ ⟨.slice Ap lp.length cp, zN⟩) := zQ1 (hd 28 (by decide))
  exact hopM_doM (zc rfl) rfl (run_st M (k := 3) rfl _ _ _ rfl e8 e28 (zk ⟨k, P, Q, g, t, lp, N, 0, O, [], 0, (fun _ => 0), (fun _ => 0)⟩ ⟨.slice Ap lp.length cp, zN⟩) _ rfl (zL rfl) (zpa (w := w13) ⟨(M13.isb (k := 0) rfl), (zfa _)⟩) (zo rfl) (by kernel_rfl)) (fun w2 h2 => h2.sub ⟨rfl, rfl, rfl, rfl, rfl, rfl, trivial⟩) rfl
 intro p15 a15 w15 M15 G15 y15
 obtain ⟨-, -, q2, -, -⟩ := y15
 have r2 : p15 2 = numV N := q2
 replace M15 : Mx _ _ w15 [(0, bytR lp (.slice Ap lp.length cp)), (1, bytR ld (.slice As ld.length cs)), (2, blkR g2 29 (zg k P Q g)), (3, blkR g3 42 (zk ⟨k, P, Q, g, t, lp, N, 0, O, [], 0, (fun _ => 0), (fun _ => 0)⟩ ⟨.slice Ap lp.length cp, zN⟩)), (4, blkR g4 27 (numA 0)), (5, blkR gn10x6 42 (zk ⟨k, P, Q, g, t, lp, N, 0, O, [], 0, (fun _ => 0), (fun _ => 0)⟩ ⟨.slice Ap lp.length cp, zN⟩))] := M15
 simp only [List.take, layV, Nat.zero_add, Nat.reduceAdd, r2] at G15
 refine zr (zc rfl) rfl G15 M15 (k := 4) rfl _ _ _ rfl (G15.get (t := 9) rfl) (G15.get (t := 30) rfl) (numA N) _ rfl (zL rfl) (zy _) (zo rfl) zd ?_
 intro w16 M16
 refine hK14 _ _ (wp_ret ?_)
 try simp only [Exit.then, Exit.inBlock, Exit.jump]
 exact bodyPost_ret (res2c rfl (G15.get (t := 8) rfl) (M16.blk (k := 3) rfl) (G15.get (t := 9) rfl) (M16.blk (k := 4) rfl) Tryz.underlying42 rfl (by kernel_rfl) Tryz.underlying27 rfl zd) G15.defers ⟨rfl, M16.below⟩
theorem roffer7_any (k : Int) (P Q g : Nat) (h1 : 1 < P) (hP : P < 2147483648) (h2 : 2 < Q) (hQ5 : Q < 4294967296) (hg : g < 4294967296 ^ 8) (r : RecN) (V : RecV) (hr : r.a < 4294967296 ^ 8) (hs : r.s.size ≤ 200) (hrl : r.l2.length ≤ 200) (a : Nat) (ha : a < 4294967296 ^ 8) (ld : List UInt8) (hdl : ld.length ≤ 200) (vd : Value) (w : World) (hm2 : RecIs w r V) (hd : IsB w ld vd) :
  Calls Tryz.prog 15 #[.agg (zg k P Q g), .agg (recA r V), numV a, vd] w fun e w' => ∃ y, e = .returned (.tuple #[.agg (zk (cond (offOk P Q g r.a a (texN Q [98] [ld])) (zja (offS k P Q g r.s r.l2 r.a a (texN Q [98] [ld])) (offN P Q g r.a a (texN Q [98] [ld]))) zeroS) y), numV (cond (offOk P Q g r.a a (texN Q [98] [ld])) (offB P Q g r.a (texN Q [98] [ld])) 0), .bool (offOk P Q g r.a a (texN Q [98] [ld]))]) ∧ SShp y ∧ Below w.heap.size w w' := by
 have hP8 : P < 4294967296 ^ 8 := Nat.lt_trans hP (by decide)
 have hQ : Q < 4294967296 ^ 8 := Nat.lt_trans hQ5 (by decide)
 obtain ⟨O, hO⟩ : ∃ O, texN Q [98] [ld] = O := ⟨_, rfl⟩
 have hOl : O < 4294967296 ^ 8 := by rw [← hO]; exact Nat.lt_trans (z8b h2 _).2 hQ
 have kE := fun (w : World) (u : Value) (h : IsP w [[98], ld] u) => rexp7_any k P Q g h2 hQ5 [[98], ld] (show 2 ≤ 6 by decide) (by simp only [List.mem_cons, List.not_mem_nil, or_false, forall_eq_or_imp, forall_eq]; exact ⟨by decide, hdl⟩) u w h
 rw [show expN Q (sumY (outF (macW [] [[98], ld]))) = O from hO] at kE
 rw [hO]
 clear hO
 have hP0 : 0 < P := by omega
 have hm : ∀ x, x % P < 4294967296 ^ 8 := fun x => Nat.lt_trans (Nat.mod_lt _ hP0) hP8
 have hm4 : ∀ x, x % P < 4294967296 := fun x => Nat.lt_trans (Nat.mod_lt _ hP0) (by omega)
 obtain ⟨b1, hb1⟩ : ∃ q, hasB a P Q = q := ⟨_, rfl⟩
 obtain ⟨b2, hb2⟩ : ∃ q, hasB r.a P Q = q := ⟨_, rfl⟩
 have kH1 := fun w => rhas_any k P Q g h1 hP a ha hQ w
 have kH2 := fun w => rhas_any k P Q g h1 hP r.a hr hQ w
 rw [hb1] at kH1
 rw [hb2] at kH2
 obtain ⟨K, hK⟩ : ∃ K, kN Q = K := ⟨_, rfl⟩
 have hKl : K < 4294967296 ^ 8 := by rw [← hK]; exact Nat.lt_trans (z8b h2 _).2 hQ
 have kK := fun w => rk7_any k P Q g h2 hQ5 w
 rw [hK] at kK
 have kC := fun w => rtimes_any k P Q g h1 hP K r.a hKl hr w
 have kR1 := fun w => zqc k P Q g h1 hP g O hg hOl w
 have kT := fun w => rsum7_any (K * r.a % P) (g ^ O % P) P (hm4 _) (hm4 _) hP0 hP8 w
 obtain ⟨B, hB⟩ : ∃ B, offB P Q g r.a O = B := ⟨_, rfl⟩
 rw [show (K * r.a % P + g ^ O % P) % P = B by rw [← hB, ← hK]; rfl] at kT
 have hBl : B < 4294967296 ^ 8 := by rw [← hB]; exact offB_lt hP0 hP8
 obtain ⟨C, hC⟩ : ∃ C, K * r.a % P = C := ⟨_, rfl⟩
 obtain ⟨G1, hG1⟩ : ∃ G1, g ^ O % P = G1 := ⟨_, rfl⟩
 rw [hC] at kC kT
 rw [hG1] at kR1 kT
 clear hC hG1 hK
 obtain ⟨U, hU⟩ : ∃ U, uN Q a B = U := ⟨_, rfl⟩
 have hUl : U < 4294967296 ^ 8 := by rw [← hU]; exact Nat.lt_trans (z8b h2 _).2 hQ
 have kU := fun w => ru7_any k P Q g h2 hQ5 a B w
 rw [hU] at kU
 have kR2 := fun w => zqc k P Q g h1 hP r.a U hr hUl w
 obtain ⟨T1, hT1⟩ : ∃ T1, r.a ^ U % P = T1 := ⟨_, rfl⟩
 have hT1l : T1 < 4294967296 ^ 8 := by rw [← hT1]; exact hm _
 have kM := fun w => rtimes_any k P Q g h1 hP a T1 ha hT1l w
 obtain ⟨T2, hT2⟩ : ∃ T2, a * T1 % P = T2 := ⟨_, rfl⟩
 have hT2l : T2 < 4294967296 ^ 8 := by rw [← hT2]; exact hm _
 have kR3 := fun w => zqc k P Q g h1 hP T2 O hT2l hOl w
 obtain ⟨N, hN⟩ : ∃ N, T2 ^ O % P = N := ⟨_, rfl⟩
 have hoN : offN P Q g r.a a O = N := by unfold offN; rw [hB, hU, hT1, hT2, hN]
 have hoS : offS k P Q g r.s r.l2 r.a a O = ⟨k, P, Q, g, r.s, [], a, B, O, r.l2, r.a, fun _ => 0, fun _ => 0⟩ := by unfold offS; rw [hB]
 have hoK : offOk P Q g r.a a O = (b1 && b2 && !decide (B = 0)) := by unfold offOk; rw [hB, hb1, hb2]
 rw [hoN, hoS, hoK, hB]
 rw [hT1] at kR2
 rw [hT2] at kM
 rw [hN] at kR3
 clear hoN hoS hoK hN hT2 hT1 hU hB hb1 hb2
 obtain ⟨vr, v5⟩ := V
 obtain ⟨Ar, cr, rfl⟩ := id hm2.h2.shape
 obtain ⟨A5, c5, rfl⟩ := id hm2.h5.shape
 obtain ⟨As, cs, rfl⟩ := id hd.shape
 refine zea (args := [.agg (zg k P Q g), .agg (recA r ⟨.slice Ar r.l2.length cr, .slice A5 r.l5.length c5⟩), numV a, .slice As ld.length cs]) 84 Tryz.func15 rfl rfl rfl ?_
 intro fa F
 have M := Mx.start w
 replace M := M.argB 0 hm2.h2 (fun g e => by cases e)
 replace M := M.argB 1 hm2.h5 (fun g e => by cases e)
 replace M := M.argB 2 hd (fun g e => by cases e)
 refine zT fun _ hK1 => zh (zc rfl) rfl F rfl M 3 (t := 29) (c := zg k P Q g) (by unfold execOp; simp only [(F.get (t := 0) rfl)]; kernel_rfl) ?_
 intro g2 a2 w2 F2 M2
 refine zh (zc rfl) rfl F2 rfl M2 4 (t := 33) (c := recA r ⟨.slice Ar r.l2.length cr, .slice A5 r.l5.length c5⟩) (by unfold execOp; simp only [(F2.get (t := 1) rfl)]; kernel_rfl) ?_
 intro g3 a3 w3 F3 M3
 refine zh (zc rfl) rfl F3 rfl M3 5 (t := 27) (c := numA a) (by unfold execOp; simp only [(F3.get (t := 2) rfl)]; kernel_rfl) ?_
 intro g4 a4 w4 F4 M4
 refine zh (zc rfl) rfl F4 rfl M4 6 (t := 42) (c := zSA) (by unfold execOp; kernel_rfl) ?_
 intro g5 a5 w5 F5 M5
 refine zh (zc rfl) rfl F5 rfl M5 7 (t := 27) (c := numA 0) (zu rfl) ?_
 intro g6 a6 w6 F6 M6
 refine rm rfl F6 fun _ F7 => hK1 _ _ (zSk fun _ hK8 => zT fun _ hK9 => zAx 2 [(13, .agg (zg k P Q g)), (14, numV a)] [0, 1] (zp (M6.blk (k := 3) rfl) (zp (M6.blk (k := 5) rfl) dnil)) [g2, g4] F7 fun _ F10 => ?_)
 refine zaa (zc rfl) rfl F10 rfl rfl (zE Tryz.func30 rfl) #[.agg (zg k P Q g), numV a] (z3a (F10.get (t := 13) rfl) (F10.get (t := 14) rfl)) (zca (kH1 w6)) ?_
 rintro _ w11 a11 ⟨rfl, b11⟩ F11
 have M11 := M6.step b11
 cases b1
 ·refine zAx 8 [(16, .bool true), (17, .bool true), (18, undef), (19, undef), (20, undef), (21, undef), (22, undef), (23, .bool true)] [] dnil [] F11 fun _ F12 => ?_
  refine hK9 _ _ (wp_cond_true (F12.get (t := 23) rfl) (zT fun _ hK13 => zj (w' := w11) (zc rfl) rfl F12 rfl (.agg (zSA)) (by unfold execOp; kernel_rfl) fun _ F14 => ?_))
  refine zj (w' := w11) (zc rfl) rfl F14 rfl (numV 0) (zlc rfl) fun _ F15 => ?_
  refine zr (zc rfl) rfl F15 M11 (k := 6) rfl _ _ _ rfl (F15.get (t := 8) rfl) (F15.get (t := 24) rfl) (zSA) _ rfl (zL rfl) (zpa (w := w11) ⟨(zfa _), (zfa _)⟩) (zo rfl) (by kernel_rfl) ?_
  intro w16 M16
  refine zr (zc rfl) rfl F15 M16 (k := 7) rfl _ _ _ rfl (F15.get (t := 9) rfl) (F15.get (t := 25) rfl) (numA 0) _ rfl (zL rfl) (zy _) (zo rfl) zd ?_
  intro w17 M17
  refine rm rfl F15 fun _ F18 => hK13 _ _ (wp_ret ?_)
  try simp only [Exit.then, Exit.inBlock, Exit.jump]
  exact bodyPost_ret (res2ct rfl (F18.get rfl) (M17.blk (k := 6) rfl) (F18.get rfl) (M17.blk (k := 7) rfl) (F18.get rfl) Tryz.underlying42 rfl (by kernel_rfl) Tryz.underlying27 rfl zd) F18.defers (by simp only [Bool.false_and, Bool.true_and, Bool.and_false, Bool.and_true, Bool.not_true, Bool.not_false, cond_true, cond_false]; exact ⟨_, rfl, ⟨⟨_, _, _, rfl⟩, _, _, _, rfl⟩, M17.below⟩)
 ·refine zAx 5 [(16, .bool false), (17, .bool false), (18, .agg (zg k P Q g)), (19, .pointer (some ⟨g3, 3, none⟩)), (20, numV r.a)] [0, 1] (zp (M11.blk (k := 3) rfl) (zp (M11.blk (k := 4) rfl) dnil)) [g2, g3] F11 fun _ F19 => ?_
  refine zaa (zob rfl rfl rfl (F19.get (t := 17) rfl)) rfl F19 rfl rfl (zE Tryz.func30 rfl) #[.agg (zg k P Q g), numV r.a] (z3a (F19.get (t := 18) rfl) (F19.get (t := 20) rfl)) (zca (kH2 w11)) ?_
  rintro _ w20 a20 ⟨rfl, b20⟩ F20
  have M20 := M11.step b20
  cases b2
  ·refine zAx 2 [(22, .bool true), (23, .bool true)] [] dnil [] F20 fun _ F21 => ?_
   refine hK9 _ _ (wp_cond_true (F21.get (t := 23) rfl) (zT fun _ hK22 => zj (w' := w20) (zc rfl) rfl F21 rfl (.agg (zSA)) (by unfold execOp; kernel_rfl) fun _ F23 => ?_))
   refine zj (w' := w20) (zc rfl) rfl F23 rfl (numV 0) (zlc rfl) fun _ F24 => ?_
   refine zr (zc rfl) rfl F24 M20 (k := 6) rfl _ _ _ rfl (F24.get (t := 8) rfl) (F24.get (t := 24) rfl) (zSA) _ rfl (zL rfl) (zpa (w := w20) ⟨(zfa _), (zfa _)⟩) (zo rfl) (by kernel_rfl) ?_
   intro w25 M25
   refine zr (zc rfl) rfl F24 M25 (k := 7) rfl _ _ _ rfl (F24.get (t := 9) rfl) (F24.get (t := 25) rfl) (numA 0) _ rfl (zL rfl) (zy _) (zo rfl) zd ?_
   intro w26 M26
   refine rm rfl F24 fun _ F27 => hK22 _ _ (wp_ret ?_)
   try simp only [Exit.then, Exit.inBlock, Exit.jump]
   exact bodyPost_ret (res2ct rfl (F27.get rfl) (M26.blk (k := 6) rfl) (F27.get rfl) (M26.blk (k := 7) rfl) (F27.get rfl) Tryz.underlying42 rfl (by kernel_rfl) Tryz.underlying27 rfl zd) F27.defers (by simp only [Bool.false_and, Bool.true_and, Bool.and_false, Bool.and_true, Bool.not_true, Bool.not_false, cond_true, cond_false]; exact ⟨_, rfl, ⟨⟨_, _, _, rfl⟩, _, _, _, rfl⟩, M26.below⟩)
  ·refine zAx 2 [(22, .bool false), (23, .bool false)] [] dnil [] F20 fun _ F28 => ?_
   refine hK9 _ _ (wp_cond_false (F28.get (t := 23) rfl) (wp_skip (hK8 _ _ (zSk fun _ hK29 => ?_))))
   have hD30 := (zp (M20.blk (k := 3) rfl) (zp (M20.blk (k := 4) rfl) (zp (M20.blk (k := 5) rfl) dnil)))
   refine zha F28 (SK [.inl (.agg (zg k P Q g)), .inl (.pointer (some ⟨g3, 1, none⟩)), .inl (.string r.s), .inl (numV a), .inl (.agg (zg k P Q g)), .inr (StK.lit w20.heap.size [98]), .inr (StK.lit w20.heap.size [98]), .inl (.slice As ld.length cs), .inr (StK.parts [[98], ld]), .inl (numV O), .inl (.pointer (some ⟨g3, 2, none⟩)), .inl (.slice Ar r.l2.length cr), .inl (.pointer (some ⟨g3, 3, none⟩)), .inl (numV r.a), .inl (.agg (zk ⟨k, P, Q, g, r.s, [], a, 0, O, r.l2, r.a, (fun _ => 0), (fun _ => 0)⟩ ⟨zN, .slice Ar r.l2.length cr⟩)), .inr (StK.new w20.heap.size (zSA) 42 (by decide))]) 16 rfl (by kernel_rfl) ⟨hopP F28 hD30 0 (some g2) (by kernel_rfl), hop0 F28 (by kernel_rfl), hopP F28 hD30 1 (some g3) (by kernel_rfl), hopP F28 hD30 2 (some g4) (by kernel_rfl), hopP F28 hD30 0 (some g2) (by kernel_rfl), ?_, ?_, hop0 F28 (by kernel_rfl), ?_, ?_, hop0 F28 (by kernel_rfl), hopP F28 hD30 1 (some g3) (by kernel_rfl), hop0 F28 (by kernel_rfl), hopP F28 hD30 1 (some g3) (by kernel_rfl), hopR F28 [(26, .agg (zg k P Q g)), (28, .string r.s), (29, numV a), (35, numV O), (37, .slice Ar r.l2.length cr), (39, numV r.a)] (v := .agg (zk ⟨k, P, Q, g, r.s, [], a, 0, O, r.l2, r.a, (fun _ => 0), (fun _ => 0)⟩ ⟨zN, .slice Ar r.l2.length cr⟩)) fun ua uw hb ⟨e26, e28, e29, e35, e37, e39, _⟩ => (by unfold execOp; simp only [List.map_toArray, List.map_cons, List.map_nil, e26, e28, e29, e35, e37, e39]; kernel_rfl), ?_, trivial⟩ ?_
   ·intro ua uw hb hd
    exact hop_lit (zc rfl) hb.size [98] (by decide) (by decide) _ rfl (by simp only [List.map_toArray, List.map_cons, List.map_nil]; kernel_rfl)
   ·intro ua uw hb hd
    have l31 : LitB w20.heap.size uw [98] (ua.eval (.tmp 31)) := hd 31 (by decide)
    have e31 := l31.isB
    exact zmc (zc rfl) _ rfl l31
   ·intro ua uw hb hd
    have l32 : LitB w20.heap.size uw [98] (ua.eval (.tmp 32)) := hd 32 (by decide)
    have e32 := l32.isB
    have e33 : ua.eval (.tmp 33) = .slice As ld.length cs := hd 33 (by decide)
    exact hop_parts2 (zc rfl) hb.size (.tmp 32) (.tmp 33) rfl e32 (by rw [e33]; exact ((M20.step hb).isb (k := 2) rfl))
   ·intro ua uw hb hd
    have e30 : ua.eval (.tmp 30) = .agg (zg k P Q g) := hd 30 (by decide)
    have e34 : IsP uw [[98], ld] (ua.eval (.tmp 34)) := hd 34 (by decide)
    exact zba (F := (StK.eq (numV O)).F) (zc rfl) hb.size rfl #[.agg (zg k P Q g), (ua.eval (.tmp 34))] (z3a e30 rfl) (zE Tryz.func25 rfl) (zqa ((kE _ _ e34)))
   ·intro ua uw hb hd
    exact hop_new (zc rfl) hb.size hb.size (by decide) (by unfold execOp; kernel_rfl)
   intro p31 a31 w31 b31 G31 y31
   obtain ⟨-, -, -, -, -, -, -, -, -, -, -, -, -, -, q14, q15, -⟩ := y31
   obtain ⟨gn15x30, r15, hg15, hc15⟩ := q15 (by decide)
   replace r15 : p31 15 = .pointer (some ⟨gn15x30, 0, none⟩) := r15
   have r14 : p31 14 = .agg (zk ⟨k, P, Q, g, r.s, [], a, 0, O, r.l2, r.a, (fun _ => 0), (fun _ => 0)⟩ ⟨zN, .slice Ar r.l2.length cr⟩) := q14 (by decide)
   simp only [List.take, layV, Nat.zero_add, Nat.reduceAdd, r14, r15] at G31
   have M31 := M20.newb b31.below 8 hg15 hc15
   clear hg15 hc15 r15
   clear F28 M20 r14 q14
   refine zr (zc rfl) rfl G31 M31 (k := 8) rfl _ _ _ rfl (G31.get (t := 11) rfl) (G31.get (t := 40) rfl) (zk ⟨k, P, Q, g, r.s, [], a, 0, O, r.l2, r.a, (fun _ => 0), (fun _ => 0)⟩ ⟨zN, .slice Ar r.l2.length cr⟩) _ rfl (zL rfl) (zpa (w := w31) ⟨(zfa _), (M31.isb (k := 0) rfl)⟩) (zo rfl) (by kernel_rfl) ?_
   intro w32 M32
   refine hK29 _ _ (zSk fun _ hK33 => ?_)
   have hD34 := (zp (M32.blk (k := 3) rfl) (zp (M32.blk (k := 4) rfl) (zp (M32.blk (k := 8) rfl) dnil)))
   refine zha G31 (SK [.inl (.agg (zg k P Q g)), .inl (.agg (zg k P Q g)), .inl (numV K), .inl (.pointer (some ⟨g3, 3, none⟩)), .inl (numV r.a), .inl (numV C), .inl (.agg (zg k P Q g)), .inl (.pointer (some ⟨g2, 17, none⟩)), .inl (numV g), .inl (.pointer (some ⟨gn15x30, 43, none⟩)), .inl (numV O), .inl (numV G1), .inl (.pointer (some ⟨g2, 1, none⟩)), .inl (numV P), .inl (numV B), .inl (.pointer (some ⟨gn15x30, 35, none⟩))]) 16 rfl (by kernel_rfl) ⟨hopP G31 hD34 0 (some g2) (by kernel_rfl), hopP G31 hD34 0 (some g2) (by kernel_rfl), hopC G31 [(42, .agg (zg k P Q g))] rfl (zE Tryz.func44 rfl) fun uw hb => kK uw, hop0 G31 (by kernel_rfl), hopP G31 hD34 1 (some g3) (by kernel_rfl), hopC G31 [(41, .agg (zg k P Q g)), (43, numV K), (45, numV r.a)] rfl (zE Tryz.func28 rfl) fun uw hb => kC uw, hopP G31 hD34 0 (some g2) (by kernel_rfl), hop0 G31 (by kernel_rfl), hopP G31 hD34 0 (some g2) (by kernel_rfl), hop0 G31 (by kernel_rfl), hopP G31 hD34 2 (some gn15x30) (by kernel_rfl), hopC G31 [(47, .agg (zg k P Q g)), (49, numV g), (51, numV O)] rfl (zE Tryz.func27 rfl) fun uw hb => kR1 uw, hop0 G31 (by kernel_rfl), hopP G31 hD34 0 (some g2) (by kernel_rfl), hopC G31 [(46, numV C), (52, numV G1), (54, numV P)] rfl (zE Tryz.func43 rfl) fun uw hb => kT uw, hop0 G31 (by kernel_rfl), trivial⟩ ?_
   intro p35 a35 w35 b35 G35 y35
   obtain ⟨-, -, -, -, -, -, -, -, -, -, -, -, -, -, q14, q15, -⟩ := y35
   have r14 : p35 14 = numV B := q14 (by decide)
   have r15 : p35 15 = .pointer (some ⟨gn15x30, 35, none⟩) := q15 (by decide)
   simp only [List.take, layV, Nat.zero_add, Nat.reduceAdd, r14, r15] at G35
   have M35 := M32.kc b35
   clear G31 M32 r14 q14 r15 q15
   refine zr (zc rfl) rfl G35 M35 (k := 8) rfl _ _ _ rfl (G35.get (t := 56) rfl) (G35.get (t := 55) rfl) (numA B) (zk (zOS k P Q g r a B O) ⟨zN, .slice Ar r.l2.length cr⟩) rfl (zL rfl) (zy _) (by kernel_rfl) zd ?_
   intro w36 M36
   refine hK33 _ _ (zSk fun _ hK37 => zT fun _ hK38 => zAx 2 [(57, .pointer (some ⟨gn15x30, 35, none⟩)), (58, numV B)] [0] (zp (M36.blk (k := 8) rfl) dnil) [gn15x30] G35 fun _ F39 => ?_)
   clear G35
   refine zj (w' := w36) (zc rfl) rfl F39 rfl (numV 0) (zlc rfl) fun _ F40 => ?_
   by_cases h41 : B = 0
   ·refine zj (w' := w36) (zc rfl) rfl F40 rfl (.bool true) (y_eqA _ _ _ _ rfl (F40.get (t := 58) rfl) (F40.get (t := 59) rfl) (by kernel_rfl) (eqn_is h41 _)) fun _ F42 => ?_
    refine hK38 _ _ (wp_cond_true (F42.get (t := 60) rfl) (zT fun _ hK43 => zj (w' := w36) (zc rfl) rfl F42 rfl (.agg (zSA)) (by unfold execOp; kernel_rfl) fun _ F44 => ?_))
    refine zj (w' := w36) (zc rfl) rfl F44 rfl (numV 0) (zlc rfl) fun _ F45 => ?_
    refine zr (zc rfl) rfl F45 M36 (k := 6) rfl _ _ _ rfl (F45.get (t := 8) rfl) (F45.get (t := 61) rfl) (zSA) _ rfl (zL rfl) (zpa (w := w36) ⟨(zfa _), (zfa _)⟩) (zo rfl) (by kernel_rfl) ?_
    intro w46 M46
    refine zr (zc rfl) rfl F45 M46 (k := 7) rfl _ _ _ rfl (F45.get (t := 9) rfl) (F45.get (t := 62) rfl) (numA 0) _ rfl (zL rfl) (zy _) (zo rfl) zd ?_
    intro w47 M47
    refine rm rfl F45 fun _ F48 => hK43 _ _ (wp_ret ?_)
    try simp only [Exit.then, Exit.inBlock, Exit.jump]
    exact bodyPost_ret (res2ct rfl (F48.get rfl) (M47.blk (k := 6) rfl) (F48.get rfl) (M47.blk (k := 7) rfl) (F48.get rfl) Tryz.underlying42 rfl (by kernel_rfl) Tryz.underlying27 rfl zd) F48.defers (by simp only [Bool.false_and, Bool.true_and, Bool.and_false, Bool.and_true, Bool.not_true, Bool.not_false, cond_true, cond_false, decide_eq_true h41]; exact ⟨_, rfl, ⟨⟨_, _, _, rfl⟩, _, _, _, rfl⟩, M47.below⟩)
   ·refine zj (w' := w36) (zc rfl) rfl F40 rfl (.bool false) (y_eqA _ _ _ _ rfl (F40.get (t := 58) rfl) (F40.get (t := 59) rfl) (by kernel_rfl) (eqn_no hBl h41 _)) fun _ F49 => ?_
    refine hK38 _ _ (wp_cond_false (F49.get (t := 60) rfl) (wp_skip (hK37 _ _ (zSk fun _ hK50 => ?_))))
    have hD51 := (zp (M36.blk (k := 3) rfl) (zp (M36.blk (k := 5) rfl) (zp (M36.blk (k := 4) rfl) (zp (M36.blk (k := 8) rfl) dnil))))
    refine zha F49 (SK [.inl (.agg (zg k P Q g)), .inl (numV a), .inl (.agg (zg k P Q g)), .inl (.pointer (some ⟨g3, 3, none⟩)), .inl (numV r.a), .inl (.agg (zg k P Q g)), .inl (numV a), .inl (.pointer (some ⟨gn15x30, 35, none⟩)), .inl (numV B), .inl (numV U), .inl (numV T1), .inl (numV T2), .inr (StK.new w36.heap.size (numA 0) 27 (by decide))]) 13 rfl (by kernel_rfl) ⟨hopP F49 hD51 0 (some g2) (by kernel_rfl), hopP F49 hD51 1 (some g4) (by kernel_rfl), hopP F49 hD51 0 (some g2) (by kernel_rfl), hop0 F49 (by kernel_rfl), hopP F49 hD51 2 (some g3) (by kernel_rfl), hopP F49 hD51 0 (some g2) (by kernel_rfl), hopP F49 hD51 1 (some g4) (by kernel_rfl), hop0 F49 (by kernel_rfl), hopP F49 hD51 3 (some gn15x30) (by kernel_rfl), hopC F49 [(68, .agg (zg k P Q g)), (69, numV a), (71, numV B)] rfl (zE Tryz.func45 rfl) fun uw hb => kU uw, hopC F49 [(65, .agg (zg k P Q g)), (67, numV r.a), (72, numV U)] rfl (zE Tryz.func27 rfl) fun uw hb => kR2 uw, hopC F49 [(63, .agg (zg k P Q g)), (64, numV a), (73, numV T1)] rfl (zE Tryz.func28 rfl) fun uw hb => kM uw, ?_, trivial⟩ ?_
    ·intro ua uw hb hd
     exact hop_new (zc rfl) hb.size hb.size (by decide) (zu rfl)
    intro p52 a52 w52 b52 G52 y52
    obtain ⟨-, -, -, -, -, -, -, -, -, -, -, q11, q12, -⟩ := y52
    obtain ⟨gn12x51, r12, hg12, hc12⟩ := q12 (by decide)
    replace r12 : p52 12 = .pointer (some ⟨gn12x51, 0, none⟩) := r12
    have r11 : p52 11 = numV T2 := q11 (by decide)
    simp only [List.take, layV, Nat.zero_add, Nat.reduceAdd, r11, r12] at G52
    have M52 := M36.newb b52.below 9 hg12 hc12
    clear hg12 hc12 r12
    clear F49 M36 r11 q11
    refine zr (zc rfl) rfl G52 M52 (k := 9) rfl _ _ _ rfl (G52.get (t := 12) rfl) (G52.get (t := 74) rfl) (numA T2) _ rfl (zL rfl) (zy _) (zo rfl) zd ?_
    intro w53 M53
    refine hK50 _ _ (zSk fun _ hK54 => ?_)
    refine z4a G52 (SE [.inl (.agg (zk (zOS k P Q g r a B O) ⟨zN, .slice Ar r.l2.length cr⟩)), .inl (.agg (zg k P Q g)), .inl (numV T2), .inl (.pointer (some ⟨gn15x30, 43, none⟩)), .inl (numV O), .inl (numV N), .inl (.agg (zk (zja (zOS k P Q g r a B O) N) ⟨zN, .slice Ar r.l2.length cr⟩)), .inl (.pointer (some ⟨gn15x30, 35, none⟩)), .inl (numV B), .inl (undef)]) (JM none w fun SV pV => [(0, bytR r.l2 (.slice Ar r.l2.length cr)), (1, bytR r.l5 (.slice A5 r.l5.length c5)), (2, bytR ld (.slice As ld.length cs)), (3, blkR g2 29 (zg k P Q g)), (4, blkR g3 33 (recA r ⟨.slice Ar r.l2.length cr, .slice A5 r.l5.length c5⟩)), (5, blkR g4 27 (numA a)), (6, blkR g5 42 (zk (cond (SV 9) ((zja (zOS k P Q g r a B O) N) : SideN) ⟨0, 0, 0, 0, "".toUTF8, [], 0, 0, 0, [], 0, (fun _ => 0), (fun _ => 0)⟩) (cond (SV 9) (⟨zN, .slice Ar r.l2.length cr⟩ : SideV) ⟨zN, zN⟩))), (7, blkR g6 27 (numA 0)), (8, blkR gn15x30 42 (zk (zOS k P Q g r a B O) ⟨zN, .slice Ar r.l2.length cr⟩)), (9, blkR gn12x51 27 (numA T2))]) 10 rfl (by kernel_rfl) rfl ⟨trivial, trivial, trivial, trivial, trivial, trivial, trivial, trivial, trivial, fun _ => Iff.rfl, trivial⟩ (fun p => (M53.step (zta _)).sub ⟨rfl, rfl, rfl, rfl, rfl, rfl, rfl, rfl, rfl, rfl, trivial⟩) ⟨z0a G52 (fun _ _ _ M => zp (Mx.blk (k := 8) M rfl) dnil) (some gn15x30) (by kernel_rfl), z0a G52 (fun _ _ _ M => zp (Mx.blk (k := 3) M rfl) dnil) (some g2) (by kernel_rfl), z0a G52 (fun _ _ _ M => zp (Mx.blk (k := 9) M rfl) dnil) (some gn12x51) (by kernel_rfl), zeb G52 (by kernel_rfl), z0a G52 (fun _ _ _ M => zp (Mx.blk (k := 8) M rfl) dnil) (some gn15x30) (by kernel_rfl), ?_, ?_, zeb G52 (by kernel_rfl), z0a G52 (fun _ _ _ M => zp (Mx.blk (k := 8) M rfl) dnil) (some gn15x30) (by kernel_rfl), ?_, trivial⟩ ?_
    ·intro ua uw SV pV (M : Mx none w uw _) hk hn hd
     have e76 : ua.eval (.tmp 76) = .agg (zg k P Q g) := zQ1 (hd 76 (by decide))
     have e77 : ua.eval (.tmp 77) = numV T2 := zQ1 (hd 77 (by decide))
     have e79 : ua.eval (.tmp 79) = numV O := zQ1 (hd 79 (by decide))
     exact zza (zc rfl) rfl #[.agg (zg k P Q g), numV T2, numV O] (args3 e76 e77 e79) (zE Tryz.func27 rfl) ((kR3 uw).mono fun e w2 h => ⟨_, h.1, rfl, (M.step h.2).sub ⟨rfl, rfl, rfl, rfl, rfl, rfl, rfl, rfl, rfl, rfl, trivial⟩⟩)
    ·intro ua uw SV pV (M : Mx none w uw _) hk hn hd
     have e75 : ua.eval (.tmp 75) = .agg (zk (zOS k P Q g r a B O) ⟨zN, .slice Ar r.l2.length cr⟩) := zQ1 (hd 75 (by decide))
     have e80 : ua.eval (.tmp 80) = numV N := zQ1 (hd 80 (by decide))
     exact zza (zc rfl) rfl #[.agg (zk (zOS k P Q g r a B O) ⟨zN, .slice Ar r.l2.length cr⟩), numV N] (z3a e75 e80) (zE Tryz.func46 rfl) (((rkeyed7_any (zOS k P Q g r a B O) ⟨zN, .slice Ar r.l2.length cr⟩ N hs hrl uw ⟨(zfa _), (M.isb (k := 0) rfl)⟩)).mono fun e w2 h => ⟨_, h.1, rfl, (M.step h.2).sub ⟨rfl, rfl, rfl, rfl, rfl, rfl, rfl, rfl, rfl, rfl, trivial⟩⟩)
    ·intro ua uw SV pV (M : Mx none w uw _) hk hn hd
     have e8 : ua.eval (.tmp 8) = .pointer (some ⟨g5, 0, none⟩) := (show ua.eval (.tmp 8) = _ from hd 8 (by decide)).trans (G52.get (t := 8) rfl)
     have e81 : ua.eval (.tmp 81) = .agg (zk (zja (zOS k P Q g r a B O) N) ⟨zN, .slice Ar r.l2.length cr⟩) := zQ1 (hd 81 (by decide))
     exact hopM_doM (zc rfl) rfl (run_st M (k := 6) rfl _ _ _ rfl e8 e81 (zk (zja (zOS k P Q g r a B O) N) ⟨zN, .slice Ar r.l2.length cr⟩) _ rfl (zL rfl) (zpa (w := w53) ⟨(zfa _), (M53.isb (k := 0) rfl)⟩) (zo rfl) (by kernel_rfl)) (fun w2 h2 => h2.sub ⟨rfl, rfl, rfl, rfl, rfl, rfl, rfl, rfl, rfl, rfl, trivial⟩) rfl
    intro p55 a55 w55 M55 G55 y55
    obtain ⟨-, -, -, -, -, -, -, -, q8, -, -⟩ := y55
    have r8 : p55 8 = numV B := q8
    replace M55 : Mx _ _ w55 [(0, bytR r.l2 (.slice Ar r.l2.length cr)), (1, bytR r.l5 (.slice A5 r.l5.length c5)), (2, bytR ld (.slice As ld.length cs)), (3, blkR g2 29 (zg k P Q g)), (4, blkR g3 33 (recA r ⟨.slice Ar r.l2.length cr, .slice A5 r.l5.length c5⟩)), (5, blkR g4 27 (numA a)), (6, blkR g5 42 (zk (zja (zOS k P Q g r a B O) N) ⟨zN, .slice Ar r.l2.length cr⟩)), (7, blkR g6 27 (numA 0)), (8, blkR gn15x30 42 (zk (zOS k P Q g r a B O) ⟨zN, .slice Ar r.l2.length cr⟩)), (9, blkR gn12x51 27 (numA T2))] := M55
    simp only [List.take, layV, Nat.zero_add, Nat.reduceAdd, r8] at G55
    refine zr (zc rfl) rfl G55 M55 (k := 7) rfl _ _ _ rfl (G55.get (t := 9) rfl) (G55.get (t := 83) rfl) (numA B) _ rfl (zL rfl) (zy _) (zo rfl) zd ?_
    intro w56 M56
    refine rm rfl G55 fun _ F57 => hK54 _ _ (wp_ret ?_)
    try simp only [Exit.then, Exit.inBlock, Exit.jump]
    exact bodyPost_ret (res2ct rfl (F57.get rfl) (M56.blk (k := 6) rfl) (F57.get rfl) (M56.blk (k := 7) rfl) (F57.get rfl) Tryz.underlying42 rfl (by kernel_rfl) Tryz.underlying27 rfl zd) F57.defers (by simp only [Bool.false_and, Bool.true_and, Bool.and_false, Bool.and_true, Bool.not_true, Bool.not_false, cond_true, cond_false, decide_eq_false h41]; exact ⟨_, rfl, ⟨⟨_, _, _, rfl⟩, _, _, _, rfl⟩, M56.below⟩)
end Go.Proofs.YtcfepoopkfhojaaGreat
