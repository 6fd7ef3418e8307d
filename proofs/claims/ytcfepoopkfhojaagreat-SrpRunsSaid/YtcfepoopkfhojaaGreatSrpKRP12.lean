/- What SrpKR stands on, part 12. -/
import Derived.Test.YtcfepoopkfhojaaGreatSrpKRP1
import Derived.Test.YtcfepoopkfhojaaGreatSrpKRP2
import Derived.Test.YtcfepoopkfhojaaGreatSrpKRP3
import Derived.Test.YtcfepoopkfhojaaGreatSrpKRP4
import Derived.Test.YtcfepoopkfhojaaGreatSrpKRP5
import Derived.Test.YtcfepoopkfhojaaGreatSrpKRP6
import Derived.Test.YtcfepoopkfhojaaGreatSrpKRP7
import Derived.Test.YtcfepoopkfhojaaGreatSrpKRP8
import Derived.Test.YtcfepoopkfhojaaGreatSrpKRP9
import Derived.Test.YtcfepoopkfhojaaGreatSrpKRP10
import Derived.Test.YtcfepoopkfhojaaGreatSrpKRP11
set_option maxRecDepth 100000
set_option maxHeartbeats 8000000
set_option linter.unusedVariables false
set_option linter.unusedSimpArgs false
namespace Go.Proofs.YtcfepoopkfhojaaGreat
open Go.ChangeShapes Go.WideShapes Go.ChangeAt Go.RowKit
theorem take4 (a : Nat) {k : Nat} (hk : k < 8) : (zo a).take (32 - 4 * k) = (zo a).take (28 - 4 * k) ++ [zhb a (28 - 4 * k), zhb a (29 - 4 * k), zhb a (30 - 4 * k), zhb a (31 - 4 * k)] := by
 have h : k = 0 ∨ k = 1 ∨ k = 2 ∨ k = 3 ∨ k = 4 ∨ k = 5 ∨ k = 6 ∨ k = 7 := by omega
 rcases h with rfl | rfl | rfl | rfl | rfl | rfl | rfl | rfl <;> rfl
theorem four_bytes (a : Nat) {k : Nat} (hk : k < 8) : #[Value.int .u8 (IntKind.u8.wrap (digI a k / 16777216)), .int .u8 (IntKind.u8.wrap (digI a k / 65536)), .int .u8 (IntKind.u8.wrap (digI a k / 256)), .int .u8 (IntKind.u8.wrap (digI a k))] = bvs [zhb a (28 - 4 * k), zhb a (29 - 4 * k), zhb a (30 - 4 * k), zhb a (31 - 4 * k)] := by
 have h0 := dig_byte a k 0 (by omega)
 have h1 := dig_byte a k 1 (by omega)
 have h2 := dig_byte a k 2 (by omega)
 have h3 := dig_byte a k 3 (by omega)
 have hl := dig_lt a k
 simp only [bvs, List.map_cons, List.map_nil, bv, byteN_toNat, digI, IntKind.wrap_u8]
 rw [show 31 - (28 - 4 * k) = 4 * k + 3 by omega, show 31 - (29 - 4 * k) = 4 * k + 2 by omega, show 31 - (30 - 4 * k) = 4 * k + 1 by omega, show 31 - (31 - 4 * k) = 4 * k + 0 by omega, ← h0, ← h1, ← h2, ← h3]
 generalize dig a k = d at *
 simp
theorem rbytes_any (a : Nat) (w : World) :
  Calls Tryz.prog 26 #[numV a] w fun e w' => ∃ A c, e = .returned (.slice A 32 c) ∧ 32 ≤ c ∧ c ≤ maxLen ∧ Rd w' A (zo a) ∧ Below w.heap.size w w' := by
 have g0 := Num.new w 27 a
 have gb := zda w (.cells (numA a) 27)
 have T4 := hid (fun k hk => @take4 a k hk)
 have F4 := hid (fun k hk => @four_bytes a k hk)
 have TF := hid (List.take_of_length_le (Nat.le_of_eq (zua a)))
 have LN := hid (zua a)
 go_enter Tryz.func26, Tryz.ntmps26
 go_wp2
 have hW1 : (w.alloc (.cells (numA a) 27)).heap.size = w.heap.size + 1 := by simp
 generalize World.alloc _ _ = W at *
 have HW := hid hW1
 clear hW1
 go_loopw [3, 4] (fun v i wr => ∃ q : Int, -1 ≤ q ∧ q ≤ 7 ∧ i = .int .i64 q ∧ Byt wr (w.heap.size + 1) v ((zo a).take (28 - 4 * q).toNat) ∧ Below (w.heap.size + 1) W wr) (fun _ i _ => (intOf i + 1).toNat)
 case atStart => exact ⟨7, by omega, by omega, rfl, Byt.nil _ _, Below.refl _ _⟩
 case round =>
  obtain ⟨q, hq1, hq2, rfl, hv, hB⟩ := hrel
  have n0 := g0.below hB (by omega)
  have hsz : w.heap.size + 1 ≤ wr.heap.size := by have := hB.size; have := HW.out; omega
  by_cases hq : 0 ≤ q
  ·obtain ⟨k, rfl⟩ := Int.eq_ofNat_of_zero_le hq
   have hc := n0.cell (k := k) (by omega)
   have hk : k < 8 := by omega
   have t4 := T4.out k hk
   have hd0 := zoa a k
   have hd1 := zna a k
   have e1 : (28 - 4 * (k : Int)).toNat = 28 - 4 * k := by omega
   have hv' : Byt wr (w.heap.size + 1) u3 ((zo a).take (28 - 4 * k)) := by rw [← e1]; exact hv
   have H4 := hid t4
   clear hv e1 t4
   have hrd : Rd (wr.alloc (.cells #[Value.int .u8 (IntKind.u8.wrap (digI a k / 16777216)), .int .u8 (IntKind.u8.wrap (digI a k / 65536)), .int .u8 (IntKind.u8.wrap (digI a k / 256)), .int .u8 (IntKind.u8.wrap (digI a k))] 5)).drew (some ⟨wr.heap.size, 0, none⟩) [zhb a (28 - 4 * k), zhb a (29 - 4 * k), zhb a (30 - 4 * k), zhb a (31 - 4 * k)] := by
    rw [F4.out k hk]
    exact Bts.rd (t := 5) (heap_alloc_new wr _)
   have hle : ((zo a).take (28 - 4 * k)).length ≤ 32 := by rw [List.length_take, LN.out]; omega
   have hk8 : (k : Int) < 8 := by omega
   obtain ⟨L, hL⟩ : ∃ L, L = (zo a).take (28 - 4 * k) := ⟨_, rfl⟩
   rw [← hL] at hv' hle
   have HL := hid hL
   clear hL
   clear LN hq1 hq2 hq F4
   go_wp2_with fail
   go_region_held3 (fun w' => w'.cell? ⟨w.heap.size, k, none⟩ = some (.int .u32 (digI a k))) (first | go_keep | (go_split_ands; rw [h2.cell (p := ⟨w.heap.size, k, none⟩) (by show w.heap.size < w.heap.size + 1; omega)]; assumption))
    ((refine step_append_bytes (by rfl) _ _ (by rfl) (w.heap.size + 1) u3 L [zhb a (28 - 4 * k), zhb a (29 - 4 * k), zhb a (30 - 4 * k), zhb a (31 - 4 * k)] (by rfl) (show Byt _ _ _ _ from Byt.alloc hv' _) _ 4 4 (by rfl) (by rfl) (by omega) hrd (by simp <;> omega) (by simp <;> omega) ?_; intro g cap w' h1 h2 h3 h4 h5))
   have eL : L ++ [zhb a (28 - 4 * k), zhb a (29 - 4 * k), zhb a (30 - 4 * k), zhb a (31 - 4 * k)] = (zo a).take (32 - 4 * k) := by rw [HL.out, ← H4.out]
   rw [eL] at h1
   have hB2 : Below (w.heap.size + 1) wr w' := ((zda wr _).mono (by omega)).trans (show Below _ (wr.alloc _) w' from ⟨h2.os, h2.tape, h2.output, h2.size, h2.block⟩)
   clear eL h2
   have H1 := hid h1
   clear h1
   go_wp2
   go_roundw
   case rel => exact ⟨(k : Int) - 1, by omega, by omega, by go_num, by rw [show (28 - 4 * ((k : Int) - 1)).toNat = 32 - 4 * k by omega]; exact H1.out, hB.trans hB2⟩
   case measure => simp [intOf] <;> omega
  ·have hq' : q = -1 := by omega
   subst hq'
   have hv' : Byt wr (w.heap.size + 1) u3 (zo a) := by have := hv; rw [show (28 - 4 * (-1 : Int)).toNat = 32 from rfl, TF.out] at this; exact this
   clear hv
   obtain ⟨A, c, rfl, h1, h2, h3, h4⟩ := hv'.slice
   rw [LN.out] at h1
   have e := LN.out
   go_wp2
   go_ret
   exact ⟨A, c, rfl, h1, h2, h3, gb.trans (hB.mono (by omega))⟩
/-! Read. -/
theorem dig_place {R k b : Nat} (hR : 256 ^ (k + 1) ∣ R) (hb : b < 256) : (∀ j, j ≠ k / 4 → dig (R + b * 256 ^ k) j = dig R j) ∧ dig (R + b * 256 ^ k) (k / 4) = dig R (k / 4) + b * 256 ^ (k % 4) ∧ dig R (k / 4) % 256 ^ (k % 4 + 1) = 0 := by
 obtain ⟨Q, rfl⟩ := hR
 have e : ∀ j, (4294967296 : Nat) ^ j = 256 ^ (4 * j) := fun j => by rw [Nat.pow_mul]
 have hp : ∀ j, (0 : Nat) < 256 ^ j := fun j => Nat.pow_pos (by decide)
 refine ⟨fun j hj => ?_, ?_⟩
 ·unfold dig
  rw [e]
  rcases Nat.lt_or_gt_of_ne hj with h | h
  ·obtain ⟨x, rfl⟩ : ∃ x, k = 4 * j + 4 + x := ⟨k - (4 * j + 4), by omega⟩
   have e1 : b * 256 ^ (4 * j + 4 + x) = 256 ^ (4 * j) * (4294967296 * (b * 256 ^ x)) := by
    rw [Nat.pow_add, Nat.pow_add, show (4294967296 : Nat) = 256 ^ 4 from rfl]; simp only [Nat.mul_assoc, Nat.mul_comm, Nat.mul_left_comm]
   rw [e1, Nat.add_mul_div_left _ _ (hp _), Nat.add_mul_mod_self_left]
  ·obtain ⟨x, hx⟩ : ∃ x, 4 * j = k + 1 + x := ⟨4 * j - (k + 1), by omega⟩
   have e3 : (256 : Nat) ^ (k + 1 + x) = 256 ^ k * (256 * 256 ^ x) := by rw [Nat.pow_add, Nat.pow_succ, Nat.mul_assoc]
   have e4 : 256 ^ (k + 1) * Q = 256 ^ k * (256 * Q) := by rw [Nat.pow_succ, Nat.mul_assoc]
   rw [hx, e3, e4, Nat.mul_comm b, ← Nat.mul_add, Nat.mul_div_mul_left _ _ (hp k), Nat.mul_div_mul_left _ _ (hp k), ← Nat.div_div_eq_div_mul, ← Nat.div_div_eq_div_mul]
   congr 2
   omega
 ·unfold dig
  rw [e]
  obtain ⟨d, r, hk, hr⟩ : ∃ d r, k = 4 * d + r ∧ r < 4 := ⟨k / 4, k % 4, by omega, by omega⟩
  have h1 : k / 4 = d := by omega
  have h2 : k % 4 = r := by omega
  rw [h1, h2, hk]
  have e1 : 256 ^ (4 * d + r + 1) * Q = 256 ^ (4 * d) * (256 ^ (r + 1) * Q) := by
   rw [Nat.add_assoc, Nat.pow_add, Nat.mul_assoc]
  have e2 : b * 256 ^ (4 * d + r) = 256 ^ (4 * d) * (b * 256 ^ r) := by
   rw [Nat.pow_add]; simp only [Nat.mul_assoc, Nat.mul_comm, Nat.mul_left_comm]
  rw [e1, e2, ← Nat.mul_add, Nat.mul_div_cancel_left _ (hp _), Nat.mul_div_cancel_left _ (hp _)]
  have : r = 0 ∨ r = 1 ∨ r = 2 ∨ r = 3 := by omega
  rcases this with rfl | rfl | rfl | rfl <;> simp <;> omega
theorem or_place {x b r : Nat} (hx : x < 4294967296) (hm : x % 256 ^ (r + 1) = 0) (hb : b < 256) (hr : r < 4) : bits .or .u32 (x : Int) ((b * 256 ^ r : Nat) : Int) = ((x + b * 256 ^ r : Nat) : Int) := by
 have h : b * 256 ^ r < 256 ^ (r + 1) := by rw [Nat.pow_succ, Nat.mul_comm]; exact Nat.mul_lt_mul_of_pos_left hb (Nat.pow_pos (by decide))
 have h2 : (256 : Nat) ^ (r + 1) ≤ 256 ^ 4 := Nat.pow_le_pow_right (by decide) (by omega)
 rw [u32_or_nat _ _ hx (by omega), nat_join (8 * (r + 1)) x _ (by rw [Nat.pow_mul]; exact hm) (by rw [Nat.pow_mul]; exact h)]
theorem Num.setDig {w : World} {b R R' d : Nat} {t : TypeId} (h : Num w b t R) (hd : d < 8) (hj : ∀ j, j ≠ d → dig R' j = dig R j) : Num (w.setCell ⟨b, d, none⟩ (.int .u32 (digI R' d))) b t R' := by
 refine zxb (h.row.set d _) fun j hj8 => ?_
 by_cases e : j = d
 ·rw [if_pos e, e]; rfl
 ·rw [if_neg e]; unfold numF digI; rw [hj j e]
def sofar (l : List UInt8) (n i : Nat) : Nat := zra (l.take i) * 256 ^ (n - i)
theorem sofar_next {l : List UInt8} {n i : Nat} (hl : l.length = n) (hi : i < n) : ∃ b : UInt8, l[i]? = some b ∧ sofar l n (i + 1) = sofar l n i + b.toNat * 256 ^ (n - 1 - i) ∧ 256 ^ (n - 1 - i + 1) ∣ sofar l n i := by
 have h : i < l.length := by omega
 refine ⟨l[i], List.getElem?_eq_getElem h, ?_, ?_⟩
 ·unfold sofar
  rw [List.take_succ_eq_append_getElem h, readN_snoc, show n - i = n - 1 - i + 1 by omega, show n - (i + 1) = n - 1 - i by omega, Nat.pow_succ]
  grind
 ·unfold sofar
  rw [show n - 1 - i + 1 = n - i by omega]
  exact Nat.dvd_mul_left _ _
theorem sofar_zero (l : List UInt8) (n : Nat) : sofar l n 0 = 0 := by unfold sofar; simp [zra]
theorem sofar_all {l : List UInt8} {n : Nat} (hl : l.length = n) : sofar l n n = zra l := by unfold sofar; rw [List.take_of_length_le (by omega)]; simp
attribute [irreducible] sofar
theorem place_step {l : List UInt8} {n i : Nat} (hl : l.length = n) (hn : n ≤ 32) (hi : i < n) : ∃ (b : UInt8) (d r : Nat), l[i]? = some b ∧ n - 1 - i = 4 * d + r ∧ d < 8 ∧ r < 4 ∧
  (∀ j, j ≠ d → dig (sofar l n (i + 1)) j = dig (sofar l n i) j) ∧ bits .or .u32 (digI (sofar l n i) d) ((b.toNat * 256 ^ r : Nat) : Int) = digI (sofar l n (i + 1)) d := by
 obtain ⟨b, h1, h2, h3⟩ := sofar_next hl hi
 obtain ⟨q1, q2, q3⟩ := dig_place h3 b.toNat_lt
 refine ⟨b, (n - 1 - i) / 4, (n - 1 - i) % 4, h1, by omega, by omega, by omega, fun j hj => by rw [h2]; exact q1 j hj, ?_⟩
 unfold digI
 rw [or_place (dig_lt _ _) q3 b.toNat_lt (by omega), h2, q2]
theorem rread_any (A : Option Addr) (l : List UInt8) (n cap : Nat) (hl : l.length = n) (hn : n ≤ 32) (w : World) (hR : Rd w A l) :
  Calls Tryz.prog 120 #[.slice A n cap] w fun e w' => e = .returned (.tuple #[numV (zra l), .bool true]) ∧ Below w.heap.size w w' := by
 have PS := hid (fun i hi => @place_step l n i hl hn hi)
 have SA := hid (sofar_all hl)
 have g0 := (Num.new w 27 0).alloc (.cells (numA 0) 27)
 have g1 := Num.new (w.alloc (.cells (numA 0) 27)) 27 0
 rw [World.size_alloc, ← sofar_zero l n] at g1
 have gb : Below w.heap.size w ((w.alloc (.cells (numA 0) 27)).alloc (.cells (numA 0) 27)) := ((Below.refl _ _).alloc (Nat.le_refl _) _).alloc (by simp) _
 have hs : ((w.alloc (.cells (numA 0) 27)).alloc (.cells (numA 0) 27)).heap.size = w.heap.size + 2 := by simp
 rw [sofar_zero] at g1
 rw [← zeroA] at g0 g1 gb hs
 have SZ := hid (sofar_zero l n)
 have HL := hid hl
 clear hl
 go_enter Tryz.func120, Tryz.ntmps120
 go_wp2
 generalize World.alloc (World.alloc _ _) _ = W at *
 go_loopw [5] (fun i wr => ∃ k : Nat, k ≤ n ∧ i = .int .i64 k ∧ Num wr (w.heap.size + 1) 27 (sofar l n k) ∧ W.grownBy wr (some (w.heap.size + 1))) (fun i _ => n - (intOf i).toNat)
 case atStart => exact ⟨0, by omega, rfl, by rw [SZ.out]; exact g1, World.grownBy.refl _ _⟩
 case round =>
  obtain ⟨i, hi, rfl, hnm, hg⟩ := hrel
  clear g1
  by_cases hlt : i < n
  ·obtain ⟨b, d, r, hb, hk, hd, hr, hj, hor⟩ := PS.out i hlt
   have hbb := b.toNat_lt
   have hcd := hnm.cell hd
   have hfd := hnm.frozen d
   have hB := zf gb hg (by omega) (by omega)
   obtain ⟨bb, oo, rfl, hbb2, hcl⟩ := (hR.below hB (Nat.le_refl _)).at (by have := HL.out; omega)
   have hcb := hcl i b hb
   clear hcl
   have HK := hid hk
   have HN := hid (hnm.setDig hd hj)
   clear hk hj hb
   obtain ⟨c, hc⟩ : ∃ c : Int, c = (b.toNat : Int) := ⟨_, rfl⟩
   rw [← hc] at hcb
   have hr3 : r = 0 ∨ r = 1 ∨ r = 2 ∨ r = 3 := by omega
   have hoR := zoa (sofar l n i) d
   have hoS := zna (sofar l n i) d
   rcases hr3 with rfl | rfl | rfl | rfl
   ·have hd8 : (d : Int) < 8 := by omega
    have hd0 : (0 : Int) ≤ (d : Int) := by omega
    have hor' : bits BinOp.or IntKind.u32 (digI (sofar l n i) d) (c % 4294967296) = digI (sofar l n (i + 1)) d := by rw [← hor, hc, Int.emod_eq_of_lt (by omega) (by omega)]; simp
    have hkI : (n : Int) - 1 - (i : Int) = 4 * (d : Int) := by have := HK.out; omega
    have hdd : IntKind.i64.wrap (d : Int) = (d : Int) := Go.IntWalk.i64_in _ (by omega)
    have hk4 : IntKind.i64.wrap ((4 * (d : Int)).tdiv 4) = (d : Int) := by rw [Int.tdiv_eq_ediv_of_nonneg (by omega), show (4 * (d : Int)) / 4 = (d : Int) by omega]; exact Go.IntWalk.i64_in _ (by omega)
    have hr4 : IntKind.i64.wrap ((4 * (d : Int)).tmod 4) = 0 := by rw [Int.tmod_eq_emod_of_nonneg (by omega), show (4 * (d : Int)) % 4 = 0 by omega]; rfl
    clear hor
    have hc0 : 0 ≤ c := by omega
    have hc1 : c < 256 := by omega
    clear hc
    go_wp2_with fail
    go_still_tail 18, (by kernel_rfl)
    change wpList _ _ _ _ _ (World.drew _)
    go_wp2
    go_roundw
    case rel => exact ⟨i + 1, by omega, by go_num, HN.out, only_drewN (zca hg rfl _) 1⟩
    case measure => simp [intOf] <;> omega
   ·have hd8 : (d : Int) < 8 := by omega
    have hd0 : (0 : Int) ≤ (d : Int) := by omega
    have hor' : bits BinOp.or IntKind.u32 (digI (sofar l n i) d) (c * 256 % 4294967296) = digI (sofar l n (i + 1)) d := by rw [← hor, hc, Int.emod_eq_of_lt (by omega) (by omega)]; simp
    have hkI : (n : Int) - 1 - (i : Int) = 4 * (d : Int) + 1 := by have := HK.out; omega
    have hk4 : IntKind.i64.wrap ((4 * (d : Int) + 1).tdiv 4) = (d : Int) := by rw [Int.tdiv_eq_ediv_of_nonneg (by omega), show (4 * (d : Int) + 1) / 4 = (d : Int) by omega]; exact Go.IntWalk.i64_in _ (by omega)
    have hr4 : IntKind.i64.wrap ((4 * (d : Int) + 1).tmod 4) = 1 := by rw [Int.tmod_eq_emod_of_nonneg (by omega), show (4 * (d : Int) + 1) % 4 = 1 by omega]; rfl
    clear hor
    have hc0 : 0 ≤ c := by omega
    have hc1 : c < 256 := by omega
    clear hc
    go_wp2_with fail
    go_still_tail 18, (by kernel_rfl)
    change wpList _ _ _ _ _ (World.drew _)
    go_wp2
    go_roundw
    case rel => exact ⟨i + 1, by omega, by go_num, HN.out, only_drewN (zca hg rfl _) 1⟩
    case measure => simp [intOf] <;> omega
   ·have hd8 : (d : Int) < 8 := by omega
    have hd0 : (0 : Int) ≤ (d : Int) := by omega
    have hor' : bits BinOp.or IntKind.u32 (digI (sofar l n i) d) (c * 65536 % 4294967296) = digI (sofar l n (i + 1)) d := by rw [← hor, hc, Int.emod_eq_of_lt (by omega) (by omega)]; simp
    have hkI : (n : Int) - 1 - (i : Int) = 4 * (d : Int) + 2 := by have := HK.out; omega
    have hk4 : IntKind.i64.wrap ((4 * (d : Int) + 2).tdiv 4) = (d : Int) := by rw [Int.tdiv_eq_ediv_of_nonneg (by omega), show (4 * (d : Int) + 2) / 4 = (d : Int) by omega]; exact Go.IntWalk.i64_in _ (by omega)
    have hr4 : IntKind.i64.wrap ((4 * (d : Int) + 2).tmod 4) = 2 := by rw [Int.tmod_eq_emod_of_nonneg (by omega), show (4 * (d : Int) + 2) % 4 = 2 by omega]; rfl
    clear hor
    have hc0 : 0 ≤ c := by omega
    have hc1 : c < 256 := by omega
    clear hc
    go_wp2_with fail
    go_still_tail 18, (by kernel_rfl)
    change wpList _ _ _ _ _ (World.drew _)
    go_wp2
    go_roundw
    case rel => exact ⟨i + 1, by omega, by go_num, HN.out, only_drewN (zca hg rfl _) 1⟩
    case measure => simp [intOf] <;> omega
   ·have hd8 : (d : Int) < 8 := by omega
    have hd0 : (0 : Int) ≤ (d : Int) := by omega
    have hor' : bits BinOp.or IntKind.u32 (digI (sofar l n i) d) (c * 16777216 % 4294967296) = digI (sofar l n (i + 1)) d := by rw [← hor, hc, Int.emod_eq_of_lt (by omega) (by omega)]; simp
    have hkI : (n : Int) - 1 - (i : Int) = 4 * (d : Int) + 3 := by have := HK.out; omega
    have hk4 : IntKind.i64.wrap ((4 * (d : Int) + 3).tdiv 4) = (d : Int) := by rw [Int.tdiv_eq_ediv_of_nonneg (by omega), show (4 * (d : Int) + 3) / 4 = (d : Int) by omega]; exact Go.IntWalk.i64_in _ (by omega)
    have hr4 : IntKind.i64.wrap ((4 * (d : Int) + 3).tmod 4) = 3 := by rw [Int.tmod_eq_emod_of_nonneg (by omega), show (4 * (d : Int) + 3) % 4 = 3 by omega]; rfl
    clear hor
    have hc0 : 0 ≤ c := by omega
    have hc1 : c < 256 := by omega
    clear hc
    go_wp2_with fail
    go_still_tail 18, (by kernel_rfl)
    change wpList _ _ _ _ _ (World.drew _)
    go_wp2
    go_roundw
    case rel => exact ⟨i + 1, by omega, by go_num, HN.out, only_drewN (zca hg rfl _) 1⟩
    case measure => simp [intOf] <;> omega
  ·obtain rfl : i = n := by omega
   have hB := zf gb hg (by omega) (by omega)
   have m0 : Num wr w.heap.size 27 0 := g0.grown hg (by simp)
   rw [SA.out] at hnm
   go_wp2_with (first | (refine zd rfl _ _ rfl _ rfl _ _ _ hnm Tryz.underlying27 rfl ze ?_) | (refine zj rfl _ _ _ rfl _ rfl _ rfl _ rfl m0 ze ?_; intro w5 hg5 m5))
   exact bodyPost_ret (zxa rfl rfl m5 Tryz.underlying27 rfl ze) rfl ⟨rfl, zf hB hg5 hB.size (by omega)⟩
end Go.Proofs.YtcfepoopkfhojaaGreat
namespace Go.Proofs.YtcfepoopkfhojaaGreat
open Go.ChangeShapes Go.WideShapes Go.ChangeAt Go.RowKit Go.Shelf
theorem cat_le {B : Nat} : ∀ {L : List (List UInt8)}, (∀ l ∈ L, l.length ≤ B) → (cat L).length ≤ L.length * (B + 8)
 | [], _ => Nat.zero_le _
 | l :: L, h => by
  have h1 := h l (List.mem_cons_self ..)
  have h2 := cat_le fun q hq => h q (List.mem_cons_of_mem _ hq)
  rw [List.length_cons, Nat.succ_mul]
  simp only [cat, List.length_append, zqb]
  omega
theorem cat_5 {L : List (List UInt8)} (hL : L.length ≤ 6) (h : ∀ l ∈ L, l.length ≤ 200) : (cat L).length ≤ 5000 := by
 have h1 := cat_le h
 have h2 : L.length * (200 + 8) ≤ 6 * (200 + 8) := Nat.mul_le_mul_right _ hL
 omega
theorem le_2 {L : List (List UInt8)} (h : ∀ l ∈ L, l.length ≤ 200) : ∀ l ∈ L, l.length ≤ 2000 := fun l hl => Nat.le_trans (h l hl) (by decide)
theorem srof_b {w : World} {u : Value} {L : List (List UInt8)} (hu : IsP w L u) (hL : L.length ≤ 6) (h : ∀ l ∈ L, l.length ≤ 200) :
  Calls Tryz.prog 29 #[u] w fun e w' => e = .returned (.agg (zi (outF (macW [] L)))) ∧ Below w.heap.size w w' := by
 obtain ⟨B, d, rfl, k1, k2, k3⟩ := hu
 exact rof_any B L _ d rfl k1 (Nat.le_trans hL (by decide)) (le_2 h) (cat_5 hL h) w k3
theorem srmac_b {w : World} {v u : Value} {key : List UInt8} {L : List (List UInt8)} (hv : IsB w key v) (hk : key.length ≤ 2000) (hu : IsP w L u) (hL : L.length ≤ 6) (h : ∀ l ∈ L, l.length ≤ 200) :
  Calls Tryz.prog 78 #[v, u] w fun e w' => e = .returned (.agg (zi (outF (macW key L)))) ∧ Below w.heap.size w w' := by
 obtain ⟨A, c, rfl, a1, a2, a3, a4⟩ := hv
 obtain ⟨B, d, rfl, k1, k2, k3⟩ := hu
 exact rmac_any A key _ c rfl a3 hk B L _ d rfl k1 (Nat.le_trans hL (by decide)) (le_2 h) (cat_5 hL h) w a4 k3
theorem srstretch_b {w : World} {v u : Value} {pass salt : List UInt8} (hv : IsB w pass v) (hu : IsB w salt u) (l0 : pass.length ≤ 2000) (l1 : salt.length ≤ 2000) :
  Calls Tryz.prog 91 #[v, u, .int .i64 3] w fun e w' => e = .returned (.agg (zi (strA pass salt 2))) ∧ Below w.heap.size w w' := by
 obtain ⟨A, c, rfl, a1, a2, a3, a4⟩ := hv
 obtain ⟨B, d, rfl, b1, b2, b3, b4⟩ := hu
 exact rstretch_any A pass _ c rfl a1 a2 a3 B salt _ d rfl b1 b2 b3 l0 l1 3 (by decide) (by decide) 2 (by decide) w a4 b4
theorem sb_r (y : Nat → Int) (hy : ∀ k, 0 ≤ y k ∧ y k < 256) (w : World) : Calls Tryz.prog 18 #[.agg (zi y)] w fun e w' => ∃ v, e = .returned v ∧ Below w.heap.size w w' ∧ IsB w' (sumY y) v :=
 (srbytes_any y hy w).mono fun e w' ⟨v, h1, h2, h3⟩ => ⟨v, h1, h3, h2.isb⟩
theorem rb_r (a : Nat) (w : World) : Calls Tryz.prog 26 #[numV a] w fun e w' => ∃ v, e = .returned v ∧ Below w.heap.size w w' ∧ IsB w' (zo a) v :=
 (rbytes_any a w).mono fun e w' ⟨A, c, h1, h2, h3, h4, h5⟩ => ⟨_, h1, h5, A, c, by rw [zua], by rw [zua]; exact h2, h3, (fun e => by
  obtain ⟨ad, h, _⟩ := h4 (by rw [zua]; decide)
  rw [e] at h; cases h), h4⟩
theorem srread_b {l : List UInt8} {v : Value} {N : Nat} (w : World) (h : IsB w l v) (hl : l.length ≤ 32) (hN : zra l = N) :
  Calls Tryz.prog 120 #[v] w fun e w' => e = .returned (.tuple #[numV N, .bool true]) ∧ Below w.heap.size w w' := by
 subst hN
 obtain ⟨A, c, rfl, h1, h2, h3, h4⟩ := h
 exact rread_any A l _ c rfl hl w h4
section
variable {Q : Exit → Act → World → Prop} {a : Act} {w : World} {o : Oper} {B : Nat} {ops : Array Oper}
theorem hop_cvS (hw : Region.wanted o (yielded ops a.tmps) = true) (hB : B ≤ w.heap.size) (x : Operand) (ho : o.op = .convert 9 22 x) {s : ByteArray} (hx : a.eval x = .string s) (hs : s.size ≤ 1000000) :
  if Region.wanted o (yielded ops a.tmps) = true then o.wp Tryz.prog a w (fun a' w' => ∃ v, a' = a.put o.dst v ∧ Kc B w w' ∧ (StK.bytes (sBy s)).F w' v) Q else (StK.bytes (sBy s)).F w undef := by
 obtain ⟨v, w', h1, h2⟩ := run_cvS (Mx.start w) 0 x ho hx hs
 exact hop_growK (F := (StK.bytes (sBy s)).F) hw v h1 (Kc.of_below hB h2.below) (h2.at_ 0 _ rfl).1
theorem isb5 {w : World} {l1 l2 l3 l4 l5 : List UInt8} {v1 v2 v3 v4 v5 : Value} (h1 : IsB w l1 v1) (h2 : IsB w l2 v2) (h3 : IsB w l3 v3) (h4 : IsB w l4 v4) (h5 : IsB w l5 v5) : ∀ (j : Nat) (l : List UInt8) (v : Value), [l1, l2, l3, l4, l5][j]? = some l → [v1, v2, v3, v4, v5][j]? = some v → IsB w l v
 | 0, l, v, hl, hv => by cases hl; cases hv; exact h1
 | 1, l, v, hl, hv => by cases hl; cases hv; exact h2
 | 2, l, v, hl, hv => by cases hl; cases hv; exact h3
 | 3, l, v, hl, hv => by cases hl; cases hv; exact h4
 | 4, l, v, hl, hv => by cases hl; cases hv; exact h5
 | j + 5, l, v, hl, hv => by cases hl
theorem hop_parts5 (hw : Region.wanted o (yielded ops a.tmps) = true) (hB : B ≤ w.heap.size) (x1 x2 x3 x4 x5 : Operand) (ho : o.op = .buildSlice 54 5 #[(0, x1), (1, x2), (2, x3), (3, x4), (4, x5)]) {l1 l2 l3 l4 l5 : List UInt8} (h1 : IsB w l1 (a.eval x1)) (h2 : IsB w l2 (a.eval x2)) (h3 : IsB w l3 (a.eval x3)) (h4 : IsB w l4 (a.eval x4)) (h5 : IsB w l5 (a.eval x5)) :
  if Region.wanted o (yielded ops a.tmps) = true then o.wp Tryz.prog a w (fun a' w' => ∃ v, a' = a.put o.dst v ∧ Kc B w w' ∧ (StK.parts [l1, l2, l3, l4, l5]).F w' v) Q else (StK.parts [l1, l2, l3, l4, l5]).F w undef := by
 obtain ⟨A1, c1, e1, _⟩ := id h1
 obtain ⟨A2, c2, e2, _⟩ := id h2
 obtain ⟨A3, c3, e3, _⟩ := id h3
 obtain ⟨A4, c4, e4, _⟩ := id h4
 obtain ⟨A5, c5, e5, _⟩ := id h5
 refine hop_parts (n := 5) hw hB ho (vs := [a.eval x1, a.eval x2, a.eval x3, a.eval x4, a.eval x5]) (L := [l1, l2, l3, l4, l5]) rfl rfl (by decide) (by decide) ?_ (isb5 h1 h2 h3 h4 h5)
 simp only [List.map_toArray, List.map_cons, List.map_nil, e1, e2, e3, e4, e5]
 kernel_rfl
end
end Go.Proofs.YtcfepoopkfhojaaGreat
namespace Go.Proofs.YtcfepoopkfhojaaGreat
open Go.ChangeShapes Go.WideShapes Go.ChangeAt Go.RowKit
theorem rnumber7_any (y : Nat → Int) (hy : ∀ k, 0 ≤ y k ∧ y k < 256) (w : World) :
  Calls Tryz.prog 94 #[.agg (zi y)] w fun e w' => e = .returned (numV (zra (sumY y))) ∧ Below w.heap.size w w' := by
 obtain ⟨N, hN⟩ : ∃ N, zra (sumY y) = N := ⟨_, rfl⟩
 have hsl := zpb y
 rw [hN]
 refine zea (args := [.agg (zi y)]) 12 Tryz.func94 rfl rfl rfl ?_
 intro fa F
 have M := Mx.start w
 refine zSk fun _ hK1 => ?_
 refine zR ?_
 refine zh (zc rfl) rfl F rfl M 0 (t := 35) (c := zi y) (by unfold execOp; simp only [(F.get (t := 0) rfl)]; kernel_rfl) ?_
 intro g2 a2 w2 F2 M2
 clear F M
 refine zh (zc rfl) rfl F2 rfl M2 1 (t := 27) (c := numA 0) (zx rfl) ?_
 intro g3 a3 w3 F3 M3
 clear F2 M2
 refine hK1 _ _ ?_
 refine zSk fun _ hK4 => ?_
 refine zR ?_
 refine zk (w' := w3) (zc rfl) rfl F3 rfl _ (zdb _ _ rfl (F3.get (t := 1) rfl) (M3.blk (k := 0) rfl) (zi y) (zeb rfl) Tryz.underlying35 rfl (by kernel_rfl)) fun _ F5 => ?_
 clear F3
 refine zba (zc rfl) rfl F5 rfl rfl (zE Tryz.func18 rfl) #[.agg (zi y)] (zta (F5.get (t := 6) rfl)) ((srbytes_any y hy w3)) ?_
 rintro v6 w6 a6 h6 F6
 have M6 := M3.newO h6.2 2 h6.1
 clear M3 h6
 obtain ⟨A6, c6, rfl⟩ := (M6.isO (k := 2) rfl).shape
 refine zba (zc rfl) rfl F6 rfl rfl (zE Tryz.func120 rfl) #[.slice A6 ((sumY y)).length c6] (zta (F6.get (t := 7) rfl)) (zga ((srread_b w6 (M6.isO (k := 2) rfl) (by rw [hsl]; decide) hN))) ?_
 rintro _ w7 a7 ⟨rfl, b7⟩ F7
 have M7 := M6.step b7
 refine zB 3 [(2, .pointer (some ⟨g3, 0, none⟩)), (9, numV N), (10, .bool true)] [] dnil [] F7 fun _ F8 => ?_
 clear F7
 refine zh (zc rfl) rfl F8 rfl M7 3 (t := 27) (c := numA 0) (zx rfl) ?_
 intro g9 a9 w9 F9 M9
 clear F8 M7
 refine zw (zc rfl) rfl F9 M9 (k := 3) rfl _ _ _ rfl (F9.get (t := 3) rfl) (F9.get (t := 9) rfl) (numA N) _ rfl (zL rfl) (zaa _) (zp rfl) ze ?_
 intro w10 M10
 clear M9
 refine rm rfl F9 fun _ F11 => ?_
 refine hK4 _ _ ?_
 refine zSk fun _ hK12 => ?_
 refine zR ?_
 refine zk (w' := w10) (zc rfl) rfl F11 rfl (numV N) (zdb _ _ rfl (F11.get (t := 3) rfl) (M10.blk (k := 3) rfl) (numA N) (zeb rfl) Tryz.underlying27 rfl ze) fun _ F13 => ?_
 clear F11
 refine zw (zc rfl) rfl F13 M10 (k := 1) rfl _ _ _ rfl (F13.get (t := 2) rfl) (F13.get (t := 11) rfl) (numA N) _ rfl (zL rfl) (zaa _) (zp rfl) ze ?_
 intro w14 M14
 clear M10
 refine hK12 _ _ ?_
 refine wp_ret ?_
 try simp only [Exit.then, Exit.inBlock, Exit.jump]
 exact bodyPost_ret (results_cell_row rfl _ _ _ _ _ (0, 0) _ (F13.get rfl) (M14.blk (k := 1) rfl) Tryz.underlying27 rfl ze) F13.defers ⟨rfl, M14.below⟩
theorem rexp4_any (k : Int) (P Q g : Nat) (h2 : 2 < Q) (hQ5 : Q < 4294967296) (l : List UInt8) (hl : l.length ≤ 200) (v : Value) (w : World) (hB : IsB w l v) :
  Calls Tryz.prog 59 #[.agg (zg k P Q g), v] w fun e w' => e = .returned (numV (expN Q l)) ∧ Below w.heap.size w w' := by
 have hQ : Q < 4294967296 ^ 8 := Nat.lt_trans hQ5 (by decide)
 obtain ⟨Al, cl, rfl⟩ := id hB.shape
 obtain ⟨S, hS⟩ : ∃ S, macW [] [[101, 120, 112, 111, 110, 101, 110, 116], l] = S := ⟨_, rfl⟩
 have kM := fun (w : World) (u : Value) (h : IsP w [[101, 120, 112, 111, 110, 101, 110, 116], l] u) => srof_b h (by simp) (fun q hq => by
  rcases List.mem_cons.1 hq with rfl | hq
  ·decide
  ·rcases List.mem_cons.1 hq with rfl | hq
   ·exact hl
   ·cases hq)
 rw [hS] at kM
 obtain ⟨N, hN⟩ : ∃ N, zra (sumY (outF S)) = N := ⟨_, rfl⟩
 have kN := fun w => rnumber7_any (outF S) (zrb S) w
 rw [hN] at kN
 have hNl : N < 4294967296 ^ 8 := by rw [← hN]; exact readN_lt_num (by rw [zpb]; decide)
 obtain ⟨M1, hM1⟩ : ∃ M1, Q - 1 = M1 := ⟨_, rfl⟩
 obtain ⟨r, hr⟩ : ∃ r, N % M1 = r := ⟨_, rfl⟩
 have hrl : r < M1 := by rw [← hr]; exact Nat.mod_lt _ (by omega)
 have kL := fun w => rleft_any N M1 hNl (by omega) (by omega) w
 rw [hr] at kL
 have kF := fun w => from_ref ((r + 1 : Nat) : Int) (by omega) (by omega) w
 rw [Int.toNat_natCast] at kF
 rw [show expN Q l = r + 1 by unfold expN; rw [hS, hN, hM1, hr]]
 clear hr hN hS
 have kS := fun w => rsmall_any Q hQ5 w
 refine zea (args := [.agg (zg k P Q g), .slice Al l.length cl]) 20 Tryz.func59 rfl rfl rfl ?_
 intro fa F
 have M := Mx.start w
 replace M := M.argB 0 hB (fun g e => by cases e)
 refine zSk fun _ hK1 => ?_
 refine zR ?_
 refine zh (zc rfl) rfl F rfl M 1 (t := 29) (c := zg k P Q g) (by unfold execOp; simp only [(F.get (t := 0) rfl)]; kernel_rfl) ?_
 intro g2 a2 w2 F2 M2
 clear F M
 refine zh (zc rfl) rfl F2 rfl M2 2 (t := 27) (c := numA 0) (zx rfl) ?_
 intro g3 a3 w3 F3 M3
 clear F2 M2
 refine hK1 _ _ ?_
 refine zSk fun _ hK4 => ?_
 have hD5 := (zr (M3.blk (k := 1) rfl) dnil)
 refine zha F3 (SK [.inr (StK.lit w3.heap.size [101, 120, 112, 111, 110, 101, 110, 116]), .inr (StK.lit w3.heap.size [101, 120, 112, 111, 110, 101, 110, 116]), .inl (.slice Al l.length cl), .inr (StK.parts [[101, 120, 112, 111, 110, 101, 110, 116], l]), .inl (.agg (zi (outF S))), .inl (numV N), .inl (.pointer (some ⟨g2, 9, none⟩)), .inl (numV Q), .inl (.int .i64 (Q : Int)), .inl (.int .i64 (M1 : Int)), .inl (.int .i64 (r : Int)), .inl (.int .i64 (r : Int))]) 12 rfl (by kernel_rfl) ⟨?_, ?_, hop0 F3 (by kernel_rfl), ?_, ?_, hopC F3 [(10, .agg (zi (outF S)))] rfl (zE Tryz.func94 rfl) fun uw hb => kN uw, hop0 F3 (by kernel_rfl), hopP F3 hD5 0 (some g2) (by kernel_rfl), hopC F3 [(13, numV Q)] rfl (zE Tryz.func60 rfl) fun uw hb => kS uw, hopR F3 [(14, .int .i64 (Q : Int))] (v := .int .i64 (M1 : Int)) fun ua uw hb ⟨e14, _⟩ => (y_subI _ _ _ _ rfl e14 rfl (by omega) (by omega)), hopC F3 [(11, numV N), (15, .int .i64 (M1 : Int))] rfl (zE Tryz.func61 rfl) fun uw hb => kL uw, hop0 F3 (by kernel_rfl), trivial⟩ ?_
 ·intro ua uw hb hd
  exact hop_lit (zc rfl) hb.size [101, 120, 112, 111, 110, 101, 110, 116] (by decide) (by decide) _ rfl (by simp only [List.map_toArray, List.map_cons, List.map_nil]; kernel_rfl)
 ·intro ua uw hb hd
  have l6 : LitB w3.heap.size uw [101, 120, 112, 111, 110, 101, 110, 116] (ua.eval (.tmp 6)) := hd 6 (by decide)
  have e6 := l6.isB
  exact zrc (zc rfl) _ rfl l6
 ·intro ua uw hb hd
  have l7 : LitB w3.heap.size uw [101, 120, 112, 111, 110, 101, 110, 116] (ua.eval (.tmp 7)) := hd 7 (by decide)
  have e7 := l7.isB
  have e8 : ua.eval (.tmp 8) = .slice Al l.length cl := hd 8 (by decide)
  exact hop_parts2 (zc rfl) hb.size (.tmp 7) (.tmp 8) rfl e7 (by rw [e8]; exact ((M3.step hb).isb (k := 0) rfl))
 ·intro ua uw hb hd
  have e9 : IsP uw [[101, 120, 112, 111, 110, 101, 110, 116], l] (ua.eval (.tmp 9)) := hd 9 (by decide)
  exact zz (F := (StK.eq (.agg (zi (outF S)))).F) (zc rfl) hb.size rfl #[(ua.eval (.tmp 9))] (zta rfl) (zE Tryz.func29 rfl) (zqa ((kM _ _ e9)))
 intro p6 a6 w6 b6 G6 y6
 obtain ⟨-, -, -, -, -, -, -, -, -, -, -, q11, -⟩ := y6
 have r11 : p6 11 = .int .i64 (r : Int) := q11 (by decide)
 simp only [List.take, layV, Nat.zero_add, Nat.reduceAdd, r11] at G6
 have M6 := M3.kc b6
 clear F3 M3 r11 q11
 refine hK4 _ _ ?_
 refine zSk fun _ hK7 => ?_
 refine zR ?_
 refine rm rfl G6 fun _ F8 => ?_
 refine zk (w' := w6) (zc rfl) rfl F8 rfl (.int .i64 ((r + 1 : Nat) : Int)) (y_addI _ _ _ _ rfl (F8.get (t := 17) rfl) rfl (by omega) (by omega)) fun _ F9 => ?_
 clear F8
 refine zba (zc rfl) rfl F9 rfl rfl (zE Tryz.func63 rfl) #[.int .i64 ((r + 1 : Nat) : Int)] (zta (F9.get (t := 18) rfl)) (zga (kF w6)) ?_
 rintro _ w10 a10 ⟨rfl, b10⟩ F10
 have M10 := M6.step b10
 refine zw (zc rfl) rfl F10 M10 (k := 2) rfl _ _ _ rfl (F10.get (t := 4) rfl) (F10.get (t := 19) rfl) (numA (r + 1)) _ rfl (zL rfl) (zaa _) (zp rfl) ze ?_
 intro w11 M11
 clear M10
 refine hK7 _ _ ?_
 refine wp_ret ?_
 try simp only [Exit.then, Exit.inBlock, Exit.jump]
 exact bodyPost_ret (results_cell_row rfl _ _ _ _ _ (0, 0) _ (F10.get rfl) (M11.blk (k := 2) rfl) Tryz.underlying27 rfl ze) F10.defers ⟨rfl, M11.below⟩
theorem rexp7_any (k : Int) (P Q g : Nat) (h2 : 2 < Q) (hQ5 : Q < 4294967296) (L : List (List UInt8)) (hL : L.length ≤ 6) (hb : ∀ l ∈ L, l.length ≤ 200) (u : Value) (w : World) (hu : IsP w L u) :
  Calls Tryz.prog 25 #[.agg (zg k P Q g), u] w fun e w' => e = .returned (numV (expN Q (sumY (outF (macW [] L))))) ∧ Below w.heap.size w w' := by
 obtain ⟨S, hS⟩ : ∃ S, macW [] L = S := ⟨_, rfl⟩
 have kM := fun (w : World) (h : IsP w L u) => srof_b h hL hb
 rw [hS] at kM
 obtain ⟨N, hN⟩ : ∃ N, expN Q (sumY (outF S)) = N := ⟨_, rfl⟩
 have kE := fun (w : World) (v : Value) (h : IsB w (sumY (outF S)) v) => rexp4_any k P Q g h2 hQ5 (sumY (outF S)) (by rw [zpb]; decide) v w h
 have hbd := zrb S
 rw [hS, hN]
 rw [hN] at kE
 clear hN hS
 refine zea (args := [.agg (zg k P Q g), u]) 10 Tryz.func25 rfl rfl rfl ?_
 intro fa F
 have M := Mx.start w
 refine zSk fun _ hK1 => ?_
 refine zR ?_
 refine zh (zc rfl) rfl F rfl M 0 (t := 29) (c := zg k P Q g) (by unfold execOp; simp only [(F.get (t := 0) rfl)]; kernel_rfl) ?_
 intro g2 a2 w2 F2 M2
 clear F M
 refine zh (zc rfl) rfl F2 rfl M2 1 (t := 27) (c := numA 0) (zx rfl) ?_
 intro g3 a3 w3 F3 M3
 clear F2 M2
 refine hK1 _ _ ?_
 refine zSk fun _ hK4 => ?_
 have hD5 := (zr (M3.blk (k := 0) rfl) dnil)
 refine zha F3 (SK [.inl (.agg (zg k P Q g)), .inl (u), .inl (.agg (zi (outF S))), .inr (StK.bytes (sumY (outF S))), .inl (numV N)]) 5 rfl (by kernel_rfl) ⟨hopP F3 hD5 0 (some g2) (by kernel_rfl), hop0 F3 (by kernel_rfl), hopC F3 [(6, u)] rfl (zE Tryz.func29 rfl) fun uw hb => (kM uw (hu.step (M3.step hb).below)), ?_, ?_, trivial⟩ ?_
 ·intro ua uw hb hd
  have e7 : ua.eval (.tmp 7) = .agg (zi (outF S)) := hd 7 (by decide)
  exact zz (F := (StK.bytes (sumY (outF S))).F) (zc rfl) hb.size rfl #[.agg (zi (outF S))] (zta e7) (zE Tryz.func18 rfl) ((sb_r (outF S) hbd uw))
 ·intro ua uw hb hd
  have e5 : ua.eval (.tmp 5) = .agg (zg k P Q g) := hd 5 (by decide)
  have e8 : IsB uw (sumY (outF S)) (ua.eval (.tmp 8)) := hd 8 (by decide)
  exact zz (F := (StK.eq (numV N)).F) (zc rfl) hb.size rfl #[.agg (zg k P Q g), (ua.eval (.tmp 8))] (z2a e5 rfl) (zE Tryz.func59 rfl) (zqa ((kE uw _ e8)))
 intro p6 a6 w6 b6 G6 y6
 obtain ⟨-, -, -, -, q4, -⟩ := y6
 have r4 : p6 4 = numV N := q4 (by decide)
 simp only [List.take, layV, Nat.zero_add, Nat.reduceAdd, r4] at G6
 have M6 := M3.kc b6
 clear F3 M3 r4 q4
 refine zw (zc rfl) rfl G6 M6 (k := 1) rfl _ _ _ rfl (G6.get (t := 4) rfl) (G6.get (t := 9) rfl) (numA N) _ rfl (zL rfl) (zaa _) (zp rfl) ze ?_
 intro w7 M7
 clear M6
 refine hK4 _ _ ?_
 refine wp_ret ?_
 try simp only [Exit.then, Exit.inBlock, Exit.jump]
 exact bodyPost_ret (results_cell_row rfl _ _ _ _ _ (0, 0) _ (G6.get (t := 4) rfl) (M7.blk (k := 1) rfl) Tryz.underlying27 rfl ze) G6.defers ⟨rfl, M7.below⟩
theorem rk7_any (k : Int) (P Q g : Nat) (h2 : 2 < Q) (hQ5 : Q < 4294967296) (w : World) :
  Calls Tryz.prog 44 #[.agg (zg k P Q g)] w fun e w' => e = .returned (numV (kN Q)) ∧ Below w.heap.size w w' := by
 obtain ⟨N, hN⟩ : ∃ N, kN Q = N := ⟨_, rfl⟩
 have kE := fun (w : World) (u : Value) (h : IsP w [[107]] u) => rexp7_any k P Q g h2 hQ5 [[107]] (by decide) (by simp) u w h
 rw [show expN Q (sumY (outF (macW [] [[107]]))) = N from hN] at kE
 rw [hN]
 clear hN
 refine zea (args := [.agg (zg k P Q g)]) 8 Tryz.func44 rfl rfl rfl ?_
 intro fa F
 have M := Mx.start w
 refine zSk fun _ hK1 => ?_
 refine zR ?_
 refine zh (zc rfl) rfl F rfl M 0 (t := 29) (c := zg k P Q g) (by unfold execOp; simp only [(F.get (t := 0) rfl)]; kernel_rfl) ?_
 intro g2 a2 w2 F2 M2
 clear F M
 refine zh (zc rfl) rfl F2 rfl M2 1 (t := 27) (c := numA 0) (zx rfl) ?_
 intro g3 a3 w3 F3 M3
 clear F2 M2
 refine hK1 _ _ ?_
 refine zSk fun _ hK4 => ?_
 have hD5 := (zr (M3.blk (k := 0) rfl) dnil)
 refine region_fxU F3 (SK [.inl (.agg (zg k P Q g)), .inr (StK.lit w3.heap.size [107]), .inr (StK.lit w3.heap.size [107]), .inr (StK.parts [[107]]), .inl (numV N)]) 5 (by kernel_rfl) rfl ⟨hopP F3 hD5 0 (some g2) (by kernel_rfl), ?_, ?_, ?_, ?_, trivial⟩ ?_
 ·intro ua uw hb hd
  exact hop_lit (zc rfl) hb.size [107] (by decide) (by decide) _ rfl (by simp only [List.map_toArray, List.map_cons, List.map_nil]; kernel_rfl)
 ·intro ua uw hb hd
  have l4 : LitB w3.heap.size uw [107] (ua.eval (.tmp 4)) := hd 4 (by decide)
  have e4 := l4.isB
  exact zrc (zc rfl) _ rfl l4
 ·intro ua uw hb hd
  have l5 : LitB w3.heap.size uw [107] (ua.eval (.tmp 5)) := hd 5 (by decide)
  have e5 := l5.isB
  exact hop_parts1 (zc rfl) hb.size (.tmp 5) rfl e5
 ·intro ua uw hb hd
  have e3 : ua.eval (.tmp 3) = .agg (zg k P Q g) := hd 3 (by decide)
  have e6 : IsP uw [[107]] (ua.eval (.tmp 6)) := hd 6 (by decide)
  exact zz (F := (StK.eq (numV N)).F) (zc rfl) hb.size rfl #[.agg (zg k P Q g), (ua.eval (.tmp 6))] (z2a e3 rfl) (zE Tryz.func25 rfl) (zqa ((kE _ _ e6)))
 intro p6 a6 w6 b6 G6 y6
 obtain ⟨-, -, -, -, q4, -⟩ := y6
 have r4 : p6 4 = numV N := q4 (by decide)
 simp only [List.take, layV, Nat.zero_add, Nat.reduceAdd, r4] at G6
 have M6 := M3.kc b6
 clear F3 M3 r4 q4
 refine zw (zc rfl) rfl G6 M6 (k := 1) rfl _ _ _ rfl (G6.get (t := 2) rfl) (G6.get (t := 7) rfl) (numA N) _ rfl (zL rfl) (zaa _) (zp rfl) ze ?_
 intro w7 M7
 clear M6
 refine hK4 _ _ ?_
 refine wp_ret ?_
 try simp only [Exit.then, Exit.inBlock, Exit.jump]
 exact bodyPost_ret (results_cell_row rfl _ _ _ _ _ (0, 0) _ (G6.get (t := 2) rfl) (M7.blk (k := 1) rfl) Tryz.underlying27 rfl ze) G6.defers ⟨rfl, M7.below⟩
theorem ru7_any (k : Int) (P Q g : Nat) (h2 : 2 < Q) (hQ5 : Q < 4294967296) (a b : Nat) (w : World) :
  Calls Tryz.prog 45 #[.agg (zg k P Q g), numV a, numV b] w fun e w' => e = .returned (numV (uN Q a b)) ∧ Below w.heap.size w w' := by
 obtain ⟨N, hN⟩ : ∃ N, uN Q a b = N := ⟨_, rfl⟩
 have kE := fun (w : World) (u : Value) (h : IsP w [[117], zo a, zo b] u) => rexp7_any k P Q g h2 hQ5 [[117], zo a, zo b] (show 3 ≤ 6 by decide) (by simp [zua]) u w h
 rw [show expN Q (sumY (outF (macW [] [[117], zo a, zo b]))) = N from hN] at kE
 rw [hN]
 clear hN
 refine zea (args := [.agg (zg k P Q g), numV a, numV b]) 16 Tryz.func45 rfl rfl rfl ?_
 intro fa F
 have M := Mx.start w
 refine zSk fun _ hK1 => ?_
 refine zR ?_
 refine zh (zc rfl) rfl F rfl M 0 (t := 29) (c := zg k P Q g) (by unfold execOp; simp only [(F.get (t := 0) rfl)]; kernel_rfl) ?_
 intro g2 a2 w2 F2 M2
 clear F M
 refine zh (zc rfl) rfl F2 rfl M2 1 (t := 27) (c := numA a) (by unfold execOp; simp only [(F2.get (t := 1) rfl)]; kernel_rfl) ?_
 intro g3 a3 w3 F3 M3
 clear F2 M2
 refine zh (zc rfl) rfl F3 rfl M3 2 (t := 27) (c := numA b) (by unfold execOp; simp only [(F3.get (t := 2) rfl)]; kernel_rfl) ?_
 intro g4 a4 w4 F4 M4
 clear F3 M3
 refine zh (zc rfl) rfl F4 rfl M4 3 (t := 27) (c := numA 0) (zx rfl) ?_
 intro g5 a5 w5 F5 M5
 clear F4 M4
 refine hK1 _ _ ?_
 refine zSk fun _ hK6 => ?_
 have hD7 := (zr (M5.blk (k := 0) rfl) (zr (M5.blk (k := 1) rfl) (zr (M5.blk (k := 2) rfl) dnil)))
 refine zha F5 (SK [.inl (.agg (zg k P Q g)), .inr (StK.lit w5.heap.size [117]), .inr (StK.lit w5.heap.size [117]), .inl (numV a), .inr (StK.bytes (zo a)), .inl (numV b), .inr (StK.bytes (zo b)), .inr (StK.parts [[117], (zo a), (zo b)]), .inl (numV N)]) 9 rfl (by kernel_rfl) ⟨hopP F5 hD7 0 (some g2) (by kernel_rfl), ?_, ?_, hopP F5 hD7 1 (some g3) (by kernel_rfl), ?_, hopP F5 hD7 2 (some g4) (by kernel_rfl), ?_, ?_, ?_, trivial⟩ ?_
 ·intro ua uw hb hd
  exact hop_lit (zc rfl) hb.size [117] (by decide) (by decide) _ rfl (by simp only [List.map_toArray, List.map_cons, List.map_nil]; kernel_rfl)
 ·intro ua uw hb hd
  have l8 : LitB w5.heap.size uw [117] (ua.eval (.tmp 8)) := hd 8 (by decide)
  have e8 := l8.isB
  exact zrc (zc rfl) _ rfl l8
 ·intro ua uw hb hd
  have e10 : ua.eval (.tmp 10) = numV a := hd 10 (by decide)
  exact zz (F := (StK.bytes (zo a)).F) (zc rfl) hb.size rfl #[numV a] (zta e10) (zE Tryz.func26 rfl) ((rb_r a uw))
 ·intro ua uw hb hd
  have e12 : ua.eval (.tmp 12) = numV b := hd 12 (by decide)
  exact zz (F := (StK.bytes (zo b)).F) (zc rfl) hb.size rfl #[numV b] (zta e12) (zE Tryz.func26 rfl) ((rb_r b uw))
 ·intro ua uw hb hd
  have l9 : LitB w5.heap.size uw [117] (ua.eval (.tmp 9)) := hd 9 (by decide)
  have e9 := l9.isB
  have e11 : IsB uw (zo a) (ua.eval (.tmp 11)) := hd 11 (by decide)
  have e13 : IsB uw (zo b) (ua.eval (.tmp 13)) := hd 13 (by decide)
  exact hop_parts3 (zc rfl) hb.size (.tmp 9) (.tmp 11) (.tmp 13) rfl e9 e11 e13
 ·intro ua uw hb hd
  have e7 : ua.eval (.tmp 7) = .agg (zg k P Q g) := hd 7 (by decide)
  have e14 : IsP uw [[117], (zo a), (zo b)] (ua.eval (.tmp 14)) := hd 14 (by decide)
  exact zz (F := (StK.eq (numV N)).F) (zc rfl) hb.size rfl #[.agg (zg k P Q g), (ua.eval (.tmp 14))] (z2a e7 rfl) (zE Tryz.func25 rfl) (zqa ((kE _ _ e14)))
 intro p8 a8 w8 b8 G8 y8
 obtain ⟨-, -, -, -, -, -, -, -, q8, -⟩ := y8
 have r8 : p8 8 = numV N := q8 (by decide)
 simp only [List.take, layV, Nat.zero_add, Nat.reduceAdd, r8] at G8
 have M8 := M5.kc b8
 clear F5 M5 r8 q8
 refine zw (zc rfl) rfl G8 M8 (k := 3) rfl _ _ _ rfl (G8.get (t := 6) rfl) (G8.get (t := 15) rfl) (numA N) _ rfl (zL rfl) (zaa _) (zp rfl) ze ?_
 intro w9 M9
 clear M8
 refine hK6 _ _ ?_
 refine wp_ret ?_
 try simp only [Exit.then, Exit.inBlock, Exit.jump]
 exact bodyPost_ret (results_cell_row rfl _ _ _ _ _ (0, 0) _ (G8.get (t := 6) rfl) (M9.blk (k := 3) rfl) Tryz.underlying27 rfl ze) G8.defers ⟨rfl, M9.below⟩
theorem rsum7_any (a b m : Nat) (ha : a < 4294967296) (hb : b < 4294967296) (h0 : 0 < m) (hm : m < 4294967296 ^ 8) (w : World) :
  Calls Tryz.prog 43 #[numV a, numV b, numV m] w fun e w' => e = .returned (numV ((a + b) % m)) ∧ Below w.heap.size w w' := by
 have ha8 : a < 4294967296 ^ 8 := Nat.lt_trans ha (by decide)
 have hb8 : b < 4294967296 ^ 8 := Nat.lt_trans hb (by decide)
 have hab : a + b < 4294967296 ^ 8 := Nat.lt_trans (show a + b < 4294967296 * 2 by omega) (by decide)
 have kA := fun w => radd_any a b ha8 hb8 w
 rw [show addN a b = a + b by unfold addN; exact if_pos hab, show overI a b = 0 by unfold overI; exact if_pos hab] at kA
 have kO := fun w => from_ref 0 (by decide) (by decide) w
 have kR := fun w => rrest_pos (a + b) 0 m hab (by decide) hm h0 w
 rw [Nat.zero_mul, Nat.add_zero] at kR
 refine zea (args := [numV a, numV b, numV m]) 27 Tryz.func43 rfl rfl rfl ?_
 intro fa F
 have M := Mx.start w
 refine zSk fun _ hK1 => ?_
 refine zR ?_
 refine zh (zc rfl) rfl F rfl M 0 (t := 27) (c := numA a) (by unfold execOp; simp only [(F.get (t := 0) rfl)]; kernel_rfl) ?_
 intro g2 a2 w2 F2 M2
 clear F M
 refine zh (zc rfl) rfl F2 rfl M2 1 (t := 27) (c := numA b) (by unfold execOp; simp only [(F2.get (t := 1) rfl)]; kernel_rfl) ?_
 intro g3 a3 w3 F3 M3
 clear F2 M2
 refine zh (zc rfl) rfl F3 rfl M3 2 (t := 27) (c := numA m) (by unfold execOp; simp only [(F3.get (t := 2) rfl)]; kernel_rfl) ?_
 intro g4 a4 w4 F4 M4
 clear F3 M3
 refine zh (zc rfl) rfl F4 rfl M4 3 (t := 27) (c := numA 0) (zx rfl) ?_
 intro g5 a5 w5 F5 M5
 clear F4 M4
 refine hK1 _ _ ?_
 refine zSk fun _ hK6 => ?_
 refine zR ?_
 refine zAx 2 [(12, numV a), (13, numV b)] [0, 1] (zr (M5.blk (k := 0) rfl) (zr (M5.blk (k := 1) rfl) dnil)) [g2, g3] F5 fun _ F7 => ?_
 clear F5
 refine zba (zc rfl) rfl F7 rfl rfl (zE Tryz.func77 rfl) #[numV a, numV b] (z2a (F7.get (t := 12) rfl) (F7.get (t := 13) rfl)) (zga (kA w5)) ?_
 rintro _ w8 a8 ⟨rfl, b8⟩ F8
 have M8 := M5.step b8
 refine zB 3 [(5, .pointer (some ⟨g4, 0, none⟩)), (6, .pointer (some ⟨g5, 0, none⟩)), (15, numV (a + b)), (16, .int .u32 0)] [] dnil [] F8 fun _ F9 => ?_
 clear F8
 refine zh (zc rfl) rfl F9 rfl M8 4 (t := 27) (c := numA 0) (zx rfl) ?_
 intro g10 a10 w10 F10 M10
 clear F9 M8
 refine zw (zc rfl) rfl F10 M10 (k := 4) rfl _ _ _ rfl (F10.get (t := 7) rfl) (F10.get (t := 15) rfl) (numA (a + b)) _ rfl (zL rfl) (zaa _) (zp rfl) ze ?_
 intro w11 M11
 clear M10
 refine rm rfl F10 fun _ F12 => ?_
 refine hK6 _ _ ?_
 refine zSk fun _ hK13 => ?_
 have hD14 := (zr (M11.blk (k := 4) rfl) (zr (M11.blk (k := 2) rfl) dnil))
 refine region_fxL F12 (SK [.inl (numV (a + b)), .inl (.int .u32 0), .inl (.int .i64 0), .inl (numV 0), .inl (numV m), .inl (.tuple #[numV ((a + b) % m), .bool true]), .inl (.tuple #[numV ((a + b) % m), .bool true]), .inl (numV ((a + b) % m)), .inl (.bool true), .inr (StK.new w11.heap.size (numA 0) 27 (by decide))]) 10 8 17 1 6 #[numV ((a + b) % m), .bool true] (.bool true) rfl (by kernel_rfl) rfl (by kernel_rfl) (fun _ _ h => h) rfl (fun _ _ => Iff.rfl) rfl ⟨hopP F12 hD14 0 (some g10) (by kernel_rfl), hop0 F12 (by kernel_rfl), hopR F12 [(19, .int .u32 0)] (v := .int .i64 0) fun ua uw hb ⟨e19, _⟩ => (y_cvI _ _ _ rfl e19 Tryz.underlying25 Tryz.underlying3 rfl), hopC F12 [(20, .int .i64 0)] rfl (zE Tryz.func63 rfl) fun uw hb => kO uw, hopP F12 hD14 1 (some g4) (by kernel_rfl), hopC F12 [(18, numV (a + b)), (21, numV 0), (22, numV m)] rfl (zE Tryz.func58 rfl) fun uw hb => kR uw, hop0 F12 (by kernel_rfl), hop0 F12 (by kernel_rfl), hop0 F12 (by kernel_rfl), ?_, trivial⟩ ?_
 ·intro ua uw hb hd
  exact hop_new (zc rfl) hb.size hb.size (by decide) (zx rfl)
 intro p15 a15 w15 b15 G15 y15
 obtain ⟨-, -, -, -, -, -, -, q7, q8, q9, -⟩ := y15
 obtain ⟨gn9x14, r9, hg9, hc9⟩ := q9 (by decide)
 replace r9 : p15 9 = .pointer (some ⟨gn9x14, 0, none⟩) := r9
 have r7 : p15 7 = numV ((a + b) % m) := q7 (by decide)
 have r8 : p15 8 = .bool true := q8 (by decide)
 simp only [List.take, layV, Nat.zero_add, Nat.reduceAdd, r7, r8, r9] at G15
 have M15 := M11.newb b15.below 5 hg9 hc9
 clear hg9 hc9 r9
 clear F12 M11 r7 q7 r8 q8
 refine st_ex M15 (k := 5) rfl _ _ _ rfl (G15.get (t := 9) rfl) (G15.get (t := 24) rfl) (numA ((a + b) % m)) _ rfl (zL rfl) (zaa _) (zp rfl) ze ?_
 intro w16 M16
 clear M15
 refine rm rfl G15 fun _ F17 => ?_
 refine hK13 _ _ ?_
 refine zSk fun _ hK18 => ?_
 refine zR ?_
 refine zk (w' := w16) (zc rfl) rfl F17 rfl (numV ((a + b) % m)) (zdb _ _ rfl (F17.get (t := 9) rfl) (M16.blk (k := 5) rfl) (numA ((a + b) % m)) (zeb rfl) Tryz.underlying27 rfl ze) fun _ F19 => ?_
 clear F17
 refine zw (zc rfl) rfl F19 M16 (k := 3) rfl _ _ _ rfl (F19.get (t := 6) rfl) (F19.get (t := 26) rfl) (numA ((a + b) % m)) _ rfl (zL rfl) (zaa _) (zp rfl) ze ?_
 intro w20 M20
 clear M16
 refine hK18 _ _ ?_
 refine wp_ret ?_
 try simp only [Exit.then, Exit.inBlock, Exit.jump]
 exact bodyPost_ret (results_cell_row rfl _ _ _ _ _ (0, 0) _ (F19.get rfl) (M20.blk (k := 3) rfl) Tryz.underlying27 rfl ze) F19.defers ⟨rfl, M20.below⟩
theorem rx7_any (k : Int) (P Q g : Nat) (h2 : 2 < Q) (hQ5 : Q < 4294967296) (t : ByteArray) (ht : t.size ≤ 200) (lp ls : List UInt8) (hlp : lp.length ≤ 200) (hls : ls.length ≤ 200) (vp vs : Value) (w : World) (hp : IsB w lp vp) (hs : IsB w ls vs) :
  Calls Tryz.prog 54 #[.agg (zg k P Q g), .string t, vp, vs] w fun e w' => e = .returned (numV (secN Q (sBy t) lp ls)) ∧ Below w.heap.size w w' := by
 obtain ⟨S, hS⟩ : ∃ S, macW [] [[120], sBy t, lp] = S := ⟨_, rfl⟩
 have kM := fun (w : World) (u : Value) (h : IsP w [[120], sBy t, lp] u) => srof_b h (show 3 ≤ 6 by decide) (by simp only [List.mem_cons, List.not_mem_nil, or_false, forall_eq_or_imp, forall_eq]; exact ⟨(by decide), by rw [sBy_len]; exact ht, hlp⟩)
 rw [hS] at kM
 obtain ⟨Y, hY⟩ : ∃ Y, strA (sumY (outF S)) ls 2 = Y := ⟨_, rfl⟩
 have hyb : ∀ k, 0 ≤ Y k ∧ Y k < 256 := by rw [← hY]; exact strA_bd _ _ 2
 have kS := fun (w : World) (v u : Value) (h : IsB w (sumY (outF S)) v) (h2 : IsB w ls u) => srstretch_b h h2 (by rw [zpb]; decide) (Nat.le_trans hls (by decide))
 rw [hY] at kS
 obtain ⟨N, hN⟩ : ∃ N, expN Q (sumY Y) = N := ⟨_, rfl⟩
 rw [show secN Q (sBy t) lp ls = N by unfold secN; rw [hS, hY, hN]]
 have hbd := zrb S
 have kE := fun (w : World) (v : Value) (h : IsB w (sumY Y) v) => rexp4_any k P Q g h2 hQ5 (sumY Y) (by rw [zpb]; decide) v w h
 rw [hN] at kE
 clear hN hS hY
 obtain ⟨Ap, cp, rfl⟩ := id hp.shape
 obtain ⟨As, cs, rfl⟩ := id hs.shape
 refine zea (args := [.agg (zg k P Q g), .string t, .slice Ap lp.length cp, .slice As ls.length cs]) 24 Tryz.func54 rfl rfl rfl ?_
 intro fa F
 have M := Mx.start w
 replace M := M.argB 0 hp (fun g e => by cases e)
 replace M := M.argB 1 hs (fun g e => by cases e)
 refine zSk fun _ hK1 => ?_
 refine zR ?_
 refine zh (zc rfl) rfl F rfl M 2 (t := 29) (c := zg k P Q g) (by unfold execOp; simp only [(F.get (t := 0) rfl)]; kernel_rfl) ?_
 intro g2 a2 w2 F2 M2
 clear F M
 refine zh (zc rfl) rfl F2 rfl M2 3 (t := 27) (c := numA 0) (zx rfl) ?_
 intro g3 a3 w3 F3 M3
 clear F2 M2
 refine hK1 _ _ ?_
 refine zSk fun _ hK4 => ?_
 refine region_fxU F3 (SK [.inr (StK.lit w3.heap.size [120]), .inr (StK.lit w3.heap.size [120]), .inl (.string t), .inr (StK.bytes (sBy t)), .inl (.slice Ap lp.length cp), .inr (StK.parts [[120], (sBy t), lp]), .inl (.agg (zi (outF S)))]) 7 (by kernel_rfl) rfl ⟨?_, ?_, hop0 F3 (by kernel_rfl), ?_, hop0 F3 (by kernel_rfl), ?_, ?_, trivial⟩ ?_
 ·intro ua uw hb hd
  exact hop_lit (zc rfl) hb.size [120] (by decide) (by decide) _ rfl (by simp only [List.map_toArray, List.map_cons, List.map_nil]; kernel_rfl)
 ·intro ua uw hb hd
  have l10 : LitB w3.heap.size uw [120] (ua.eval (.tmp 10)) := hd 10 (by decide)
  have e10 := l10.isB
  exact zrc (zc rfl) _ rfl l10
 ·intro ua uw hb hd
  have e12 : ua.eval (.tmp 12) = .string t := hd 12 (by decide)
  exact hop_cvS (zc rfl) hb.size _ rfl e12 (by omega)
 ·intro ua uw hb hd
  have l11 : LitB w3.heap.size uw [120] (ua.eval (.tmp 11)) := hd 11 (by decide)
  have e11 := l11.isB
  have e13 : IsB uw (sBy t) (ua.eval (.tmp 13)) := hd 13 (by decide)
  have e14 : ua.eval (.tmp 14) = .slice Ap lp.length cp := hd 14 (by decide)
  exact hop_parts3 (zc rfl) hb.size (.tmp 11) (.tmp 13) (.tmp 14) rfl e11 e13 (by rw [e14]; exact ((M3.step hb).isb (k := 0) rfl))
 ·intro ua uw hb hd
  have e15 : IsP uw [[120], (sBy t), lp] (ua.eval (.tmp 15)) := hd 15 (by decide)
  exact zz (F := (StK.eq (.agg (zi (outF S)))).F) (zc rfl) hb.size rfl #[(ua.eval (.tmp 15))] (zta rfl) (zE Tryz.func29 rfl) (zqa ((kM _ _ e15)))
 intro p6 a6 w6 b6 G6 y6
 obtain ⟨-, -, -, -, -, -, q6, -⟩ := y6
 have r6 : p6 6 = .agg (zi (outF S)) := q6 (by decide)
 simp only [List.take, layV, Nat.zero_add, Nat.reduceAdd, r6] at G6
 have M6 := M3.kc b6
 clear F3 M3 r6 q6
 refine zh (zc rfl) rfl G6 rfl M6 4 (t := 35) (c := zi (fun _ => 0)) (by unfold execOp; kernel_rfl) ?_
 intro g7 a7 w7 F7 M7
 clear G6 M6
 refine zw (zc rfl) rfl F7 M7 (k := 4) rfl _ _ _ rfl (F7.get (t := 9) rfl) (F7.get (t := 16) rfl) (zi (outF S)) _ rfl (zL rfl) (zfa _) (zp rfl) (by kernel_rfl) ?_
 intro w8 M8
 clear M7
 refine hK4 _ _ ?_
 refine zSk fun _ hK9 => ?_
 have hD10 := (zr (M8.blk (k := 2) rfl) (zr (M8.blk (k := 4) rfl) dnil))
 refine zha F7 (SK [.inl (.agg (zg k P Q g)), .inl (.agg (zi (outF S))), .inr (StK.bytes (sumY (outF S))), .inl (.slice As ls.length cs), .inl (.agg (zi Y)), .inr (StK.bytes (sumY Y)), .inl (numV N)]) 7 rfl (by kernel_rfl) ⟨hopP F7 hD10 0 (some g2) (by kernel_rfl), hopP F7 hD10 1 (some g7) (by kernel_rfl), ?_, hop0 F7 (by kernel_rfl), ?_, ?_, ?_, trivial⟩ ?_
 ·intro ua uw hb hd
  have e18 : ua.eval (.tmp 18) = .agg (zi (outF S)) := hd 18 (by decide)
  exact zz (F := (StK.bytes (sumY (outF S))).F) (zc rfl) hb.size rfl #[.agg (zi (outF S))] (zta e18) (zE Tryz.func18 rfl) ((sb_r (outF S) hbd uw))
 ·intro ua uw hb hd
  have e19 : IsB uw (sumY (outF S)) (ua.eval (.tmp 19)) := hd 19 (by decide)
  have e20 : ua.eval (.tmp 20) = .slice As ls.length cs := hd 20 (by decide)
  exact zz (F := (StK.eq (.agg (zi Y))).F) (zc rfl) hb.size rfl #[(ua.eval (.tmp 19)), .slice As ls.length cs, .int .i64 3] (args3 rfl e20 rfl) (zE Tryz.func91 rfl) (zqa ((kS _ _ _ e19 ((M8.step hb).isb (k := 1) rfl))))
 ·intro ua uw hb hd
  have e21 : ua.eval (.tmp 21) = .agg (zi Y) := hd 21 (by decide)
  exact zz (F := (StK.bytes (sumY Y)).F) (zc rfl) hb.size rfl #[.agg (zi Y)] (zta e21) (zE Tryz.func18 rfl) ((sb_r Y hyb uw))
 ·intro ua uw hb hd
  have e17 : ua.eval (.tmp 17) = .agg (zg k P Q g) := hd 17 (by decide)
  have e22 : IsB uw (sumY Y) (ua.eval (.tmp 22)) := hd 22 (by decide)
  exact zz (F := (StK.eq (numV N)).F) (zc rfl) hb.size rfl #[.agg (zg k P Q g), (ua.eval (.tmp 22))] (z2a e17 rfl) (zE Tryz.func59 rfl) (zqa ((kE uw _ e22)))
 intro p11 a11 w11 b11 G11 y11
 obtain ⟨-, -, -, -, -, -, q6, -⟩ := y11
 have r6 : p11 6 = numV N := q6 (by decide)
 simp only [List.take, layV, Nat.zero_add, Nat.reduceAdd, r6] at G11
 have M11 := M8.kc b11
 clear F7 M8 r6 q6
 refine zw (zc rfl) rfl G11 M11 (k := 3) rfl _ _ _ rfl (G11.get (t := 8) rfl) (G11.get (t := 23) rfl) (numA N) _ rfl (zL rfl) (zaa _) (zp rfl) ze ?_
 intro w12 M12
 clear M11
 refine hK9 _ _ ?_
 refine wp_ret ?_
 try simp only [Exit.then, Exit.inBlock, Exit.jump]
 exact bodyPost_ret (results_cell_row rfl _ _ _ _ _ (0, 0) _ (G11.get (t := 8) rfl) (M12.blk (k := 3) rfl) Tryz.underlying27 rfl ze) G11.defers ⟨rfl, M12.below⟩
theorem rver7_any (k : Int) (P Q g : Nat) (h1 : 1 < P) (hP : P < 2147483648) (h2 : 2 < Q) (hQ5 : Q < 4294967296) (hg : g < 4294967296 ^ 8) (t : ByteArray) (ht : t.size ≤ 200) (lp ls : List UInt8) (hlp : lp.length ≤ 200) (hls : ls.length ≤ 200) (vp vs : Value) (w : World) (hp : IsB w lp vp) (hs : IsB w ls vs) :
  Calls Tryz.prog 20 #[.agg (zg k P Q g), .string t, vp, vs] w fun e w' => e = .returned (numV (g ^ secN Q (sBy t) lp ls % P)) ∧ Below w.heap.size w w' := by
 obtain ⟨X, hX⟩ : ∃ X, secN Q (sBy t) lp ls = X := ⟨_, rfl⟩
 have hXl : X < 4294967296 ^ 8 := by rw [← hX]; exact Nat.lt_trans (zkc h2 _).2 (Nat.lt_trans hQ5 (by decide))
 have kX := fun (w : World) (vp vs : Value) (hp : IsB w lp vp) (hs : IsB w ls vs) => rx7_any k P Q g h2 hQ5 t ht lp ls hlp hls vp vs w hp hs
 rw [hX] at kX ⊢
 have kR := fun w => rraise_any k P Q g h1 hP g X hg hXl w
 obtain ⟨N, hN⟩ : ∃ N, g ^ X % P = N := ⟨_, rfl⟩
 rw [hN] at kR ⊢
 clear hN hX
 obtain ⟨Ap, cp, rfl⟩ := id hp.shape
 obtain ⟨As, cs, rfl⟩ := id hs.shape
 refine zea (args := [.agg (zg k P Q g), .string t, .slice Ap lp.length cp, .slice As ls.length cs]) 18 Tryz.func20 rfl rfl rfl ?_
 intro fa F
 have M := Mx.start w
 replace M := M.argB 0 hp (fun g e => by cases e)
 replace M := M.argB 1 hs (fun g e => by cases e)
 refine zSk fun _ hK1 => ?_
 refine zR ?_
 refine zh (zc rfl) rfl F rfl M 2 (t := 29) (c := zg k P Q g) (by unfold execOp; simp only [(F.get (t := 0) rfl)]; kernel_rfl) ?_
 intro g2 a2 w2 F2 M2
 clear F M
 refine zh (zc rfl) rfl F2 rfl M2 3 (t := 27) (c := numA 0) (zx rfl) ?_
 intro g3 a3 w3 F3 M3
 clear F2 M2
 refine hK1 _ _ ?_
 refine zSk fun _ hK4 => ?_
 have hD5 := (zr (M3.blk (k := 2) rfl) dnil)
 refine zha F3 (SK [.inl (.agg (zg k P Q g)), .inl (.pointer (some ⟨g2, 17, none⟩)), .inl (numV g), .inl (.agg (zg k P Q g)), .inl (.string t), .inl (.slice Ap lp.length cp), .inl (.slice As ls.length cs), .inl (numV X), .inl (numV N)]) 9 rfl (by kernel_rfl) ⟨hopP F3 hD5 0 (some g2) (by kernel_rfl), hop0 F3 (by kernel_rfl), hopP F3 hD5 0 (some g2) (by kernel_rfl), hopP F3 hD5 0 (some g2) (by kernel_rfl), hop0 F3 (by kernel_rfl), hop0 F3 (by kernel_rfl), hop0 F3 (by kernel_rfl), hopC F3 [(12, .agg (zg k P Q g)), (13, .string t), (14, .slice Ap lp.length cp), (15, .slice As ls.length cs)] rfl (zE Tryz.func54 rfl) fun uw hb => (kX uw _ _ ((M3.step hb).isb (k := 0) rfl) ((M3.step hb).isb (k := 1) rfl)), hopC F3 [(9, .agg (zg k P Q g)), (11, numV g), (16, numV X)] rfl (zE Tryz.func27 rfl) fun uw hb => kR uw, trivial⟩ ?_
 intro p6 a6 w6 b6 G6 y6
 obtain ⟨-, -, -, -, -, -, -, -, q8, -⟩ := y6
 have r8 : p6 8 = numV N := q8 (by decide)
 simp only [List.take, layV, Nat.zero_add, Nat.reduceAdd, r8] at G6
 have M6 := M3.kc b6
 clear F3 M3 r8 q8
 refine zw (zc rfl) rfl G6 M6 (k := 3) rfl _ _ _ rfl (G6.get (t := 8) rfl) (G6.get (t := 17) rfl) (numA N) _ rfl (zL rfl) (zaa _) (zp rfl) ze ?_
 intro w7 M7
 clear M6
 refine hK4 _ _ ?_
 refine wp_ret ?_
 try simp only [Exit.then, Exit.inBlock, Exit.jump]
 exact bodyPost_ret (results_cell_row rfl _ _ _ _ _ (0, 0) _ (G6.get (t := 8) rfl) (M7.blk (k := 3) rfl) Tryz.underlying27 rfl ze) G6.defers ⟨rfl, M7.below⟩
theorem rkeyed7_any (x : SideN) (y : SideV) (n : Nat) (hs : x.s.size ≤ 200) (hls : x.ls.length ≤ 200) (w : World) (hx : SideIs w x y) :
  Calls Tryz.prog 46 #[.agg (zl x y), numV n] w fun e w' => e = .returned (.agg (zl (zpa x n) y)) ∧ Below w.heap.size w w' := by
 obtain ⟨S, hS⟩ : ∃ S, macW [] [[107, 101, 121], zo n] = S := ⟨_, rfl⟩
 have kO := fun (w : World) (u : Value) (h : IsP w [[107, 101, 121], zo n] u) => srof_b h (show 2 ≤ 6 by decide) (by simp [zua])
 rw [hS] at kO
 obtain ⟨U, hU⟩ : ∃ U, macW (sumY (outF S)) [[49], sBy x.s, x.ls, zo x.A, zo x.B] = U := ⟨_, rfl⟩
 have kM := fun (w : World) (v u : Value) (h : IsB w (sumY (outF S)) v) (h2 : IsP w [[49], sBy x.s, x.ls, zo x.A, zo x.B] u) => srmac_b h (by rw [zpb]; decide) h2 (show 5 ≤ 6 by decide) (by simp only [List.mem_cons, List.not_mem_nil, or_false, forall_eq_or_imp, forall_eq, zua]; exact ⟨by decide, by rw [sBy_len]; exact hs, hls, by decide, by decide⟩)
 rw [hU] at kM
 have hbd := zrb S
 rw [show zpa x n = { x with Ky := outF S, Pr := outF U } by unfold zpa; rw [hS, show shL x 2 = [[49], sBy x.s, x.ls, zo x.A, zo x.B] from rfl, hU]]
 clear hS hU
 obtain ⟨vp, vs⟩ := y
 obtain ⟨Ap, cp, rfl⟩ := id hx.hp.shape
 obtain ⟨As, cs, rfl⟩ := id hx.hs.shape
 refine zea (args := [.agg (zl x ⟨.slice Ap x.lp.length cp, .slice As x.ls.length cs⟩), numV n]) 32 Tryz.func46 rfl rfl rfl ?_
 intro fa F
 have M := Mx.start w
 replace M := M.argB 0 hx.hp (fun g e => by cases e)
 replace M := M.argB 1 hx.hs (fun g e => by cases e)
 refine zSk fun _ hK1 => ?_
 refine zR ?_
 refine zh (zc rfl) rfl F rfl M 2 (t := 42) (c := zl x ⟨.slice Ap x.lp.length cp, .slice As x.ls.length cs⟩) (by unfold execOp; simp only [(F.get (t := 0) rfl)]; kernel_rfl) ?_
 intro g2 a2 w2 F2 M2
 clear F M
 refine zh (zc rfl) rfl F2 rfl M2 3 (t := 27) (c := numA n) (by unfold execOp; simp only [(F2.get (t := 1) rfl)]; kernel_rfl) ?_
 intro g3 a3 w3 F3 M3
 clear F2 M2
 refine zh (zc rfl) rfl F3 rfl M3 4 (t := 42) (c := zSA) (by unfold execOp; kernel_rfl) ?_
 intro g4 a4 w4 F4 M4
 clear F3 M3
 refine hK1 _ _ ?_
 refine zSk fun _ hK5 => ?_
 have hD6 := (zr (M4.blk (k := 3) rfl) dnil)
 refine region_fxU F4 (SK [.inr (StK.lit w4.heap.size [107, 101, 121]), .inr (StK.lit w4.heap.size [107, 101, 121]), .inl (numV n), .inr (StK.bytes (zo n)), .inr (StK.parts [[107, 101, 121], (zo n)]), .inl (.agg (zi (outF S))), .inl (.pointer (some ⟨g2, 60, none⟩))]) 7 (by kernel_rfl) rfl ⟨?_, ?_, hopP F4 hD6 0 (some g3) (by kernel_rfl), ?_, ?_, ?_, hop0 F4 (by kernel_rfl), trivial⟩ ?_
 ·intro ua uw hb hd
  exact hop_lit (zc rfl) hb.size [107, 101, 121] (by decide) (by decide) _ rfl (by simp only [List.map_toArray, List.map_cons, List.map_nil]; kernel_rfl)
 ·intro ua uw hb hd
  have l5 : LitB w4.heap.size uw [107, 101, 121] (ua.eval (.tmp 5)) := hd 5 (by decide)
  have e5 := l5.isB
  exact zrc (zc rfl) _ rfl l5
 ·intro ua uw hb hd
  have e7 : ua.eval (.tmp 7) = numV n := hd 7 (by decide)
  exact zz (F := (StK.bytes (zo n)).F) (zc rfl) hb.size rfl #[numV n] (zta e7) (zE Tryz.func26 rfl) ((rb_r n uw))
 ·intro ua uw hb hd
  have l6 : LitB w4.heap.size uw [107, 101, 121] (ua.eval (.tmp 6)) := hd 6 (by decide)
  have e6 := l6.isB
  have e8 : IsB uw (zo n) (ua.eval (.tmp 8)) := hd 8 (by decide)
  exact hop_parts2 (zc rfl) hb.size (.tmp 6) (.tmp 8) rfl e6 e8
 ·intro ua uw hb hd
  have e9 : IsP uw [[107, 101, 121], (zo n)] (ua.eval (.tmp 9)) := hd 9 (by decide)
  exact zz (F := (StK.eq (.agg (zi (outF S)))).F) (zc rfl) hb.size rfl #[(ua.eval (.tmp 9))] (zta rfl) (zE Tryz.func29 rfl) (zqa ((kO _ _ e9)))
 intro p7 a7 w7 b7 G7 y7
 obtain ⟨-, -, -, -, -, q5, q6, -⟩ := y7
 have r5 : p7 5 = .agg (zi (outF S)) := q5 (by decide)
 have r6 : p7 6 = .pointer (some ⟨g2, 60, none⟩) := q6 (by decide)
 simp only [List.take, layV, Nat.zero_add, Nat.reduceAdd, r5, r6] at G7
 have M7 := M4.kc b7
 clear F4 M4 r5 q5 r6 q6
 refine zw (zc rfl) rfl G7 M7 (k := 2) rfl _ _ _ rfl (G7.get (t := 11) rfl) (G7.get (t := 10) rfl) (zi (outF S)) (zl ⟨x.k, x.P, x.Q, x.g, x.s, x.lp, x.A, x.B, x.O, x.ls, x.V, (outF S), x.Pr⟩ ⟨.slice Ap x.lp.length cp, .slice As x.ls.length cs⟩) rfl (zL rfl) (zfa _) (by kernel_rfl) (by kernel_rfl) ?_
 intro w8 M8
 clear M7
 refine hK5 _ _ ?_
 refine zSk fun _ hK9 => ?_
 have hD10 := (zr (M8.blk (k := 2) rfl) dnil)
 refine zha G7 (SK [.inl (.pointer (some ⟨g2, 60, none⟩)), .inl (.agg (zi (outF S))), .inr (StK.bytes (sumY (outF S))), .inr (StK.lit w8.heap.size [49]), .inr (StK.lit w8.heap.size [49]), .inl (.pointer (some ⟨g2, 25, none⟩)), .inl (.string x.s), .inr (StK.bytes (sBy x.s)), .inl (.pointer (some ⟨g2, 51, none⟩)), .inl (.slice As x.ls.length cs), .inl (.pointer (some ⟨g2, 27, none⟩)), .inl (numV x.A), .inr (StK.bytes (zo x.A)), .inl (.pointer (some ⟨g2, 35, none⟩)), .inl (numV x.B), .inr (StK.bytes (zo x.B)), .inr (StK.parts [[49], (sBy x.s), x.ls, (zo x.A), (zo x.B)]), .inl (.agg (zi (outF U))), .inl (.pointer (some ⟨g2, 76, none⟩))]) 19 rfl (by kernel_rfl) ⟨hop0 G7 (by kernel_rfl), hopP G7 hD10 0 (some g2) (by kernel_rfl), ?_, ?_, ?_, hop0 G7 (by kernel_rfl), hopP G7 hD10 0 (some g2) (by kernel_rfl), ?_, hop0 G7 (by kernel_rfl), hopP G7 hD10 0 (some g2) (by kernel_rfl), hop0 G7 (by kernel_rfl), hopP G7 hD10 0 (some g2) (by kernel_rfl), ?_, hop0 G7 (by kernel_rfl), hopP G7 hD10 0 (some g2) (by kernel_rfl), ?_, ?_, ?_, hop0 G7 (by kernel_rfl), trivial⟩ ?_
 ·intro ua uw hb hd
  have e13 : ua.eval (.tmp 13) = .agg (zi (outF S)) := hd 13 (by decide)
  exact zz (F := (StK.bytes (sumY (outF S))).F) (zc rfl) hb.size rfl #[.agg (zi (outF S))] (zta e13) (zE Tryz.func18 rfl) ((sb_r (outF S) hbd uw))
 ·intro ua uw hb hd
  exact hop_lit (zc rfl) hb.size [49] (by decide) (by decide) _ rfl (by simp only [List.map_toArray, List.map_cons, List.map_nil]; kernel_rfl)
 ·intro ua uw hb hd
  have l15 : LitB w8.heap.size uw [49] (ua.eval (.tmp 15)) := hd 15 (by decide)
  have e15 := l15.isB
  exact zrc (zc rfl) _ rfl l15
 ·intro ua uw hb hd
  have e18 : ua.eval (.tmp 18) = .string x.s := hd 18 (by decide)
  exact hop_cvS (zc rfl) hb.size _ rfl e18 (by omega)
 ·intro ua uw hb hd
  have e23 : ua.eval (.tmp 23) = numV x.A := hd 23 (by decide)
  exact zz (F := (StK.bytes (zo x.A)).F) (zc rfl) hb.size rfl #[numV x.A] (zta e23) (zE Tryz.func26 rfl) ((rb_r x.A uw))
 ·intro ua uw hb hd
  have e26 : ua.eval (.tmp 26) = numV x.B := hd 26 (by decide)
  exact zz (F := (StK.bytes (zo x.B)).F) (zc rfl) hb.size rfl #[numV x.B] (zta e26) (zE Tryz.func26 rfl) ((rb_r x.B uw))
 ·intro ua uw hb hd
  have l16 : LitB w8.heap.size uw [49] (ua.eval (.tmp 16)) := hd 16 (by decide)
  have e16 := l16.isB
  have e19 : IsB uw (sBy x.s) (ua.eval (.tmp 19)) := hd 19 (by decide)
  have e21 : ua.eval (.tmp 21) = .slice As x.ls.length cs := hd 21 (by decide)
  have e24 : IsB uw (zo x.A) (ua.eval (.tmp 24)) := hd 24 (by decide)
  have e27 : IsB uw (zo x.B) (ua.eval (.tmp 27)) := hd 27 (by decide)
  exact hop_parts5 (zc rfl) hb.size (.tmp 16) (.tmp 19) (.tmp 21) (.tmp 24) (.tmp 27) rfl e16 e19 (by rw [e21]; exact ((M8.step hb).isb (k := 1) rfl)) e24 e27
 ·intro ua uw hb hd
  have e14 : IsB uw (sumY (outF S)) (ua.eval (.tmp 14)) := hd 14 (by decide)
  have e28 : IsP uw [[49], (sBy x.s), x.ls, (zo x.A), (zo x.B)] (ua.eval (.tmp 28)) := hd 28 (by decide)
  exact zz (F := (StK.eq (.agg (zi (outF U)))).F) (zc rfl) hb.size rfl #[(ua.eval (.tmp 14)), (ua.eval (.tmp 28))] (z2a rfl rfl) (zE Tryz.func78 rfl) (zqa ((kM _ _ _ e14 e28)))
 intro p11 a11 w11 b11 G11 y11
 obtain ⟨-, -, -, -, -, -, -, -, -, -, -, -, -, -, -, -, -, q17, q18, -⟩ := y11
 have r17 : p11 17 = .agg (zi (outF U)) := q17 (by decide)
 have r18 : p11 18 = .pointer (some ⟨g2, 76, none⟩) := q18 (by decide)
 simp only [List.take, layV, Nat.zero_add, Nat.reduceAdd, r17, r18] at G11
 have M11 := M8.kc b11
 clear G7 M8 r17 q17 r18 q18
 refine zw (zc rfl) rfl G11 M11 (k := 2) rfl _ _ _ rfl (G11.get (t := 30) rfl) (G11.get (t := 29) rfl) (zi (outF U)) (zl ⟨x.k, x.P, x.Q, x.g, x.s, x.lp, x.A, x.B, x.O, x.ls, x.V, (outF S), (outF U)⟩ ⟨.slice Ap x.lp.length cp, .slice As x.ls.length cs⟩) rfl (zL rfl) (zfa _) (by kernel_rfl) (by kernel_rfl) ?_
 intro w12 M12
 clear M11
 refine hK9 _ _ ?_
 refine zSk fun _ hK13 => ?_
 refine zR ?_
 refine zk (w' := w12) (zc rfl) rfl G11 rfl _ (zdb _ _ rfl (G11.get (t := 2) rfl) (M12.blk (k := 2) rfl) (zl ⟨x.k, x.P, x.Q, x.g, x.s, x.lp, x.A, x.B, x.O, x.ls, x.V, (outF S), (outF U)⟩ ⟨.slice Ap x.lp.length cp, .slice As x.ls.length cs⟩) (zeb rfl) Tryz.underlying42 rfl (by kernel_rfl)) fun _ F14 => ?_
 clear G11
 refine zw (zc rfl) rfl F14 M12 (k := 4) rfl _ _ _ rfl (F14.get (t := 4) rfl) (F14.get (t := 31) rfl) (zl ⟨x.k, x.P, x.Q, x.g, x.s, x.lp, x.A, x.B, x.O, x.ls, x.V, (outF S), (outF U)⟩ ⟨.slice Ap x.lp.length cp, .slice As x.ls.length cs⟩) _ rfl (zL rfl) (zva (w := w12) ⟨(M12.isb (k := 0) rfl), (M12.isb (k := 1) rfl)⟩) (zp rfl) (by kernel_rfl) ?_
 intro w15 M15
 clear M12
 refine hK13 _ _ ?_
 refine wp_ret ?_
 try simp only [Exit.then, Exit.inBlock, Exit.jump]
 exact bodyPost_ret (results_cell_row rfl _ _ _ _ _ (0, 0) _ (F14.get rfl) (M15.blk (k := 4) rfl) Tryz.underlying42 rfl (by kernel_rfl)) F14.defers ⟨rfl, M15.below⟩
theorem roffer7_any (k : Int) (P Q g : Nat) (h1 : 1 < P) (hP : P < 2147483648) (h2 : 2 < Q) (hQ5 : Q < 4294967296) (hg : g < 4294967296 ^ 8) (r : RecN) (V : RecV) (hr : r.a < 4294967296 ^ 8) (hs : r.s.size ≤ 200) (hrl : r.l2.length ≤ 200) (a : Nat) (ha : a < 4294967296 ^ 8) (ld : List UInt8) (hdl : ld.length ≤ 200) (vd : Value) (w : World) (hm2 : RecIs w r V) (hd : IsB w ld vd) :
  Calls Tryz.prog 15 #[.agg (zg k P Q g), .agg (recA r V), numV a, vd] w fun e w' => ∃ y, e = .returned (.tuple #[.agg (zl (cond (offOk P Q g r.a a (texN Q [98] [ld])) (zpa (offS k P Q g r.s r.l2 r.a a (texN Q [98] [ld])) (offN P Q g r.a a (texN Q [98] [ld]))) zeroS) y), numV (cond (offOk P Q g r.a a (texN Q [98] [ld])) (offB P Q g r.a (texN Q [98] [ld])) 0), .bool (offOk P Q g r.a a (texN Q [98] [ld]))]) ∧ SShp y ∧ Below w.heap.size w w' := by
 have hP8 : P < 4294967296 ^ 8 := Nat.lt_trans hP (by decide)
 have hQ : Q < 4294967296 ^ 8 := Nat.lt_trans hQ5 (by decide)
 obtain ⟨O, hO⟩ : ∃ O, texN Q [98] [ld] = O := ⟨_, rfl⟩
 have hOl : O < 4294967296 ^ 8 := by rw [← hO]; exact Nat.lt_trans (zkc h2 _).2 hQ
 have kE := fun (w : World) (u : Value) (h : IsP w [[98], ld] u) => rexp7_any k P Q g h2 hQ5 [[98], ld] (show 2 ≤ 6 by decide) (by simp only [List.mem_cons, List.not_mem_nil, or_false, forall_eq_or_imp, forall_eq]; exact ⟨by decide, hdl⟩) u w h
 rw [show expN Q (sumY (outF (macW [] [[98], ld]))) = O from hO] at kE
 rw [hO]
 clear hO
 have hP0 : 0 < P := by omega
 have hm : ∀ x, x % P < 4294967296 ^ 8 := fun x => Nat.lt_trans (Nat.mod_lt _ hP0) hP8
 have hm4 : ∀ x, x % P < 4294967296 := fun x => Nat.lt_trans (Nat.mod_lt _ hP0) (by omega)
 obtain ⟨b1, hb1⟩ : ∃ q, hasB a P Q = q := ⟨_, rfl⟩
 obtain ⟨b2, hb2⟩ : ∃ q, hasB r.a P Q = q := ⟨_, rfl⟩
 have kH1 := fun w => rhas_any k P Q g h1 hP a ha hQ w
 have kH2 := fun w => rhas_any k P Q g h1 hP r.a hr hQ w
 rw [hb1] at kH1
 rw [hb2] at kH2
 obtain ⟨K, hK⟩ : ∃ K, kN Q = K := ⟨_, rfl⟩
 have hKl : K < 4294967296 ^ 8 := by rw [← hK]; exact Nat.lt_trans (zkc h2 _).2 hQ
 have kK := fun w => rk7_any k P Q g h2 hQ5 w
 rw [hK] at kK
 have kC := fun w => rtimes_any k P Q g h1 hP K r.a hKl hr w
 have kR1 := fun w => rraise_any k P Q g h1 hP g O hg hOl w
 have kT := fun w => rsum7_any (K * r.a % P) (g ^ O % P) P (hm4 _) (hm4 _) hP0 hP8 w
 obtain ⟨B, hB⟩ : ∃ B, offB P Q g r.a O = B := ⟨_, rfl⟩
 rw [show (K * r.a % P + g ^ O % P) % P = B by rw [← hB, ← hK]; rfl] at kT
 have hBl : B < 4294967296 ^ 8 := by rw [← hB]; exact offB_lt hP0 hP8
 obtain ⟨C, hC⟩ : ∃ C, K * r.a % P = C := ⟨_, rfl⟩
 obtain ⟨G1, hG1⟩ : ∃ G1, g ^ O % P = G1 := ⟨_, rfl⟩
 rw [hC] at kC kT
 rw [hG1] at kR1 kT
 clear hC hG1 hK
 obtain ⟨U, hU⟩ : ∃ U, uN Q a B = U := ⟨_, rfl⟩
 have hUl : U < 4294967296 ^ 8 := by rw [← hU]; exact Nat.lt_trans (zkc h2 _).2 hQ
 have kU := fun w => ru7_any k P Q g h2 hQ5 a B w
 rw [hU] at kU
 have kR2 := fun w => rraise_any k P Q g h1 hP r.a U hr hUl w
 obtain ⟨T1, hT1⟩ : ∃ T1, r.a ^ U % P = T1 := ⟨_, rfl⟩
 have hT1l : T1 < 4294967296 ^ 8 := by rw [← hT1]; exact hm _
 have kM := fun w => rtimes_any k P Q g h1 hP a T1 ha hT1l w
 obtain ⟨T2, hT2⟩ : ∃ T2, a * T1 % P = T2 := ⟨_, rfl⟩
 have hT2l : T2 < 4294967296 ^ 8 := by rw [← hT2]; exact hm _
 have kR3 := fun w => rraise_any k P Q g h1 hP T2 O hT2l hOl w
 obtain ⟨N, hN⟩ : ∃ N, T2 ^ O % P = N := ⟨_, rfl⟩
 have hoN : offN P Q g r.a a O = N := by unfold offN; rw [hB, hU, hT1, hT2, hN]
 have hoS : offS k P Q g r.s r.l2 r.a a O = ⟨k, P, Q, g, r.s, [], a, B, O, r.l2, r.a, fun _ => 0, fun _ => 0⟩ := by unfold offS; rw [hB]
 have hoK : offOk P Q g r.a a O = (b1 && b2 && !decide (B = 0)) := by unfold offOk; rw [hB, hb1, hb2]
 rw [hoN, hoS, hoK, hB]
 rw [hT1] at kR2
 rw [hT2] at kM
 rw [hN] at kR3
 clear hoN hoS hoK hN hT2 hT1 hU hB hb1 hb2
 obtain ⟨vr, v5⟩ := V
 obtain ⟨Ar, cr, rfl⟩ := id hm2.h2.shape
 obtain ⟨A5, c5, rfl⟩ := id hm2.h5.shape
 obtain ⟨As, cs, rfl⟩ := id hd.shape
 refine zea (args := [.agg (zg k P Q g), .agg (recA r ⟨.slice Ar r.l2.length cr, .slice A5 r.l5.length c5⟩), numV a, .slice As ld.length cs]) 84 Tryz.func15 rfl rfl rfl ?_
 intro fa F
 have M := Mx.start w
 replace M := M.argB 0 hm2.h2 (fun g e => by cases e)
 replace M := M.argB 1 hm2.h5 (fun g e => by cases e)
 replace M := M.argB 2 hd (fun g e => by cases e)
 refine zSk fun _ hK1 => ?_
 refine zR ?_
 refine zh (zc rfl) rfl F rfl M 3 (t := 29) (c := zg k P Q g) (by unfold execOp; simp only [(F.get (t := 0) rfl)]; kernel_rfl) ?_
 intro g2 a2 w2 F2 M2
 clear F M
 refine zh (zc rfl) rfl F2 rfl M2 4 (t := 33) (c := recA r ⟨.slice Ar r.l2.length cr, .slice A5 r.l5.length c5⟩) (by unfold execOp; simp only [(F2.get (t := 1) rfl)]; kernel_rfl) ?_
 intro g3 a3 w3 F3 M3
 clear F2 M2
 refine zh (zc rfl) rfl F3 rfl M3 5 (t := 27) (c := numA a) (by unfold execOp; simp only [(F3.get (t := 2) rfl)]; kernel_rfl) ?_
 intro g4 a4 w4 F4 M4
 clear F3 M3
 refine zh (zc rfl) rfl F4 rfl M4 6 (t := 42) (c := zSA) (by unfold execOp; kernel_rfl) ?_
 intro g5 a5 w5 F5 M5
 clear F4 M4
 refine zh (zc rfl) rfl F5 rfl M5 7 (t := 27) (c := numA 0) (zx rfl) ?_
 intro g6 a6 w6 F6 M6
 clear F5 M5
 refine rm rfl F6 fun _ F7 => ?_
 refine hK1 _ _ ?_
 refine zSk fun _ hK8 => ?_
 refine zSk fun _ hK9 => ?_
 refine zR ?_
 refine zAx 2 [(13, .agg (zg k P Q g)), (14, numV a)] [0, 1] (zr (M6.blk (k := 3) rfl) (zr (M6.blk (k := 5) rfl) dnil)) [g2, g4] F7 fun _ F10 => ?_
 clear F7
 refine zba (zc rfl) rfl F10 rfl rfl (zE Tryz.func30 rfl) #[.agg (zg k P Q g), numV a] (z2a (F10.get (t := 13) rfl) (F10.get (t := 14) rfl)) (zga (kH1 w6)) ?_
 rintro _ w11 a11 ⟨rfl, b11⟩ F11
 have M11 := M6.step b11
 cases b1
 ·refine zAx 8 [(16, .bool true), (17, .bool true), (18, undef), (19, undef), (20, undef), (21, undef), (22, undef), (23, .bool true)] [] dnil [] F11 fun _ F12 => ?_
  clear F11
  refine hK9 _ _ ?_
  refine wp_cond_true (F12.get (t := 23) rfl) ?_
  refine zSk fun _ hK13 => ?_
  refine zR ?_
  refine zk (w' := w11) (zc rfl) rfl F12 rfl (.agg (zSA)) (by unfold execOp; kernel_rfl) fun _ F14 => ?_
  clear F12
  refine zk (w' := w11) (zc rfl) rfl F14 rfl (numV 0) (zjc rfl) fun _ F15 => ?_
  clear F14
  refine zw (zc rfl) rfl F15 M11 (k := 6) rfl _ _ _ rfl (F15.get (t := 8) rfl) (F15.get (t := 24) rfl) (zSA) _ rfl (zL rfl) (zva (w := w11) ⟨(zja _), (zja _)⟩) (zp rfl) (by kernel_rfl) ?_
  intro w16 M16
  clear M11
  refine zw (zc rfl) rfl F15 M16 (k := 7) rfl _ _ _ rfl (F15.get (t := 9) rfl) (F15.get (t := 25) rfl) (numA 0) _ rfl (zL rfl) (zaa _) (zp rfl) ze ?_
  intro w17 M17
  clear M16
  refine rm rfl F15 fun _ F18 => ?_
  refine hK13 _ _ ?_
  refine wp_ret ?_
  try simp only [Exit.then, Exit.inBlock, Exit.jump]
  exact bodyPost_ret (res2ct rfl (F18.get rfl) (M17.blk (k := 6) rfl) (F18.get rfl) (M17.blk (k := 7) rfl) (F18.get rfl) Tryz.underlying42 rfl (by kernel_rfl) Tryz.underlying27 rfl ze) F18.defers (by simp only [Bool.false_and, Bool.true_and, Bool.and_false, Bool.and_true, Bool.not_true, Bool.not_false, cond_true, cond_false]; exact ⟨_, rfl, ⟨⟨_, _, _, rfl⟩, _, _, _, rfl⟩, M17.below⟩)
 ·refine zAx 5 [(16, .bool false), (17, .bool false), (18, .agg (zg k P Q g)), (19, .pointer (some ⟨g3, 3, none⟩)), (20, numV r.a)] [0, 1] (zr (M11.blk (k := 3) rfl) (zr (M11.blk (k := 4) rfl) dnil)) [g2, g3] F11 fun _ F19 => ?_
  clear F11
  refine zba (zwb rfl rfl rfl (F19.get (t := 17) rfl)) rfl F19 rfl rfl (zE Tryz.func30 rfl) #[.agg (zg k P Q g), numV r.a] (z2a (F19.get (t := 18) rfl) (F19.get (t := 20) rfl)) (zga (kH2 w11)) ?_
  rintro _ w20 a20 ⟨rfl, b20⟩ F20
  have M20 := M11.step b20
  cases b2
  ·refine zAx 2 [(22, .bool true), (23, .bool true)] [] dnil [] F20 fun _ F21 => ?_
   clear F20
   refine hK9 _ _ ?_
   refine wp_cond_true (F21.get (t := 23) rfl) ?_
   refine zSk fun _ hK22 => ?_
   refine zR ?_
   refine zk (w' := w20) (zc rfl) rfl F21 rfl (.agg (zSA)) (by unfold execOp; kernel_rfl) fun _ F23 => ?_
   clear F21
   refine zk (w' := w20) (zc rfl) rfl F23 rfl (numV 0) (zjc rfl) fun _ F24 => ?_
   clear F23
   refine zw (zc rfl) rfl F24 M20 (k := 6) rfl _ _ _ rfl (F24.get (t := 8) rfl) (F24.get (t := 24) rfl) (zSA) _ rfl (zL rfl) (zva (w := w20) ⟨(zja _), (zja _)⟩) (zp rfl) (by kernel_rfl) ?_
   intro w25 M25
   clear M20
   refine zw (zc rfl) rfl F24 M25 (k := 7) rfl _ _ _ rfl (F24.get (t := 9) rfl) (F24.get (t := 25) rfl) (numA 0) _ rfl (zL rfl) (zaa _) (zp rfl) ze ?_
   intro w26 M26
   clear M25
   refine rm rfl F24 fun _ F27 => ?_
   refine hK22 _ _ ?_
   refine wp_ret ?_
   try simp only [Exit.then, Exit.inBlock, Exit.jump]
   exact bodyPost_ret (res2ct rfl (F27.get rfl) (M26.blk (k := 6) rfl) (F27.get rfl) (M26.blk (k := 7) rfl) (F27.get rfl) Tryz.underlying42 rfl (by kernel_rfl) Tryz.underlying27 rfl ze) F27.defers (by simp only [Bool.false_and, Bool.true_and, Bool.and_false, Bool.and_true, Bool.not_true, Bool.not_false, cond_true, cond_false]; exact ⟨_, rfl, ⟨⟨_, _, _, rfl⟩, _, _, _, rfl⟩, M26.below⟩)
  ·refine zAx 2 [(22, .bool false), (23, .bool false)] [] dnil [] F20 fun _ F28 => ?_
   clear F20
   refine hK9 _ _ ?_
   refine wp_cond_false (F28.get (t := 23) rfl) ?_
   refine wp_skip ?_
   refine hK8 _ _ ?_
   refine zSk fun _ hK29 => ?_
   have hD30 := (zr (M20.blk (k := 3) rfl) (zr (M20.blk (k := 4) rfl) (zr (M20.blk (k := 5) rfl) dnil)))
   refine zha F28 (SK [.inl (.agg (zg k P Q g)), .inl (.pointer (some ⟨g3, 1, none⟩)), .inl (.string r.s), .inl (numV a), .inl (.agg (zg k P Q g)), .inr (StK.lit w20.heap.size [98]), .inr (StK.lit w20.heap.size [98]), .inl (.slice As ld.length cs), .inr (StK.parts [[98], ld]), .inl (numV O), .inl (.pointer (some ⟨g3, 2, none⟩)), .inl (.slice Ar r.l2.length cr), .inl (.pointer (some ⟨g3, 3, none⟩)), .inl (numV r.a), .inl (.agg (zl ⟨k, P, Q, g, r.s, [], a, 0, O, r.l2, r.a, (fun _ => 0), (fun _ => 0)⟩ ⟨zN, .slice Ar r.l2.length cr⟩)), .inr (StK.new w20.heap.size (zSA) 42 (by decide))]) 16 rfl (by kernel_rfl) ⟨hopP F28 hD30 0 (some g2) (by kernel_rfl), hop0 F28 (by kernel_rfl), hopP F28 hD30 1 (some g3) (by kernel_rfl), hopP F28 hD30 2 (some g4) (by kernel_rfl), hopP F28 hD30 0 (some g2) (by kernel_rfl), ?_, ?_, hop0 F28 (by kernel_rfl), ?_, ?_, hop0 F28 (by kernel_rfl), hopP F28 hD30 1 (some g3) (by kernel_rfl), hop0 F28 (by kernel_rfl), hopP F28 hD30 1 (some g3) (by kernel_rfl), hopR F28 [(26, .agg (zg k P Q g)), (28, .string r.s), (29, numV a), (35, numV O), (37, .slice Ar r.l2.length cr), (39, numV r.a)] (v := .agg (zl ⟨k, P, Q, g, r.s, [], a, 0, O, r.l2, r.a, (fun _ => 0), (fun _ => 0)⟩ ⟨zN, .slice Ar r.l2.length cr⟩)) fun ua uw hb ⟨e26, e28, e29, e35, e37, e39, _⟩ => (by unfold execOp; simp only [List.map_toArray, List.map_cons, List.map_nil, e26, e28, e29, e35, e37, e39]; kernel_rfl), ?_, trivial⟩ ?_
   ·intro ua uw hb hd
    exact hop_lit (zc rfl) hb.size [98] (by decide) (by decide) _ rfl (by simp only [List.map_toArray, List.map_cons, List.map_nil]; kernel_rfl)
   ·intro ua uw hb hd
    have l31 : LitB w20.heap.size uw [98] (ua.eval (.tmp 31)) := hd 31 (by decide)
    have e31 := l31.isB
    exact zrc (zc rfl) _ rfl l31
   ·intro ua uw hb hd
    have l32 : LitB w20.heap.size uw [98] (ua.eval (.tmp 32)) := hd 32 (by decide)
    have e32 := l32.isB
    have e33 : ua.eval (.tmp 33) = .slice As ld.length cs := hd 33 (by decide)
    exact hop_parts2 (zc rfl) hb.size (.tmp 32) (.tmp 33) rfl e32 (by rw [e33]; exact ((M20.step hb).isb (k := 2) rfl))
   ·intro ua uw hb hd
    have e30 : ua.eval (.tmp 30) = .agg (zg k P Q g) := hd 30 (by decide)
    have e34 : IsP uw [[98], ld] (ua.eval (.tmp 34)) := hd 34 (by decide)
    exact zz (F := (StK.eq (numV O)).F) (zc rfl) hb.size rfl #[.agg (zg k P Q g), (ua.eval (.tmp 34))] (z2a e30 rfl) (zE Tryz.func25 rfl) (zqa ((kE _ _ e34)))
   ·intro ua uw hb hd
    exact hop_new (zc rfl) hb.size hb.size (by decide) (by unfold execOp; kernel_rfl)
   intro p31 a31 w31 b31 G31 y31
   obtain ⟨-, -, -, -, -, -, -, -, -, -, -, -, -, -, q14, q15, -⟩ := y31
   obtain ⟨gn15x30, r15, hg15, hc15⟩ := q15 (by decide)
   replace r15 : p31 15 = .pointer (some ⟨gn15x30, 0, none⟩) := r15
   have r14 : p31 14 = .agg (zl ⟨k, P, Q, g, r.s, [], a, 0, O, r.l2, r.a, (fun _ => 0), (fun _ => 0)⟩ ⟨zN, .slice Ar r.l2.length cr⟩) := q14 (by decide)
   simp only [List.take, layV, Nat.zero_add, Nat.reduceAdd, r14, r15] at G31
   have M31 := M20.newb b31.below 8 hg15 hc15
   clear hg15 hc15 r15
   clear F28 M20 r14 q14
   refine zw (zc rfl) rfl G31 M31 (k := 8) rfl _ _ _ rfl (G31.get (t := 11) rfl) (G31.get (t := 40) rfl) (zl ⟨k, P, Q, g, r.s, [], a, 0, O, r.l2, r.a, (fun _ => 0), (fun _ => 0)⟩ ⟨zN, .slice Ar r.l2.length cr⟩) _ rfl (zL rfl) (zva (w := w31) ⟨(zja _), (M31.isb (k := 0) rfl)⟩) (zp rfl) (by kernel_rfl) ?_
   intro w32 M32
   clear M31
   refine hK29 _ _ ?_
   refine zSk fun _ hK33 => ?_
   have hD34 := (zr (M32.blk (k := 3) rfl) (zr (M32.blk (k := 4) rfl) (zr (M32.blk (k := 8) rfl) dnil)))
   refine zha G31 (SK [.inl (.agg (zg k P Q g)), .inl (.agg (zg k P Q g)), .inl (numV K), .inl (.pointer (some ⟨g3, 3, none⟩)), .inl (numV r.a), .inl (numV C), .inl (.agg (zg k P Q g)), .inl (.pointer (some ⟨g2, 17, none⟩)), .inl (numV g), .inl (.pointer (some ⟨gn15x30, 43, none⟩)), .inl (numV O), .inl (numV G1), .inl (.pointer (some ⟨g2, 1, none⟩)), .inl (numV P), .inl (numV B), .inl (.pointer (some ⟨gn15x30, 35, none⟩))]) 16 rfl (by kernel_rfl) ⟨hopP G31 hD34 0 (some g2) (by kernel_rfl), hopP G31 hD34 0 (some g2) (by kernel_rfl), hopC G31 [(42, .agg (zg k P Q g))] rfl (zE Tryz.func44 rfl) fun uw hb => kK uw, hop0 G31 (by kernel_rfl), hopP G31 hD34 1 (some g3) (by kernel_rfl), hopC G31 [(41, .agg (zg k P Q g)), (43, numV K), (45, numV r.a)] rfl (zE Tryz.func28 rfl) fun uw hb => kC uw, hopP G31 hD34 0 (some g2) (by kernel_rfl), hop0 G31 (by kernel_rfl), hopP G31 hD34 0 (some g2) (by kernel_rfl), hop0 G31 (by kernel_rfl), hopP G31 hD34 2 (some gn15x30) (by kernel_rfl), hopC G31 [(47, .agg (zg k P Q g)), (49, numV g), (51, numV O)] rfl (zE Tryz.func27 rfl) fun uw hb => kR1 uw, hop0 G31 (by kernel_rfl), hopP G31 hD34 0 (some g2) (by kernel_rfl), hopC G31 [(46, numV C), (52, numV G1), (54, numV P)] rfl (zE Tryz.func43 rfl) fun uw hb => kT uw, hop0 G31 (by kernel_rfl), trivial⟩ ?_
   intro p35 a35 w35 b35 G35 y35
   obtain ⟨-, -, -, -, -, -, -, -, -, -, -, -, -, -, q14, q15, -⟩ := y35
   have r14 : p35 14 = numV B := q14 (by decide)
   have r15 : p35 15 = .pointer (some ⟨gn15x30, 35, none⟩) := q15 (by decide)
   simp only [List.take, layV, Nat.zero_add, Nat.reduceAdd, r14, r15] at G35
   have M35 := M32.kc b35
   clear G31 M32 r14 q14 r15 q15
   refine zw (zc rfl) rfl G35 M35 (k := 8) rfl _ _ _ rfl (G35.get (t := 56) rfl) (G35.get (t := 55) rfl) (numA B) (zl (zOS k P Q g r a B O) ⟨zN, .slice Ar r.l2.length cr⟩) rfl (zL rfl) (zaa _) (by kernel_rfl) ze ?_
   intro w36 M36
   clear M35
   refine hK33 _ _ ?_
   refine zSk fun _ hK37 => ?_
   refine zSk fun _ hK38 => ?_
   refine zR ?_
   refine zAx 2 [(57, .pointer (some ⟨gn15x30, 35, none⟩)), (58, numV B)] [0] (zr (M36.blk (k := 8) rfl) dnil) [gn15x30] G35 fun _ F39 => ?_
   clear G35
   refine zk (w' := w36) (zc rfl) rfl F39 rfl (numV 0) (zjc rfl) fun _ F40 => ?_
   clear F39
   by_cases h41 : B = 0
   ·refine zk (w' := w36) (zc rfl) rfl F40 rfl (.bool true) (y_eqA _ _ _ _ rfl (F40.get (t := 58) rfl) (F40.get (t := 59) rfl) (by kernel_rfl) (eqn_is h41 _)) fun _ F42 => ?_
    clear F40
    refine hK38 _ _ ?_
    refine wp_cond_true (F42.get (t := 60) rfl) ?_
    refine zSk fun _ hK43 => ?_
    refine zR ?_
    refine zk (w' := w36) (zc rfl) rfl F42 rfl (.agg (zSA)) (by unfold execOp; kernel_rfl) fun _ F44 => ?_
    clear F42
    refine zk (w' := w36) (zc rfl) rfl F44 rfl (numV 0) (zjc rfl) fun _ F45 => ?_
    clear F44
    refine zw (zc rfl) rfl F45 M36 (k := 6) rfl _ _ _ rfl (F45.get (t := 8) rfl) (F45.get (t := 61) rfl) (zSA) _ rfl (zL rfl) (zva (w := w36) ⟨(zja _), (zja _)⟩) (zp rfl) (by kernel_rfl) ?_
    intro w46 M46
    clear M36
    refine zw (zc rfl) rfl F45 M46 (k := 7) rfl _ _ _ rfl (F45.get (t := 9) rfl) (F45.get (t := 62) rfl) (numA 0) _ rfl (zL rfl) (zaa _) (zp rfl) ze ?_
    intro w47 M47
    clear M46
    refine rm rfl F45 fun _ F48 => ?_
    refine hK43 _ _ ?_
    refine wp_ret ?_
    try simp only [Exit.then, Exit.inBlock, Exit.jump]
    exact bodyPost_ret (res2ct rfl (F48.get rfl) (M47.blk (k := 6) rfl) (F48.get rfl) (M47.blk (k := 7) rfl) (F48.get rfl) Tryz.underlying42 rfl (by kernel_rfl) Tryz.underlying27 rfl ze) F48.defers (by simp only [Bool.false_and, Bool.true_and, Bool.and_false, Bool.and_true, Bool.not_true, Bool.not_false, cond_true, cond_false, decide_eq_true h41]; exact ⟨_, rfl, ⟨⟨_, _, _, rfl⟩, _, _, _, rfl⟩, M47.below⟩)
   ·refine zk (w' := w36) (zc rfl) rfl F40 rfl (.bool false) (y_eqA _ _ _ _ rfl (F40.get (t := 58) rfl) (F40.get (t := 59) rfl) (by kernel_rfl) (eqn_no hBl h41 _)) fun _ F49 => ?_
    clear F40
    refine hK38 _ _ ?_
    refine wp_cond_false (F49.get (t := 60) rfl) ?_
    refine wp_skip ?_
    refine hK37 _ _ ?_
    refine zSk fun _ hK50 => ?_
    have hD51 := (zr (M36.blk (k := 3) rfl) (zr (M36.blk (k := 5) rfl) (zr (M36.blk (k := 4) rfl) (zr (M36.blk (k := 8) rfl) dnil))))
    refine zha F49 (SK [.inl (.agg (zg k P Q g)), .inl (numV a), .inl (.agg (zg k P Q g)), .inl (.pointer (some ⟨g3, 3, none⟩)), .inl (numV r.a), .inl (.agg (zg k P Q g)), .inl (numV a), .inl (.pointer (some ⟨gn15x30, 35, none⟩)), .inl (numV B), .inl (numV U), .inl (numV T1), .inl (numV T2), .inr (StK.new w36.heap.size (numA 0) 27 (by decide))]) 13 rfl (by kernel_rfl) ⟨hopP F49 hD51 0 (some g2) (by kernel_rfl), hopP F49 hD51 1 (some g4) (by kernel_rfl), hopP F49 hD51 0 (some g2) (by kernel_rfl), hop0 F49 (by kernel_rfl), hopP F49 hD51 2 (some g3) (by kernel_rfl), hopP F49 hD51 0 (some g2) (by kernel_rfl), hopP F49 hD51 1 (some g4) (by kernel_rfl), hop0 F49 (by kernel_rfl), hopP F49 hD51 3 (some gn15x30) (by kernel_rfl), hopC F49 [(68, .agg (zg k P Q g)), (69, numV a), (71, numV B)] rfl (zE Tryz.func45 rfl) fun uw hb => kU uw, hopC F49 [(65, .agg (zg k P Q g)), (67, numV r.a), (72, numV U)] rfl (zE Tryz.func27 rfl) fun uw hb => kR2 uw, hopC F49 [(63, .agg (zg k P Q g)), (64, numV a), (73, numV T1)] rfl (zE Tryz.func28 rfl) fun uw hb => kM uw, ?_, trivial⟩ ?_
    ·intro ua uw hb hd
     exact hop_new (zc rfl) hb.size hb.size (by decide) (zx rfl)
    intro p52 a52 w52 b52 G52 y52
    obtain ⟨-, -, -, -, -, -, -, -, -, -, -, q11, q12, -⟩ := y52
    obtain ⟨gn12x51, r12, hg12, hc12⟩ := q12 (by decide)
    replace r12 : p52 12 = .pointer (some ⟨gn12x51, 0, none⟩) := r12
    have r11 : p52 11 = numV T2 := q11 (by decide)
    simp only [List.take, layV, Nat.zero_add, Nat.reduceAdd, r11, r12] at G52
    have M52 := M36.newb b52.below 9 hg12 hc12
    clear hg12 hc12 r12
    clear F49 M36 r11 q11
    refine zw (zc rfl) rfl G52 M52 (k := 9) rfl _ _ _ rfl (G52.get (t := 12) rfl) (G52.get (t := 74) rfl) (numA T2) _ rfl (zL rfl) (zaa _) (zp rfl) ze ?_
    intro w53 M53
    clear M52
    refine hK50 _ _ ?_
    refine zSk fun _ hK54 => ?_
    refine zmb G52 (SE [.inl (.agg (zl (zOS k P Q g r a B O) ⟨zN, .slice Ar r.l2.length cr⟩)), .inl (.agg (zg k P Q g)), .inl (numV T2), .inl (.pointer (some ⟨gn15x30, 43, none⟩)), .inl (numV O), .inl (numV N), .inl (.agg (zl (zpa (zOS k P Q g r a B O) N) ⟨zN, .slice Ar r.l2.length cr⟩)), .inl (.pointer (some ⟨gn15x30, 35, none⟩)), .inl (numV B), .inl (undef)]) (JM none w fun SV pV => [(0, bytR r.l2 (.slice Ar r.l2.length cr)), (1, bytR r.l5 (.slice A5 r.l5.length c5)), (2, bytR ld (.slice As ld.length cs)), (3, blkR g2 29 (zg k P Q g)), (4, blkR g3 33 (recA r ⟨.slice Ar r.l2.length cr, .slice A5 r.l5.length c5⟩)), (5, blkR g4 27 (numA a)), (6, blkR g5 42 (zl (cond (SV 9) ((zpa (zOS k P Q g r a B O) N) : SideN) ⟨0, 0, 0, 0, "".toUTF8, [], 0, 0, 0, [], 0, (fun _ => 0), (fun _ => 0)⟩) (cond (SV 9) (⟨zN, .slice Ar r.l2.length cr⟩ : SideV) ⟨zN, zN⟩))), (7, blkR g6 27 (numA 0)), (8, blkR gn15x30 42 (zl (zOS k P Q g r a B O) ⟨zN, .slice Ar r.l2.length cr⟩)), (9, blkR gn12x51 27 (numA T2))]) 10 rfl (by kernel_rfl) rfl ⟨trivial, trivial, trivial, trivial, trivial, trivial, trivial, trivial, trivial, fun _ => Iff.rfl, trivial⟩ (fun p => (M53.step (zwa _)).sub ⟨rfl, rfl, rfl, rfl, rfl, rfl, rfl, rfl, rfl, rfl, trivial⟩) ⟨z3a G52 (fun _ _ _ M => zr (Mx.blk (k := 8) M rfl) dnil) (some gn15x30) (by kernel_rfl), z3a G52 (fun _ _ _ M => zr (Mx.blk (k := 3) M rfl) dnil) (some g2) (by kernel_rfl), z3a G52 (fun _ _ _ M => zr (Mx.blk (k := 9) M rfl) dnil) (some gn12x51) (by kernel_rfl), z8b G52 (by kernel_rfl), z3a G52 (fun _ _ _ M => zr (Mx.blk (k := 8) M rfl) dnil) (some gn15x30) (by kernel_rfl), ?_, ?_, z8b G52 (by kernel_rfl), z3a G52 (fun _ _ _ M => zr (Mx.blk (k := 8) M rfl) dnil) (some gn15x30) (by kernel_rfl), ?_, trivial⟩ ?_
    ·intro ua uw SV pV M0 hk hn hd
     have M : Mx none w uw _ := M0
     clear M0
     obtain ⟨s1, f76, q76⟩ := (show SV 1 = true ∧ ua.eval (.tmp 76) = pV 1 ∧ stE _ 1 (pV 1) from hd 76 (by decide))
     have e76 : ua.eval (.tmp 76) = .agg (zg k P Q g) := f76.trans q76
     obtain ⟨s2, f77, q77⟩ := (show SV 2 = true ∧ ua.eval (.tmp 77) = pV 2 ∧ stE _ 2 (pV 2) from hd 77 (by decide))
     have e77 : ua.eval (.tmp 77) = numV T2 := f77.trans q77
     obtain ⟨s4, f79, q79⟩ := (show SV 4 = true ∧ ua.eval (.tmp 79) = pV 4 ∧ stE _ 4 (pV 4) from hd 79 (by decide))
     have e79 : ua.eval (.tmp 79) = numV O := f79.trans q79
     exact zya (zc rfl) rfl #[.agg (zg k P Q g), numV T2, numV O] (args3 e76 e77 e79) (zE Tryz.func27 rfl) ((kR3 uw).mono fun e w2 h => ⟨_, h.1, rfl, (M.step h.2).sub ⟨rfl, rfl, rfl, rfl, rfl, rfl, rfl, rfl, rfl, rfl, trivial⟩⟩)
    ·intro ua uw SV pV M0 hk hn hd
     have M : Mx none w uw _ := M0
     clear M0
     obtain ⟨s0, f75, q75⟩ := (show SV 0 = true ∧ ua.eval (.tmp 75) = pV 0 ∧ stE _ 0 (pV 0) from hd 75 (by decide))
     have e75 : ua.eval (.tmp 75) = .agg (zl (zOS k P Q g r a B O) ⟨zN, .slice Ar r.l2.length cr⟩) := f75.trans q75
     obtain ⟨s5, f80, q80⟩ := (show SV 5 = true ∧ ua.eval (.tmp 80) = pV 5 ∧ stE _ 5 (pV 5) from hd 80 (by decide))
     have e80 : ua.eval (.tmp 80) = numV N := f80.trans q80
     exact zya (zc rfl) rfl #[.agg (zl (zOS k P Q g r a B O) ⟨zN, .slice Ar r.l2.length cr⟩), numV N] (z2a e75 e80) (zE Tryz.func46 rfl) (((rkeyed7_any (zOS k P Q g r a B O) ⟨zN, .slice Ar r.l2.length cr⟩ N hs hrl uw ⟨(zja _), (M.isb (k := 0) rfl)⟩)).mono fun e w2 h => ⟨_, h.1, rfl, (M.step h.2).sub ⟨rfl, rfl, rfl, rfl, rfl, rfl, rfl, rfl, rfl, rfl, trivial⟩⟩)
    ·intro ua uw SV pV M0 hk hn hd
     have M : Mx none w uw _ := M0
     clear M0
     have e8 : ua.eval (.tmp 8) = .pointer (some ⟨g5, 0, none⟩) := (show ua.eval (.tmp 8) = _ from hd 8 (by decide)).trans (G52.get (t := 8) rfl)
     obtain ⟨s6, f81, q81⟩ := (show SV 6 = true ∧ ua.eval (.tmp 81) = pV 6 ∧ stE _ 6 (pV 6) from hd 81 (by decide))
     have e81 : ua.eval (.tmp 81) = .agg (zl (zpa (zOS k P Q g r a B O) N) ⟨zN, .slice Ar r.l2.length cr⟩) := f81.trans q81
     exact hopM_doM (zc rfl) rfl (run_st M (k := 6) rfl _ _ _ rfl e8 e81 (zl (zpa (zOS k P Q g r a B O) N) ⟨zN, .slice Ar r.l2.length cr⟩) _ rfl (zL rfl) (zva (w := w53) ⟨(zja _), (M53.isb (k := 0) rfl)⟩) (zp rfl) (by kernel_rfl)) (fun w2 h2 => h2.sub ⟨rfl, rfl, rfl, rfl, rfl, rfl, rfl, rfl, rfl, rfl, trivial⟩) rfl
    intro p55 a55 w55 M55 G55 y55
    obtain ⟨-, -, -, -, -, -, -, -, q8, -, -⟩ := y55
    have r8 : p55 8 = numV B := q8
    replace M55 : Mx _ _ w55 [(0, bytR r.l2 (.slice Ar r.l2.length cr)), (1, bytR r.l5 (.slice A5 r.l5.length c5)), (2, bytR ld (.slice As ld.length cs)), (3, blkR g2 29 (zg k P Q g)), (4, blkR g3 33 (recA r ⟨.slice Ar r.l2.length cr, .slice A5 r.l5.length c5⟩)), (5, blkR g4 27 (numA a)), (6, blkR g5 42 (zl (zpa (zOS k P Q g r a B O) N) ⟨zN, .slice Ar r.l2.length cr⟩)), (7, blkR g6 27 (numA 0)), (8, blkR gn15x30 42 (zl (zOS k P Q g r a B O) ⟨zN, .slice Ar r.l2.length cr⟩)), (9, blkR gn12x51 27 (numA T2))] := M55
    simp only [List.take, layV, Nat.zero_add, Nat.reduceAdd, r8] at G55
    refine zw (zc rfl) rfl G55 M55 (k := 7) rfl _ _ _ rfl (G55.get (t := 9) rfl) (G55.get (t := 83) rfl) (numA B) _ rfl (zL rfl) (zaa _) (zp rfl) ze ?_
    intro w56 M56
    clear M55
    refine rm rfl G55 fun _ F57 => ?_
    refine hK54 _ _ ?_
    refine wp_ret ?_
    try simp only [Exit.then, Exit.inBlock, Exit.jump]
    exact bodyPost_ret (res2ct rfl (F57.get rfl) (M56.blk (k := 6) rfl) (F57.get rfl) (M56.blk (k := 7) rfl) (F57.get rfl) Tryz.underlying42 rfl (by kernel_rfl) Tryz.underlying27 rfl ze) F57.defers (by simp only [Bool.false_and, Bool.true_and, Bool.and_false, Bool.and_true, Bool.not_true, Bool.not_false, cond_true, cond_false, decide_eq_false h41]; exact ⟨_, rfl, ⟨⟨_, _, _, rfl⟩, _, _, _, rfl⟩, M56.below⟩)
theorem group_t {n : Int} (h0 : -9223372036854775808 ≤ n) (h1 : n < 9223372036854775808) : ∃ t : Nat, t < 9 ∧ ∀ w, Calls Tryz.prog 32 #[.int .i64 n, .int .i64 9] w fun e w' => e = .returned (.int .i64 (t : Int)) ∧ w = w' := by
 refine ⟨(n % 9).toNat, by omega, fun w => ?_⟩
 have := gwithin_any n 9 (by omega) (by omega) h0 h1 w
 rw [show (((n % 9).toNat : Nat) : Int) = n % 9 by omega]
 exact this
def GOk (k : Int) (p : Nat) : Prop := 12 ≤ k ∧ k ≤ 24 ∧ p % 2 = 1 ∧ 4000 < p ∧ p < 16777216 ∧ zbc (p : Int) = true ∧ zbc ((p / 2 : Nat) : Int) = true
theorem group_at {t : Nat} (ht : t < 9) : ∃ (k : Int) (p : Nat), (#[.int .i64 12, .int .i64 13, .int .i64 14, .int .i64 15, .int .i64 16, .int .i64 17, .int .i64 18, .int .i64 20, .int .i64 24] : Array Value)[t]? = some (.int .i64 k) ∧
  zic 31 #[.int .i64 k] (.tuple #[.agg (zg k p (p / 2) 4), .bool true]) ∧ GOk k p := by
 have key : ∀ K : Nat, 12 ≤ K → K ≤ 24 → ∃ p : Nat, zic 31 #[.int .i64 (K : Int)] (.tuple #[.agg (zg (K : Int) p (p / 2) 4), .bool true]) ∧ GOk (K : Int) p := fun K g0 g1 => by
  obtain ⟨p, p4, po, pl, ps, pn⟩ := tabs (k := K) (by omega) (by omega)
  have hl : 2 ^ K ≤ 2 ^ 24 := Nat.pow_le_pow_right (by decide) (by omega)
  have hp : p < 16777216 := Nat.lt_of_lt_of_le pl hl
  have e : ((2 : Int) ^ K) = ((2 ^ K : Nat) : Int) := by simp
  have hpr : zbc ((p : Int) / 2) = true ∧ zbc (p : Int) = true := by
   unfold safeB at ps
   simpa using ps
  have hq : ((p / 2 : Nat) : Int) = (p : Int) / 2 := by omega
  refine ⟨p, fun w => ?_, by omega, by omega, po, ?_, hp, hpr.2, by rw [hq]; exact hpr.1⟩
  ·refine (rgmake_any (K : Int) (p : Int) (by omega) (by omega) (fun _ => ⟨by omega, by omega, by rw [Int.toNat_natCast, e]; exact_mod_cast pl, ps, by rw [Int.toNat_natCast]; exact pn⟩) w).mono ?_
   rintro e' w' ⟨V, rfl, hV, hb⟩
   rcases hV with ⟨-, hV⟩ | ⟨hn, -⟩
   ·exact ⟨by rw [hV, Int.toNat_natCast, ← hq, Int.toNat_natCast], hb⟩
   ·omega
  ·refine Nat.lt_of_not_le fun hle => ?_
   have h40 : ((4079 : Nat) : Int) < 2 ^ K := by
    rw [e]
    have : 2 ^ 12 ≤ 2 ^ K := Nat.pow_le_pow_right (by decide) g0
    omega
   have := pn ((4079 : Nat) : Int) (by omega) h40
   rw [(tab_of (k := 12) (p := 4079) (D := 63) (E := 45) (by decide) (by decide) (by decide) (by decide) (by decide) tab12).1] at this
   cases this
 have : t = 0 ∨ t = 1 ∨ t = 2 ∨ t = 3 ∨ t = 4 ∨ t = 5 ∨ t = 6 ∨ t = 7 ∨ t = 8 := by omega
 rcases this with rfl | rfl | rfl | rfl | rfl | rfl | rfl | rfl | rfl
 ·obtain ⟨p, h1, h2⟩ := key 12 (by decide) (by decide)
  exact ⟨12, p, rfl, h1, h2⟩
 ·obtain ⟨p, h1, h2⟩ := key 13 (by decide) (by decide)
  exact ⟨13, p, rfl, h1, h2⟩
 ·obtain ⟨p, h1, h2⟩ := key 14 (by decide) (by decide)
  exact ⟨14, p, rfl, h1, h2⟩
 ·obtain ⟨p, h1, h2⟩ := key 15 (by decide) (by decide)
  exact ⟨15, p, rfl, h1, h2⟩
 ·obtain ⟨p, h1, h2⟩ := key 16 (by decide) (by decide)
  exact ⟨16, p, rfl, h1, h2⟩
 ·obtain ⟨p, h1, h2⟩ := key 17 (by decide) (by decide)
  exact ⟨17, p, rfl, h1, h2⟩
 ·obtain ⟨p, h1, h2⟩ := key 18 (by decide) (by decide)
  exact ⟨18, p, rfl, h1, h2⟩
 ·obtain ⟨p, h1, h2⟩ := key 20 (by decide) (by decide)
  exact ⟨20, p, rfl, h1, h2⟩
 ·obtain ⟨p, h1, h2⟩ := key 24 (by decide) (by decide)
  exact ⟨24, p, rfl, h1, h2⟩
theorem group_any {n : Int} (h0 : -9223372036854775808 ≤ n) (h1 : n < 9223372036854775808) : ∃ (k : Int) (p : Nat), GOk k p ∧ zic 11 #[.int .i64 n] (.agg (zg k p (p / 2) 4)) := by
 obtain ⟨t, ht, kw⟩ := group_t h0 h1
 obtain ⟨k, p, hk, hr, hg⟩ := group_at ht
 refine ⟨k, p, hg, fun w => ?_⟩
 refine zea (args := [.int .i64 n]) 15 Tryz.func11 rfl rfl rfl ?_
 intro fa F
 have M := Mx.start w
 refine zSk fun _ hK1 => ?_
 refine zR ?_
 refine zh (zc rfl) rfl F rfl M 0 (t := 29) (c := zg 0 0 0 0) (by unfold execOp; rw [z2b]; kernel_rfl) ?_
 intro g2 a2 w2 F2 M2
 clear F M
 refine hK1 _ _ ?_
 refine zSk fun _ hK3 => ?_
 refine zR ?_
 refine zfc (zc rfl) rfl F2 rfl M2 1 (t := 3) (c := #[.int .i64 12, .int .i64 13, .int .i64 14, .int .i64 15, .int .i64 16, .int .i64 17, .int .i64 18, .int .i64 20, .int .i64 24]) (k := 9) (m := 9) (y_litI rfl #[.int .i64 12, .int .i64 13, .int .i64 14, .int .i64 15, .int .i64 16, .int .i64 17, .int .i64 18, .int .i64 20, .int .i64 24] rfl (by decide) (by decide) (by simp only [List.map_toArray, List.map_cons, List.map_nil]; kernel_rfl)) ?_
 intro g4 a4 w4 F4 M4
 clear F2 M2
 refine zk (w' := w4) (zc rfl) rfl F4 rfl (.int .i64 n) (run_mv _ (.inl rfl) (F4.get (t := 0) rfl)) fun _ F5 => ?_
 clear F4
 refine zba (zc rfl) rfl F5 rfl rfl (zE Tryz.func32 rfl) #[.int .i64 n, .int .i64 9] (z2a (F5.get (t := 7) rfl) rfl) (zga (kw w4)) ?_
 rintro _ w6 a6 ⟨rfl, rfl⟩ F6
 refine zk (w' := w4) (zc rfl) rfl F6 rfl (.pointer (some ⟨g4, t, none⟩)) (y_ixI _ _ rfl (F6.get (t := 6) rfl) (F6.get (t := 8) rfl) rfl ht (Nat.zero_add t)) fun _ F7 => ?_
 clear F6
 refine zk (w' := w4) (zc rfl) rfl F7 rfl (.int .i64 k) (zib _ _ rfl (F7.get (t := 9) rfl) (M4.blk (k := 1) rfl) hk Tryz.underlying3 rfl) fun _ F8 => ?_
 clear F7
 refine zba (zc rfl) rfl F8 rfl rfl (zE Tryz.func31 rfl) #[.int .i64 k] (zta (F8.get (t := 10) rfl)) (zga (hr w4)) ?_
 rintro _ w9 a9 ⟨rfl, b9⟩ F9
 have M9 := M4.step b9
 refine zk (w' := w9) (zc rfl) rfl F9 rfl (.tuple #[.agg (zg k p (p / 2) 4), .bool true]) (run_mv _ (.inl rfl) (F9.get (t := 11) rfl)) fun _ F10 => ?_
 clear F9
 refine zk (w' := w9) (zc rfl) rfl F10 rfl (.agg (zg k p (p / 2) 4)) (y_ext _ _ rfl (F10.get (t := 5) rfl) rfl) fun _ F11 => ?_
 clear F10
 refine zk (w' := w9) (zc rfl) rfl F11 rfl (.bool true) (y_ext _ _ rfl (F11.get (t := 5) rfl) rfl) fun _ F12 => ?_
 clear F11
 refine zh (zc rfl) rfl F12 rfl M9 2 (t := 29) (c := zg 0 0 0 0) (by unfold execOp; rw [z2b]; kernel_rfl) ?_
 intro g13 a13 w13 F13 M13
 clear F12 M9
 refine zw (zc rfl) rfl F13 M13 (k := 2) rfl _ _ _ rfl (F13.get (t := 3) rfl) (F13.get (t := 12) rfl) (zg k p (p / 2) 4) _ rfl (zL rfl) (z9b _ _ _ _) (zp rfl) (by kernel_rfl) ?_
 intro w14 M14
 clear M13
 refine zk (w' := w14) (zc rfl) rfl F13 rfl (.bool true) (run_mv _ (.inr rfl) (F13.get (t := 13) rfl)) fun _ F15 => ?_
 clear F13
 refine hK3 _ _ ?_
 refine zSk fun _ hK16 => ?_
 refine zR ?_
 refine zk (w' := w14) (zc rfl) rfl F15 rfl _ (zdb _ _ rfl (F15.get (t := 3) rfl) (M14.blk (k := 2) rfl) (zg k p (p / 2) 4) (zeb rfl) Tryz.underlying29 rfl (by kernel_rfl)) fun _ F17 => ?_
 clear F15
 refine zw (zc rfl) rfl F17 M14 (k := 0) rfl _ _ _ rfl (F17.get (t := 2) rfl) (F17.get (t := 14) rfl) (zg k p (p / 2) 4) _ rfl (zL rfl) (z9b _ _ _ _) (zp rfl) (by kernel_rfl) ?_
 intro w18 M18
 clear M14
 refine hK16 _ _ ?_
 refine wp_ret ?_
 try simp only [Exit.then, Exit.inBlock]
 exact bodyPost_ret (results_cell_row rfl _ _ _ _ _ (0, 0) _ (F17.get rfl) (M18.blk (k := 0) rfl) Tryz.underlying29 rfl (by kernel_rfl)) F17.defers ⟨rfl, M18.below⟩
end Go.Proofs.YtcfepoopkfhojaaGreat
namespace Go.Proofs.YtcfepoopkfhojaaGreat
def ch : Nat → Nat → Nat
 | _, 0 => 1
 | 0, _ + 1 => 0
 | n + 1, k + 1 => ch n k + ch n (k + 1)
def chS (a n : Nat) : Nat → Nat
 | 0 => 0
 | m + 1 => chS a n m + ch n m * a ^ m
theorem ch_zero (n : Nat) : ch n 0 = 1 := by cases n <;> rfl
theorem ch_succ (n k : Nat) : ch (n + 1) (k + 1) = ch n k + ch n (k + 1) := rfl
theorem ch_far : ∀ (n k : Nat), n < k → ch n k = 0
 | 0, 0, h => by omega
 | 0, k + 1, h => rfl
 | n + 1, 0, h => by omega
 | n + 1, k + 1, h => by rw [ch_succ, ch_far n k (by omega), ch_far n (k + 1) (by omega)]
theorem chS_step (a n : Nat) : ∀ m, chS a (n + 1) (m + 1) = chS a n (m + 1) + a * chS a n m
 | 0 => by simp [chS, ch_zero]
 | m + 1 => by
  have ih := chS_step a n m
  have e1 : chS a (n + 1) (m + 1 + 1) = chS a (n + 1) (m + 1) + ch (n + 1) (m + 1) * a ^ (m + 1) := rfl
  have e2 : chS a n (m + 1 + 1) = chS a n (m + 1) + ch n (m + 1) * a ^ (m + 1) := rfl
  have e3 : chS a n (m + 1) = chS a n m + ch n m * a ^ m := rfl
  rw [e1, ih, e2, ch_succ, Nat.add_mul]
  have e4 : a * chS a n (m + 1) = a * chS a n m + ch n m * a ^ (m + 1) := by
   rw [e3, Nat.mul_add, Nat.pow_succ, Nat.mul_left_comm, Nat.mul_comm a (a ^ m)]
  rw [e4]
  omega
theorem chS_all (a : Nat) : ∀ n, chS a n (n + 1) = (a + 1) ^ n
 | 0 => by simp [chS, ch]
 | n + 1 => by
  rw [chS_step, show chS a n (n + 1 + 1) = chS a n (n + 1) + ch n (n + 1) * a ^ (n + 1) from rfl, ch_far n (n + 1) (by omega), chS_all a n, Nat.zero_mul, Nat.add_zero, Nat.pow_succ, Nat.mul_add, Nat.mul_one, Nat.mul_comm a]
  exact Nat.add_comm _ _
theorem ch_absorb : ∀ (n k : Nat), (k + 1) * ch (n + 1) (k + 1) = (n + 1) * ch n k
 | 0, 0 => rfl
 | 0, k + 1 => by simp [ch]
 | n + 1, 0 => by
  have ih := ch_absorb n 0
  simp only [Nat.zero_add, Nat.one_mul, ch_zero, Nat.mul_one] at ih ⊢
  rw [ch_succ, ch_zero, show (0 : Nat) + 1 = 1 from rfl, ih]; omega
 | n + 1, k + 1 => by
  have i1 := ch_absorb n k
  have i2 := ch_absorb n (k + 1)
  rw [ch_succ (n + 1) (k + 1), Nat.mul_add, i2, Nat.add_mul (k + 1) 1, i1, Nat.one_mul, ch_succ n k, Nat.add_mul (n + 1) 1, Nat.mul_add (n + 1)]
  omega
theorem coprime_of {p k : Nat} (hp : ∀ d, 2 ≤ d → d < p → p % d ≠ 0) (h0 : 0 < k) (hk : k < p) : Nat.Coprime p k := by
 have h1 := Nat.gcd_dvd_left p k
 have h2 := Nat.gcd_dvd_right p k
 have h3 := Nat.le_of_dvd h0 h2
 have h4 : 0 < Nat.gcd p k := Nat.gcd_pos_of_pos_right _ h0
 unfold Nat.Coprime
 refine Nat.le_antisymm (Nat.le_of_not_lt fun h => ?_) h4
 exact hp (Nat.gcd p k) h (by omega) (Nat.mod_eq_zero_of_dvd h1)
theorem chS_mod {p a : Nat} (hp : ∀ d, 2 ≤ d → d < p → p % d ≠ 0) (h2 : 2 ≤ p) : ∀ m, m < p → chS a p (m + 1) % p = 1
 | 0, _ => by simp [chS, ch_zero, Nat.mod_eq_of_lt h2]
 | m + 1, h => by
  have ih := chS_mod (a := a) hp h2 m (by omega)
  have e : chS a p (m + 1 + 1) = chS a p (m + 1) + ch p (m + 1) * a ^ (m + 1) := rfl
  have hd : p ∣ ch p (m + 1) := by
   obtain ⟨n, rfl⟩ : ∃ n, p = n + 1 := ⟨p - 1, by omega⟩
   have := ch_absorb n m
   refine Nat.Coprime.dvd_of_dvd_mul_left (coprime_of hp (Nat.succ_pos m) h) ⟨ch n m, this⟩
  rw [e, Nat.add_mod, ih, Nat.mod_eq_zero_of_dvd (Nat.dvd_mul_right_of_dvd hd _), Nat.add_zero, Nat.mod_eq_of_lt h2]
theorem fermat {p : Nat} (hp : ∀ d, 2 ≤ d → d < p → p % d ≠ 0) (h2 : 2 ≤ p) : ∀ a, a ^ p % p = a % p
 | 0 => by rw [Nat.zero_pow (by omega)]
 | a + 1 => by
  obtain ⟨n, rfl⟩ : ∃ n, p = n + 1 := ⟨p - 1, by omega⟩
  have h1 := chS_mod (a := a) hp h2 n (by omega)
  have e : chS a (n + 1) (n + 1 + 1) = chS a (n + 1) (n + 1) + ch (n + 1) (n + 1) * a ^ (n + 1) := rfl
  have h3 : ∀ m, ch m m = 1 := fun m => by
   induction m with
   | zero => rfl
   | succ m ih => rw [ch_succ, ih, ch_far m (m + 1) (by omega)]
  rw [← chS_all, e, h3, Nat.one_mul, Nat.add_mod, h1, fermat hp h2 a, Nat.add_comm, Nat.mod_add_mod]
theorem fermat1 {p : Nat} (hp : ∀ d, 2 ≤ d → d < p → p % d ≠ 0) (h2 : 2 ≤ p) {a : Nat} (ha : a % p ≠ 0) : a ^ (p - 1) % p = 1 := by
 obtain ⟨n, rfl⟩ : ∃ n, p = n + 1 := ⟨p - 1, by omega⟩
 have h := fermat hp h2 a
 have hc : Nat.Coprime (n + 1) a := by
  unfold Nat.Coprime
  rw [Nat.gcd_rec]
  exact (coprime_of hp (by omega) (Nat.mod_lt _ (by omega))).symm
 rw [Nat.add_sub_cancel]
 have h0 : 0 < a ^ n := Nat.pow_pos (Nat.pos_of_ne_zero fun e => ha (by rw [e, Nat.zero_mod]))
 have hd : (n + 1) ∣ a * (a ^ n - 1) := by
  rw [Nat.mul_sub, Nat.mul_one, Nat.mul_comm, ← Nat.pow_succ]
  exact Nat.dvd_of_mod_eq_zero (Nat.sub_mod_eq_zero_of_mod_eq h)
 have := Nat.Coprime.dvd_of_dvd_mul_left hc hd
 obtain ⟨q, hq⟩ := this
 rw [show a ^ n = 1 + (n + 1) * q by omega, Nat.add_mul_mod_self_left, Nat.mod_eq_of_lt h2]
open Classical in
theorem noDiv_of {p : Nat} (h : zbc (p : Int) = true) : 2 ≤ p ∧ ∀ d, 2 ≤ d → d < p → p % d ≠ 0 := by
 unfold zbc at h
 obtain ⟨h1, -, h2⟩ := of_decide_eq_true h
 refine ⟨by omega, fun d d1 d2 hd => ?_⟩
 have key : ∀ d : Nat, 2 ≤ d → d * d ≤ p → p % d ≠ 0 := fun d e1 e2 e3 => h2 (d : Int) (by omega) (by exact_mod_cast e2) (by exact_mod_cast e3)
 obtain ⟨e, rfl⟩ := Nat.dvd_of_mod_eq_zero hd
 have e2 : 2 ≤ e := by
  rcases e with _ | _ | e
  ·omega
  ·omega
  ·omega
 by_cases c : d ≤ e
 ·exact key d d1 (Nat.mul_le_mul_left d c) hd
 ·exact key e e2 (Nat.mul_le_mul_right e (by omega)) (Nat.mul_mod_left _ _)
theorem square_one {p : Nat} (hp : zbc (p : Int) = true) (ho : p % 2 = 1) {n : Nat} (hn : n * n % p ≠ 0) : (n * n % p) ^ (p / 2) % p = 1 := by
 obtain ⟨h2, hd⟩ := noDiv_of hp
 have h1 : n % p ≠ 0 := fun e => hn (by rw [Nat.mul_mod, e, Nat.zero_mul, Nat.zero_mod])
 rw [← Nat.pow_mod, ← Nat.pow_two, ← Nat.pow_mul, show 2 * (p / 2) = p - 1 by omega]
 exact fermat1 hd h2 h1
theorem pow_by {p q x : Nat} (h2 : 1 < p) (hx : x ^ q % p = 1) (m : Nat) : x ^ (m % q) % p = x ^ m % p := by
 have e : x ^ m = x ^ (m % q) * (x ^ q) ^ (m / q) := by rw [← Nat.pow_mul, ← Nat.pow_add, Nat.mod_add_div]
 have h1 : (x ^ q) ^ (m / q) % p = 1 := by rw [Nat.pow_mod, hx, Nat.one_pow, Nat.mod_eq_of_lt h2]
 rw [e, Nat.mul_mod, h1, Nat.mul_one, Nat.mod_mod]
end Go.Proofs.YtcfepoopkfhojaaGreat
namespace Go.Proofs.YtcfepoopkfhojaaGreat
open Go.ChangeShapes Go.WideShapes Go.ChangeAt Go.RowKit Go.Shelf
theorem pow_gcd {p x : Nat} (h2 : 1 < p) (a b : Nat) : x ^ a % p = 1 → x ^ b % p = 1 → x ^ Nat.gcd a b % p = 1 := by
 refine Nat.gcd.induction (P := fun a b => x ^ a % p = 1 → x ^ b % p = 1 → x ^ Nat.gcd a b % p = 1) a b (fun n h1 h3 => ?_) fun m n hm ih h1 h3 => ?_
 ·rw [Nat.gcd_zero_left]; exact h3
 ·rw [Nat.gcd_rec]
  exact ih (by rw [pow_by h2 h1]; exact h3) h1
theorem gcd_one {q e : Nat} (hq : zbc (q : Int) = true) (h0 : 0 < e) (h1 : e < q) : Nat.gcd e q = 1 := by
 obtain ⟨h2, hd⟩ := noDiv_of hq
 have hg0 : 0 < Nat.gcd e q := Nat.gcd_pos_of_pos_left _ h0
 have hle : Nat.gcd e q ≤ e := Nat.gcd_le_left _ h0
 have hdv := Nat.gcd_dvd_right e q
 exact Classical.byContradiction fun hne => hd (Nat.gcd e q) (by omega) (by omega) (Nat.mod_eq_zero_of_dvd hdv)
theorem has_pow {k : Int} {p e : Nat} (hg : GOk k p) (h0 : 0 < e) (h1 : e < p / 2) : hasB (4 ^ e % p) p (p / 2) = true := by
 obtain ⟨-, -, po, p1, p2, pp, pq⟩ := hg
 have hp1 : 1 < p := by omega
 have h4 : 4 ^ (p / 2) % p = 1 := by
  have := square_one pp po (n := 2) (by rw [show 2 * 2 = 4 from rfl, Nat.mod_eq_of_lt (show 4 < p by omega)]; decide)
  rw [show 2 * 2 = 4 from rfl, Nat.mod_eq_of_lt (show 4 < p by omega)] at this
  exact this
 have hq : (4 ^ e % p) ^ (p / 2) % p = 1 := by
  rw [← Nat.pow_mod, ← Nat.pow_mul, Nat.mul_comm, Nat.pow_mul, Nat.pow_mod, h4, Nat.one_pow, Nat.mod_eq_of_lt hp1]
 have hlt : 4 ^ e % p < p := Nat.mod_lt _ (by omega)
 have hn0 : 4 ^ e % p ≠ 0 := fun h => by
  rw [h, Nat.zero_pow (by omega), Nat.zero_mod] at hq; cases hq
 have hn1 : 4 ^ e % p ≠ 1 := fun h => by
  have := pow_gcd hp1 e (p / 2) h h4
  rw [gcd_one pq h0 h1, Nat.pow_one, Nat.mod_eq_of_lt (show 4 < p by omega)] at this
  cases this
 unfold hasB
 exact decide_eq_true ⟨by omega, hlt, hq⟩
theorem base_is {p C G : Nat} (hC : C < p) (hG : G < p) : ((C + G) % p + (p - C)) % p = G := by
 by_cases h : C + G < p
 ·rw [Nat.mod_eq_of_lt h, show C + G + (p - C) = G + p by omega, Nat.add_mod_right, Nat.mod_eq_of_lt hG]
 ·rw [Nat.mod_eq_sub_mod (a := C + G) (show C + G ≥ p by omega), Nat.mod_eq_of_lt (show C + G - p < p by omega), show C + G - p + (p - C) = G by omega, Nat.mod_eq_of_lt hG]
theorem key_is {p q a b x u : Nat} (hp : 1 < p) (h4 : 4 ^ q % p = 1) : (4 ^ b % p) ^ ((a + u * x % q) % q) % p = (4 ^ a % p * ((4 ^ x % p) ^ u % p) % p) ^ b % p := by
 have hb : (4 ^ b % p) ^ q % p = 1 := by
  rw [← Nat.pow_mod, ← Nat.pow_mul, Nat.mul_comm, Nat.pow_mul, Nat.pow_mod, h4, Nat.one_pow, Nat.mod_eq_of_lt hp]
 rw [pow_by hp hb, Nat.pow_add, Nat.mul_mod, pow_by hp hb, ← Nat.mul_mod, ← Nat.pow_add, ← Nat.pow_mod, ← Nat.pow_mul]
 rw [← Nat.pow_mod (4 ^ x), ← Nat.mul_mod, ← Nat.pow_mod, ← Nat.pow_mul, ← Nat.pow_add, ← Nat.pow_mul, Nat.mul_comm b, Nat.mul_comm u]
theorem srp_meet {k : Int} {p : Nat} (hg : GOk k p) (t : ByteArray) (lp ls : List UInt8) {oa ob : Nat} (hb0 : 0 < ob) (hb1 : ob < p / 2) (hk : offOk p (p / 2) 4 (4 ^ secN (p / 2) (sBy t) lp ls % p) (4 ^ oa % p) ob = true) :
  prvOk ⟨k, p, p / 2, 4, t, lp, 4 ^ oa % p, 0, oa, [], 0, fun _ => 0, fun _ => 0⟩ ls (offB p (p / 2) 4 (4 ^ secN (p / 2) (sBy t) lp ls % p) ob) = true ∧ prvN ⟨k, p, p / 2, 4, t, lp, 4 ^ oa % p, 0, oa, [], 0, fun _ => 0, fun _ => 0⟩ ls (offB p (p / 2) 4 (4 ^ secN (p / 2) (sBy t) lp ls % p) ob) = offN p (p / 2) 4 (4 ^ secN (p / 2) (sBy t) lp ls % p) (4 ^ oa % p) ob := by
 obtain ⟨X, hX⟩ : ∃ X, secN (p / 2) (sBy t) lp ls = X := ⟨_, rfl⟩
 have hP0 : 0 < p := by have := hg.2.2.2.1; omega
 have hp1 : 1 < p := by have := hg.2.2.2.1; omega
 have h4 : 4 ^ (p / 2) % p = 1 := by
  obtain ⟨-, -, po, p1, p2, pp, pq⟩ := hg
  have := square_one pp po (n := 2) (by rw [show 2 * 2 = 4 from rfl, Nat.mod_eq_of_lt (show 4 < p by omega)]; decide)
  rw [show 2 * 2 = 4 from rfl, Nat.mod_eq_of_lt (show 4 < p by omega)] at this
  exact this
 rw [hX] at hk ⊢
 obtain ⟨B, hB⟩ : ∃ B, offB p (p / 2) 4 (4 ^ X % p) ob = B := ⟨_, rfl⟩
 obtain ⟨C, hC⟩ : ∃ C, kN (p / 2) * (4 ^ X % p) % p = C := ⟨_, rfl⟩
 obtain ⟨G, hG⟩ : ∃ G, 4 ^ ob % p = G := ⟨_, rfl⟩
 have hCl : C < p := by rw [← hC]; exact Nat.mod_lt _ hP0
 have hGl : G < p := by rw [← hG]; exact Nat.mod_lt _ hP0
 have eB : (C + G) % p = B := by
  rw [← hB]; unfold offB; rw [hC, hG]
 have hBl : B < p := by rw [← eB]; exact Nat.mod_lt _ hP0
 have hBn : ¬ B = 0 := fun h => by
  unfold offOk at hk
  rw [hB, h] at hk
  simp at hk
 have eb : prvB p (p / 2) 4 X B = G := by
  unfold prvB
  rw [hC, ← eB]
  exact base_is hCl hGl
 rw [hB]
 have hs : prvX ⟨k, p, p / 2, 4, t, lp, 4 ^ oa % p, 0, oa, [], 0, fun _ => 0, fun _ => 0⟩ ls = X := hX
 refine ⟨?_, ?_⟩
 ·unfold prvOk
  dsimp only
  rw [hs, eb, ← hG, has_pow hg hb0 hb1, decide_eq_false hBn, decide_eq_true hBl]
  rfl
 ·unfold prvN offN
  dsimp only
  rw [hs, eb, hB, ← hG]
  exact key_is hp1 h4
end Go.Proofs.YtcfepoopkfhojaaGreat
namespace Go.Proofs.YtcfepoopkfhojaaGreat
open Go.ChangeShapes Go.WideShapes Go.ChangeAt Go.RowKit
theorem run_lenT7 {a : Act} {w : World} {o : Oper} (T : TypeId) (hu : Tryz.prog.underlying T = some (.slice (Tryz.prog.elem T))) (x : Operand) (ho : o.op = .call { callee := .builtin .len, args := #[x], argTypes := #[T] }) {A : Option Addr} {n c : Nat} (hx : a.eval x = .slice A n c) : (execOp a.eval o).run Tryz.prog w = .ok (.value (.int .i64 (n : Int))) w := y_lnG T hu x ho hx rfl
theorem y_ixP7 {a : Act} {w : World} {o : Oper} {A : Option Addr} {c : Nat} {L : List (List UInt8)} (y k : Operand) (ho : o.op = .indexAddr 54 y k) (hx : a.eval y = .slice A L.length c) (hB : IsP w L (.slice A L.length c)) {z : Int} {i : Nat} (hk : a.eval k = .int .i64 z) (hz : z = (i : Int)) (hi : i < L.length) : (execOp a.eval o).run Tryz.prog w = .ok (.value (ixV (.slice A L.length c) i)) w := by
 subst hz
 obtain ⟨A', c', e, h1, h2, h3⟩ := hB
 injection e with e1 e2 e3
 subst e1 e3
 obtain ⟨b, q, rfl, hb, hc⟩ := h3 (by omega)
 unfold execOp
 simp only [ho, hx, hk]
 have h0 : ¬ ((i : Int) < 0) := by omega
 have h5 : (i : Int) < (L.length : Int) := by omega
 simp [go_sem, h0, h5, hi, ixV, zsa]
theorem part_ld7 {w : World} {A : Option Addr} {c : Nat} {L : List (List UInt8)} {l : List UInt8} (hB : IsP w L (.slice A L.length c)) {i : Nat} (hl : L[i]? = some l) :
  ∃ B d, IsB w l (.slice B l.length d) ∧ ∀ (a : Act) (o : Oper) (y : Operand), o.op = .load 22 y → a.eval y = ixV (.slice A L.length c) i → (execOp a.eval o).run Tryz.prog w = .ok (.value (.slice B l.length d)) w := by
 obtain ⟨A', c', e, h1, h2, h3⟩ := hB
 injection e with e1 e2 e3
 subst e1 e3
 have hi : i < L.length := (List.getElem?_eq_some_iff.1 hl).1
 obtain ⟨b, q, rfl, hb, hc⟩ := h3 (by omega)
 obtain ⟨B, d, hcell, q2, q3, q4, q5⟩ := hc i l hl
 refine ⟨B, d, ⟨B, d, rfl, q2, q3, q4, q5⟩, fun a o y ho hx => ?_⟩
 have hx' : a.eval y = .pointer (some ⟨b, q + i, none⟩) := by rw [hx]; simp [ixV, zsa]
 have h6 : (isAgg 22).run Tryz.prog w = .ok false w := by
  unfold isAgg
  simp only [Sem.run_bind, run_underlying Tryz.underlying22, Result.andThen_ok]
  rfl
 unfold execOp
 simp only [ho, hx', Instr.loadAt, Instr.sureAddr, loadVar, Sem.run_bind, Sem.run_pure, Result.andThen_ok, h6, Bool.false_eq_true, if_false]
 simp [hcell, Result.andThen]
def shortB (L : List (List UInt8)) : Bool := L.all fun l => decide (l.length ≤ 64)
theorem short_any (L : List (List UInt8)) (u : Value) (w : World) (hu : IsP w L u) :
  Calls Tryz.prog 10 #[u] w fun e w' => e = .returned (.bool (shortB L)) ∧ Below w.heap.size w w' := by
 obtain ⟨A0, c0, rfl, hc1, hc2, hP⟩ := id hu
 have hLm : L.length ≤ 9223372036854775807 := by
  have := hc2
  unfold maxLen at this
  omega
 refine zea (args := [.slice A0 L.length c0]) 16 Tryz.func10 rfl rfl rfl ?_
 intro fa F
 have M := Mx.start w
 refine zSk fun _ hK1 => ?_
 refine zR ?_
 refine rm rfl F fun _ F2 => ?_
 refine hK1 _ _ ?_
 refine zSk fun _ hK3 => ?_
 refine zSk fun _ hK4 => ?_
 refine zR ?_
 refine rm rfl F2 fun _ F5 => ?_
 refine hK4 _ _ ?_
 refine wp_block ?_
 refine loop_fx (α := Nat) (n := 16) (G := none) (w0 := w) (fun x => [(0, .slice A0 L.length c0), (3, .int .i64 (x : Int))]) (fun x => []) (fun k x => k = (L.length - x) ∧ (x ≤ L.length ∧ ∀ (j : Nat) (l : List UInt8), j < x → L[j]? = some l → l.length ≤ 64)) _ 0 ⟨rfl, ⟨Nat.zero_le _, fun j l h => absurd h (Nat.not_lt_zero j)⟩⟩ (F5.sub ⟨rfl, rfl, trivial⟩) (M.sub trivial) ?_
 clear F5 M
 rintro k6 jn a6 w6 K6 ⟨ek6, I6⟩ F6 M6 hK6
 replace F6 : Fx 16 a6 [(0, .slice A0 L.length c0), (3, .int .i64 (jn : Int))] := F6
 replace M6 : Mx _ _ w6 [] := M6
 replace I6 : jn ≤ L.length ∧ ∀ (j : Nat) (l : List UInt8), j < jn → L[j]? = some l → l.length ≤ 64 := I6
 replace ek6 : k6 = (L.length - jn) := ek6
 obtain ⟨hj, hk2⟩ := I6
 refine zSk fun _ hK7 => ?_
 refine zSk fun _ hK8 => ?_
 refine zR ?_
 refine rm rfl F6 fun _ F9 => ?_
 refine rm rfl F9 fun _ F10 => ?_
 refine zk (w' := w6) (zc rfl) rfl F10 rfl (.int .i64 (L.length : Int)) (run_lenT7 54 Tryz.underlying54 _ rfl (F10.get (t := 5) rfl)) fun _ F11 => ?_
 clear F10
 by_cases h12 : (jn : Int) < (L.length : Int)
 ·have hlt : jn < L.length := by omega
  obtain ⟨l1, hl1⟩ : ∃ l, L[jn]? = some l := ⟨_, List.getElem?_eq_getElem hlt⟩
  obtain ⟨B1, d1, hB1, hld⟩ := part_ld7 (hu.step M6.below) hl1
  refine zk (w' := w6) (zc rfl) rfl F11 rfl (.bool true) (y_lss _ _ _ _ rfl (F11.get (t := 4) rfl) (F11.get (t := 6) rfl) (decide_eq_true h12)) fun _ F13 => ?_
  clear F11
  refine hK8 _ _ ?_
  refine wp_cond_true (F13.get (t := 7) rfl) ?_
  refine wp_skip ?_
  refine hK7 _ _ ?_
  refine zSk fun _ hK14 => ?_
  refine wp_block ?_
  refine zSk fun _ hK15 => ?_
  refine zR ?_
  refine rm rfl F13 fun _ F16 => ?_
  refine rm rfl F16 fun _ F17 => ?_
  refine zk (w' := w6) (zc rfl) rfl F17 rfl (ixV (.slice A0 L.length c0) jn) (y_ixP7 _ _ rfl (F17.get (t := 10) rfl) (hu.step M6.below) (F17.get (t := 11) rfl) rfl hlt) fun _ F18 => ?_
  clear F17
  refine zk (w' := w6) (zc rfl) rfl F18 rfl (.slice B1 l1.length d1) (hld _ _ _ rfl (F18.get (t := 12) rfl)) fun _ F19 => ?_
  clear F18
  refine zk (w' := w6) (zc rfl) rfl F19 rfl (.int .i64 (l1.length : Int)) (y_len _ rfl (F19.get (t := 13) rfl) hB1 rfl) fun _ F20 => ?_
  clear F19
  by_cases h21 : 64 < (l1.length : Int)
  ·have hno : shortB L = false := by
    cases e : shortB L with
    | false => rfl
    | true =>
     have := of_decide_eq_true (List.all_eq_true.1 e l1 (List.mem_of_getElem? hl1))
     omega
   refine zk (w' := w6) (zc rfl) rfl F20 rfl (.bool true) (y_gtr _ _ _ _ rfl (F20.get (t := 14) rfl) rfl (decide_eq_true h21)) fun _ F22 => ?_
   clear F20
   refine hK15 _ _ ?_
   refine wp_cond_true (F22.get (t := 15) rfl) ?_
   refine zSk fun _ hK23 => ?_
   refine zR ?_
   refine rm rfl F22 fun _ F24 => ?_
   refine hK23 _ _ ?_
   refine wp_ret ?_
   try simp only [Exit.then, Exit.inBlock, Exit.jump]
   exact bodyPost_ret (res1 rfl (F24.get rfl)) F24.defers ⟨by rw [hno], M6.below⟩
  ·have hl64 : l1.length ≤ 64 := by omega
   refine zk (w' := w6) (zc rfl) rfl F20 rfl (.bool false) (y_gtr _ _ _ _ rfl (F20.get (t := 14) rfl) rfl (decide_eq_false h21)) fun _ F25 => ?_
   clear F20
   refine hK15 _ _ ?_
   refine wp_cond_false (F25.get (t := 15) rfl) ?_
   refine wp_skip ?_
   refine hK14 _ _ ?_
   refine zR ?_
   refine rm rfl F25 fun _ F26 => ?_
   refine zk (w' := w6) (zc rfl) rfl F26 rfl (.int .i64 ((jn + 1 : Nat) : Int)) (y_addI _ _ _ _ rfl (F26.get (t := 8) rfl) rfl (by omega) (by omega)) fun _ F27 => ?_
   clear F26
   refine rm rfl F27 fun _ F28 => ?_
   subst ek6
   exact hK6 _ (jn + 1) _ _ (by omega) ⟨rfl, ⟨by omega, fun j l hj2 hl => by
     by_cases e : j = jn
     ·subst e; rw [hl1] at hl; rw [← Option.some.inj hl]; exact hl64
     ·exact hk2 j l (by omega) hl⟩⟩ (F28.sub ⟨rfl, rfl, trivial⟩) (M6.sub trivial)
 ·have hall : shortB L = true := List.all_eq_true.2 fun l hl => by
   obtain ⟨j, hj, e⟩ := List.getElem_of_mem hl
   exact decide_eq_true (hk2 j l (by omega) (by rw [List.getElem?_eq_getElem hj, e]))
  refine zk (w' := w6) (zc rfl) rfl F11 rfl (.bool false) (y_lss _ _ _ _ rfl (F11.get (t := 4) rfl) (F11.get (t := 6) rfl) (decide_eq_false h12)) fun _ F29 => ?_
  clear F11
  refine hK8 _ _ ?_
  refine wp_cond_false (F29.get (t := 7) rfl) ?_
  refine wp_exit ?_
  simp only [Exit.then, Exit.inBlock, ↓reduceIte, Nat.reduceEqDiff]
  refine hK3 _ _ ?_
  refine zSk fun _ hK30 => ?_
  refine zR ?_
  refine rm rfl F29 fun _ F31 => ?_
  refine hK30 _ _ ?_
  refine wp_ret ?_
  try simp only [Exit.then, Exit.inBlock, Exit.jump]
  exact bodyPost_ret (res1 rfl (F31.get rfl)) F31.defers ⟨by rw [hall], M6.below⟩
end Go.Proofs.YtcfepoopkfhojaaGreat
namespace Go.Proofs.YtcfepoopkfhojaaGreat
open Go.ChangeShapes Go.WideShapes Go.ChangeAt Go.RowKit Go.Shelf
theorem ok_if {w : World} {p : Prop} [Decidable p] {b : Bool} : (if p then (Result.ok b w : Result Bool) else Result.ok false w) = Result.ok (decide p && b) w := by
 split <;> simp_all
theorem eq16_gen {y z : Nat → Int} (hy : ∀ k, 0 ≤ y k ∧ y k < 256) (hz : ∀ k, 0 ≤ z k ∧ z k < 256) (w : World) : (Op.equalIn 10000 35 (.agg (zi y)) (.agg (zi z))).run Tryz.prog w = .ok (decide (sumY y = sumY z)) w := by
 have hs : sumY y = sumY z ↔ (y 0 = z 0 ∧ y 1 = z 1 ∧ y 2 = z 2 ∧ y 3 = z 3 ∧ y 4 = z 4 ∧ y 5 = z 5 ∧ y 6 = z 6 ∧ y 7 = z 7 ∧ y 8 = z 8 ∧ y 9 = z 9 ∧ y 10 = z 10 ∧ y 11 = z 11 ∧ y 12 = z 12 ∧ y 13 = z 13 ∧ y 14 = z 14 ∧ y 15 = z 15) := by
  constructor
  ·intro h
   have e : zi y = zi z := by rw [← sumY_bvs hy, h, sumY_bvs hz]
   simpa [zi] using e
  ·rintro ⟨h0, h1, h2, h3, h4, h5, h6, h7, h8, h9, h10, h11, h12, h13, h14, h15⟩
   simp [sumY, List.range, List.range.loop, h0, h1, h2, h3, h4, h5, h6, h7, h8, h9, h10, h11, h12, h13, h14, h15]
 rw [Op.equalIn]
 simp only [Sem.run_bind, run_underlying Tryz.underlying35, Result.andThen_ok, sizeOf_u8]
 simp only [Std.Legacy.Range.forIn_eq_forIn_range', Std.Legacy.Range.size, List.range']
 simp [part, zi, eq_u8, ok_if]
 rw [Bool.eq_iff_iff]
 simp [hs]
theorem run_eq16b {a : Act} {w : World} {o : Oper} (x y : Operand) (ho : o.op = .binOp .eql 35 x y 35) {u v : Nat → Int} (hx : a.eval x = .agg (zi u)) (hy : a.eval y = .agg (zi v)) (hu : ∀ k, 0 ≤ u k ∧ u k < 256) (hv : ∀ k, 0 ≤ v k ∧ v k < 256) {q : Bool} (hq : decide (sumY u = sumY v) = q) : (execOp a.eval o).run Tryz.prog w = .ok (.value (.bool q)) w := by
 unfold execOp
 simp only [ho, hx, hy]
 simp [go_sem, eq16_gen hu hv, hq]
theorem short_mem {L : List (List UInt8)} {l : List UInt8} (h : shortB L = true) (hl : l ∈ L) : l.length ≤ 64 := of_decide_eq_true (List.all_eq_true.1 h l hl)
theorem shareN_ok {x : SideN} {n : Nat} : SideOk (zpa x n) := ⟨zrb _, zrb _⟩
theorem shareN_eq {x z : SideN} {n : Nat} (h1 : x.s = z.s) (h2 : x.ls = z.ls) (h3 : x.A = z.A) (h4 : x.B = z.B) : (zpa x n).Ky = (zpa z n).Ky ∧ (zpa x n).Pr = (zpa z n).Pr := by
 have e : shL x 2 = shL z 2 := by unfold shL; rw [h1, h2, h3, h4]
 unfold zpa
 dsimp only
 rw [e]
 exact ⟨rfl, rfl⟩
theorem srp_sides {k : Int} {p : Nat} (hg : GOk k p) (t : ByteArray) (lp ls : List UInt8) {oa ob V A B : Nat} {C S : SideN} (hb0 : 1 ≤ ob) (hb1 : ob < p / 2) (hV : 4 ^ secN (p / 2) (sBy t) lp ls % p = V) (hA : 4 ^ oa % p = A) (hC : ⟨k, p, p / 2, 4, t, lp, 4 ^ oa % p, 0, oa, [], 0, fun _ => 0, fun _ => 0⟩ = C) (hk : offOk p (p / 2) 4 V A ob = true) (hB : offB p (p / 2) 4 V ob = B) (hS : zpa (offS k p (p / 2) 4 t ls V A ob) (offN p (p / 2) 4 V A ob) = S) :
  prvOk C ls B = true ∧ (zpa (prvS C ls B) (prvN C ls B)).Ky = S.Ky ∧ (zpa (prvS C ls B) (prvN C ls B)).Pr = S.Pr := by
 subst hV hA hC hB hS
 obtain ⟨e1, e2⟩ := srp_meet hg t lp ls hb0 hb1 hk
 refine ⟨e1, ?_⟩
 rw [e2]
 exact shareN_eq rfl rfl rfl rfl
theorem scheck_y (x : SideN) (y : SideV) (ho : SideOk x) (l : List UInt8) (v : Value) (hq : sumY x.Pr = l) (w : World) (hx : SideIs w x y) (hb : IsB w l v) : Calls Tryz.prog 17 #[.agg (zl x y), v] w fun e w' => e = .returned (.tuple #[.agg (zi (ansY x.Ky x.Pr)), .bool true]) ∧ Below w.heap.size w w' := by
 have h := check_any x y ho l v true (decide_eq_true hq) w hx hb
 simpa only [cond_true] using h
theorem sroffer_is (k : Int) (P Q g : Nat) (h1 : 1 < P) (hP : P < 2147483648) (h2 : 2 < Q) (hQ5 : Q < 4294967296) (hg : g < 4294967296 ^ 8) (r : RecN) (hr : r.a < 4294967296 ^ 8) (hs : r.s.size ≤ 200) (hrl : r.l2.length ≤ 200) (a : Nat) (ha : a < 4294967296 ^ 8) (ld : List UInt8) (hdl : ld.length ≤ 200) {ok : Bool} {X : SideN} {B : Nat} (hk : offOk P Q g r.a a (texN Q [98] [ld]) = ok) (hX : cond ok (zpa (offS k P Q g r.s r.l2 r.a a (texN Q [98] [ld])) (offN P Q g r.a a (texN Q [98] [ld]))) zeroS = X) (hB : cond ok (offB P Q g r.a (texN Q [98] [ld])) 0 = B) (w : World) (V : RecV) (vd : Value) (hm : RecIs w r V) (hd : IsB w ld vd) :
  Calls Tryz.prog 15 #[.agg (zg k P Q g), .agg (recA r V), numV a, vd] w fun e w' => ∃ v, e = .returned v ∧ ∃ y : SideV, v = .tuple #[.agg (zl X y), numV B, .bool ok] ∧ SShp y ∧ Below w.heap.size w w' := by
 have h := roffer7_any k P Q g h1 hP h2 hQ5 hg r V hr hs hrl a ha ld hdl vd w hm hd
 rw [hk, hX, hB] at h
 exact h.mono fun e w' ⟨y, h1, h2, h3⟩ => ⟨_, h1, y, rfl, h2, h3⟩
end Go.Proofs.YtcfepoopkfhojaaGreat
namespace Go.Proofs.YtcfepoopkfhojaaGreat
def kX : Nat := secN 16301 [117] [112] [115]
def kV : Nat := 4 ^ kX % 32603
def kA : Nat := texN 16301 [97] [[49]]
def kB : Nat := texN 16301 [98] [[50]]
def kAA : Nat := 4 ^ kA % 32603
def kBB : Nat := (kN 16301 * kV % 32603 + 4 ^ kB % 32603) % 32603
def kU : Nat := uN 16301 kAA kBB
end Go.Proofs.YtcfepoopkfhojaaGreat
namespace Go.Proofs.YtcfepoopkfhojaaGreat
open Go.ChangeShapes Go.WideShapes Go.ChangeAt Go.RowKit
theorem kn_off : offOk 32603 16301 4 kV kAA kB = true := by decide +kernel
def kC : SideN := ⟨15, 32603, 16301, 4, { data := #[117] }, [112], kAA, 0, kA, [], 0, fun _ => 0, fun _ => 0⟩
theorem kn_prv : prvOk kC [115] (offB 32603 16301 4 kV kB) = true := by decide +kernel
theorem kn_num : offN 32603 16301 4 kV kAA kB = prvN kC [115] (offB 32603 16301 4 kV kB) := by decide +kernel
noncomputable def kS : SideN := zpa (offS 15 32603 16301 4 { data := #[117] } [115] kV kAA kB) (offN 32603 16301 4 kV kAA kB)
noncomputable def kD : SideN := zpa (prvS kC [115] (offB 32603 16301 4 kV kB)) (prvN kC [115] (offB 32603 16301 4 kV kB))
theorem kn_Ky : kD.Ky = kS.Ky := by
 unfold kD kS zpa
 rw [kn_num]
theorem kn_Pr : kD.Pr = kS.Pr := by
 unfold kD kS zpa
 rw [kn_num]; rfl
theorem kn_ok : SideOk kS ∧ SideOk kD := ⟨⟨zrb _, zrb _⟩, ⟨zrb _, zrb _⟩⟩
end Go.Proofs.YtcfepoopkfhojaaGreat
