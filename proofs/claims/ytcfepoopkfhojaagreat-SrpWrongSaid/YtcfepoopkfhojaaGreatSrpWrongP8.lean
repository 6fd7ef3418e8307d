/- What SrpWrong stands on, part 8. -/
import Derived.Test.YtcfepoopkfhojaaGreatSrpWrongP1
import Derived.Test.YtcfepoopkfhojaaGreatSrpWrongP2
import Derived.Test.YtcfepoopkfhojaaGreatSrpWrongP3
import Derived.Test.YtcfepoopkfhojaaGreatSrpWrongP4
import Derived.Test.YtcfepoopkfhojaaGreatSrpWrongP5
import Derived.Test.YtcfepoopkfhojaaGreatSrpWrongP6
import Derived.Test.YtcfepoopkfhojaaGreatSrpWrongP7
set_option maxRecDepth 100000
set_option maxHeartbeats 8000000
set_option linter.unusedVariables false
set_option linter.unusedSimpArgs false
namespace Go.Proofs.YtcfepoopkfhojaaGreat
open Go.ChangeShapes Go.WideShapes Go.ChangeAt Go.RowKit
def pickN (y : Int) (a b : Nat) : Nat := if y = 0 then b else a
theorem mask_one (y : Int) (h0 : 0 < y) (h1 : y < 4294967296) : bits .or .u32 y (-y % 4294967296) / 2147483648 = 1 := by
 obtain ⟨y, rfl⟩ := Int.eq_ofNat_of_zero_le (Int.le_of_lt h0)
 have e : -(y : Int) % 4294967296 = ((4294967296 - y : Nat) : Int) := by omega
 rw [e, u32_or_nat _ _ (by omega) (by omega)]
 have h := Nat.or_div_two_pow (a := y) (b := 4294967296 - y) (n := 31)
 have h2 : (y ||| (4294967296 - y)) / 2147483648 = y / 2147483648 ||| (4294967296 - y) / 2147483648 := h
 have h3 : (y / 2147483648 = 0 ∧ (4294967296 - y) / 2147483648 = 1) ∨ (y / 2147483648 = 1 ∧ (4294967296 - y) / 2147483648 = 1) ∨ (y / 2147483648 = 1 ∧ (4294967296 - y) / 2147483648 = 0) := by omega
 have h4 : (y ||| (4294967296 - y)) / 2147483648 = 1 := by
  rw [h2]
  rcases h3 with ⟨a, b⟩ | ⟨a, b⟩ | ⟨a, b⟩ <;> rw [a, b] <;> rfl
 omega
theorem and_all (x : Int) (h0 : 0 ≤ x) (h1 : x < 4294967296) : bits .and .u32 x 4294967295 = x := by
 rw [u32_and _ _ h0 h1 (by omega) (by omega)]
 have : x.toNat &&& (4294967295 : Int).toNat = x.toNat % 2 ^ 32 := Nat.and_two_pow_sub_one_eq_mod x.toNat 32
 rw [this]; omega
theorem and_none (x : Int) (h0 : 0 ≤ x) (h1 : x < 4294967296) : bits .and .u32 x 0 = 0 := by
 rw [u32_and _ _ h0 h1 (by omega) (by omega)]; simp
theorem not_all (x : Int) (h0 : 0 ≤ x) (h1 : x < 4294967296) : bits .andNot .u32 x 4294967295 = 0 := by
 rw [u32_andNot _ _ h0 h1 (by omega) (by omega)]; simp
theorem not_none (x : Int) (h0 : 0 ≤ x) (h1 : x < 4294967296) : bits .andNot .u32 x 0 = x := by
 rw [u32_andNot _ _ h0 h1 (by omega) (by omega)]
 have : x.toNat &&& (4294967295 - (0 : Int).toNat) = x.toNat % 2 ^ 32 := Nat.and_two_pow_sub_one_eq_mod x.toNat 32
 rw [this]; omega
theorem or_none (x : Int) (h0 : 0 ≤ x) (h1 : x < 4294967296) : bits .or .u32 x 0 = x ∧ bits .or .u32 0 x = x := by
 rw [u32_or _ _ h0 h1 (by omega) (by omega), u32_or _ _ (by omega) (by omega) h0 h1]; simp; omega
def mixF (r a k j : Nat) : Value := if j < k then numF r j else numF a j
theorem mix_set (r a k j : Nat) : (if j = k then numF r k else mixF r a k j) = mixF r a (k + 1) j := by
 unfold mixF
 by_cases h : j = k
 ·subst h; rw [if_pos rfl, if_pos (by omega)]
 ·rw [if_neg h]
  by_cases h2 : j < k
  ·rw [if_pos h2, if_pos (by omega)]
  ·rw [if_neg h2, if_neg (by omega)]
theorem pick_any (y : Int) (h0 : 0 ≤ y) (h1 : y < 4294967296) (a b : Nat) (w : World) :
  Calls Tryz.prog 101 #[.int .u32 y, numV a, numV b] w fun e w' => e = .returned (numV (pickN y a b)) ∧ Below w.heap.size w w' := by
 have hr : y = 0 ∧ pickN y a b = b ∨ 0 < y ∧ pickN y a b = a := by
  unfold pickN
  by_cases h : y = 0
  ·exact .inl ⟨h, if_pos h⟩
  ·exact .inr ⟨by omega, if_neg h⟩
 rcases hr with ⟨rfl, hr⟩ | ⟨hy, hr⟩
 ·rw [hr]
  clear hr
  have hm : bits .or .u32 0 0 = 0 := by decide +kernel
  go_enter Tryz.func101, Tryz.ntmps101
  go_wp2
  have g0 := ((Num.new w 27 a).alloc (.cells (numA b) 27)).alloc (.cells #[Value.int .u32 0, .int .u32 0, .int .u32 0, .int .u32 0, .int .u32 0, .int .u32 0, .int .u32 0, .int .u32 0] 27)
  have g1 := (Num.new (w.alloc (.cells (numA a) 27)) 27 b).alloc (.cells #[Value.int .u32 0, .int .u32 0, .int .u32 0, .int .u32 0, .int .u32 0, .int .u32 0, .int .u32 0, .int .u32 0] 27)
  have g2 := heap_alloc_new ((w.alloc (.cells (numA a) 27)).alloc (.cells (numA b) 27)) (.cells #[Value.int .u32 0, .int .u32 0, .int .u32 0, .int .u32 0, .int .u32 0, .int .u32 0, .int .u32 0, .int .u32 0] 27)
  simp only [World.size_alloc] at g1 g2
  have gb : Below w.heap.size w (((w.alloc (.cells (numA a) 27)).alloc (.cells (numA b) 27)).alloc (.cells #[Value.int .u32 0, .int .u32 0, .int .u32 0, .int .u32 0, .int .u32 0, .int .u32 0, .int .u32 0, .int .u32 0] 27)) := (((Below.refl _ _).alloc (Nat.le_refl _) _).alloc (by simp) _).alloc (by simp; omega) _
  have gs : w.heap.size + 2 < (((w.alloc (.cells (numA a) 27)).alloc (.cells (numA b) 27)).alloc (.cells #[Value.int .u32 0, .int .u32 0, .int .u32 0, .int .u32 0, .int .u32 0, .int .u32 0, .int .u32 0, .int .u32 0] 27)).heap.size := by simp
  generalize hW : World.alloc _ _ = W at *
  clear hW
  go_loopw [15] (fun i wr => ∃ k : Nat, k ≤ 8 ∧ i = .int .i64 k ∧ wr.rowIs w.heap.size 27 8 (mixF b a k) ∧ W.grownBy wr (some w.heap.size)) (fun i _ => 8 - (intOf i).toNat)
  case atStart => exact ⟨0, by omega, rfl, g0.row.congr fun j _ => by unfold mixF; rw [if_neg (by omega)], World.grownBy.refl _ _⟩
  case round =>
   obtain ⟨k, hk, rfl, hr, hg⟩ := hrel
   by_cases hlt : k < 8
   ·have hc0 := hr.cell hlt
    have hc1 := hg.cell (g1.cell hlt) (by simp)
    have hz := hr.frozen k
    unfold mixF numF at hc0
    rw [if_neg (by omega)] at hc0
    have ha0 := zka a k
    have ha1 := zla a k
    have hb0 := zka b k
    have hb1 := zla b k
    have f1 := and_none (digI a k) ha0 ha1
    have f2 := not_none (digI b k) hb0 hb1
    have f3 := (or_none (digI b k) hb0 hb1).2
    go_wp2
    go_still_tail 13, (by kernel_rfl)
    change wpList _ _ _ _ _ (World.drew _)
    go_wp2
    go_roundw
    case rel => exact ⟨k + 1, by omega, by go_num, (hr.set k _).congr fun j _ => mix_set b a k j, only_drewN (zsa hg rfl _) 1⟩
    case measure => simp [intOf] <;> omega
   ·obtain rfl : k = 8 := by omega
    have m0 : Num wr w.heap.size 27 b := zlb hr fun j hj => by unfold mixF; rw [if_pos hj]
    have m2 := (hg.block _ (by omega) (by simp <;> omega)).trans g2
    have m3 := zf gb hg (by omega) (by omega)
    have m4 := hg.size
    go_wp2_with (first | (refine ze rfl _ _ rfl _ rfl _ _ _ m0 Tryz.underlying27 rfl zd ?_) | (refine zl rfl _ _ _ rfl _ rfl _ rfl _ rfl m2 zd ?_; intro w5 g5 m5))
    exact bodyPost_ret (z6a rfl rfl m5 Tryz.underlying27 rfl zd) rfl ⟨rfl, zf m3 g5 (by omega) (by omega)⟩
 ·rw [hr]
  clear hr
  have hm := mask_one y hy h1
  go_enter Tryz.func101, Tryz.ntmps101
  go_wp2
  clear hm
  rw [show (-1 : Int) % 4294967296 = 4294967295 by decide]
  have g0 := ((Num.new w 27 a).alloc (.cells (numA b) 27)).alloc (.cells #[Value.int .u32 0, .int .u32 0, .int .u32 0, .int .u32 0, .int .u32 0, .int .u32 0, .int .u32 0, .int .u32 0] 27)
  have g1 := (Num.new (w.alloc (.cells (numA a) 27)) 27 b).alloc (.cells #[Value.int .u32 0, .int .u32 0, .int .u32 0, .int .u32 0, .int .u32 0, .int .u32 0, .int .u32 0, .int .u32 0] 27)
  have g2 := heap_alloc_new ((w.alloc (.cells (numA a) 27)).alloc (.cells (numA b) 27)) (.cells #[Value.int .u32 0, .int .u32 0, .int .u32 0, .int .u32 0, .int .u32 0, .int .u32 0, .int .u32 0, .int .u32 0] 27)
  simp only [World.size_alloc] at g1 g2
  have gb : Below w.heap.size w (((w.alloc (.cells (numA a) 27)).alloc (.cells (numA b) 27)).alloc (.cells #[Value.int .u32 0, .int .u32 0, .int .u32 0, .int .u32 0, .int .u32 0, .int .u32 0, .int .u32 0, .int .u32 0] 27)) := (((Below.refl _ _).alloc (Nat.le_refl _) _).alloc (by simp) _).alloc (by simp; omega) _
  have gs : w.heap.size + 2 < (((w.alloc (.cells (numA a) 27)).alloc (.cells (numA b) 27)).alloc (.cells #[Value.int .u32 0, .int .u32 0, .int .u32 0, .int .u32 0, .int .u32 0, .int .u32 0, .int .u32 0, .int .u32 0] 27)).heap.size := by simp
  generalize hW : World.alloc _ _ = W at *
  clear hW
  go_loopw [15] (fun i wr => ∃ k : Nat, k ≤ 8 ∧ i = .int .i64 k ∧ wr.rowIs w.heap.size 27 8 (mixF a a k) ∧ W.grownBy wr (some w.heap.size)) (fun i _ => 8 - (intOf i).toNat)
  case atStart => exact ⟨0, by omega, rfl, g0.row.congr fun j _ => by unfold mixF; rw [if_neg (by omega)], World.grownBy.refl _ _⟩
  case round =>
   obtain ⟨k, hk, rfl, hr, hg⟩ := hrel
   by_cases hlt : k < 8
   ·have hc0 := hr.cell hlt
    have hc1 := hg.cell (g1.cell hlt) (by simp)
    have hz := hr.frozen k
    unfold mixF numF at hc0
    rw [if_neg (by omega)] at hc0
    have ha0 := zka a k
    have ha1 := zla a k
    have hb0 := zka b k
    have hb1 := zla b k
    have f1 := and_all (digI a k) ha0 ha1
    have f2 := not_all (digI b k) hb0 hb1
    have f3 := (or_none (digI a k) ha0 ha1).1
    go_wp2
    go_still_tail 13, (by kernel_rfl)
    change wpList _ _ _ _ _ (World.drew _)
    go_wp2
    go_roundw
    case rel => exact ⟨k + 1, by omega, by go_num, (hr.set k _).congr fun j _ => mix_set a a k j, only_drewN (zsa hg rfl _) 1⟩
    case measure => simp [intOf] <;> omega
   ·obtain rfl : k = 8 := by omega
    have m0 : Num wr w.heap.size 27 a := zlb hr fun j hj => by unfold mixF; rw [if_pos hj]
    have m2 := (hg.block _ (by omega) (by simp <;> omega)).trans g2
    have m3 := zf gb hg (by omega) (by omega)
    have m4 := hg.size
    go_wp2_with (first | (refine ze rfl _ _ rfl _ rfl _ _ _ m0 Tryz.underlying27 rfl zd ?_) | (refine zl rfl _ _ _ rfl _ rfl _ rfl _ rfl m2 zd ?_; intro w5 g5 m5))
    exact bodyPost_ret (z6a rfl rfl m5 Tryz.underlying27 rfl zd) rfl ⟨rfl, zf m3 g5 (by omega) (by omega)⟩
theorem mt_pick {T m : Nat} (hm : m < 4294967296 ^ 8) (hT : T < 2 * m) : ∃ (S c : Nat) (L : Int) (Y : Int), T % 4294967296 ^ 8 = S ∧ T / 4294967296 ^ 8 = c ∧ S < 4294967296 ^ 8 ∧ c ≤ 1 ∧ lentI S m = L ∧ 0 ≤ L ∧ L ≤ 1 ∧ bits .or .u32 (c : Int) (1 - L) = Y ∧ 0 ≤ Y ∧ Y < 4294967296 ∧ pickN Y (subN S m) S = if m ≤ T then T - m else T := by
 have hS := Nat.mod_lt T (show 0 < 4294967296 ^ 8 by decide)
 have hc : T / 4294967296 ^ 8 ≤ 1 := by
  have : T / 4294967296 ^ 8 < 2 := Nat.div_lt_of_lt_mul (by omega)
  omega
 have hd := Nat.div_add_mod T (4294967296 ^ 8)
 obtain ⟨S, hSe⟩ : ∃ S, T % 4294967296 ^ 8 = S := ⟨_, rfl⟩
 obtain ⟨c, hce⟩ : ∃ c, T / 4294967296 ^ 8 = c := ⟨_, rfl⟩
 rw [hSe] at hS hd
 rw [hce] at hc hd
 have hL : lentI S m = 0 ∨ lentI S m = 1 := by unfold lentI; split <;> omega
 refine ⟨S, c, _, _, hSe, hce, hS, hc, rfl, by omega, by omega, rfl, ?_⟩
 have o1 : bits .or .u32 0 0 = 0 := by decide +kernel
 have o2 : bits .or .u32 0 1 = 1 := by decide +kernel
 have o3 : bits .or .u32 1 0 = 1 := by decide +kernel
 have o4 : bits .or .u32 1 1 = 1 := by decide +kernel
 clear hSe hce hL
 have hc2 : c = 0 ∨ c = 1 := by omega
 by_cases h2 : m ≤ S
 ·have l : lentI S m = 0 := by unfold lentI; rw [if_pos h2]
  have s : subN S m = S - m := by unfold subN; rw [if_pos h2]
  rw [l, s]
  rcases hc2 with rfl | rfl
  ·have hTS : T = S := by omega
   subst hTS
   have : bits .or .u32 ((0 : Nat) : Int) (1 - 0) = 1 := o2
   rw [this, if_pos h2]
   exact ⟨by omega, by omega, by unfold pickN; rw [if_neg (by omega)]⟩
  ·have : bits .or .u32 ((1 : Nat) : Int) (1 - 0) = 1 := o4
   omega
 ·have l : lentI S m = 1 := by unfold lentI; rw [if_neg h2]
  rw [l]
  rcases hc2 with rfl | rfl
  ·have hTS : T = S := by omega
   subst hTS
   have : bits .or .u32 ((0 : Nat) : Int) (1 - 1) = 0 := o1
   rw [this, if_neg h2]
   exact ⟨by omega, by omega, by unfold pickN; rw [if_pos rfl]⟩
  ·have : bits .or .u32 ((1 : Nat) : Int) (1 - 1) = 1 := o3
   rw [this, if_pos (by omega)]
   refine ⟨by omega, by omega, ?_⟩
   unfold pickN subN
   rw [if_neg (by omega), if_neg h2]
   omega
theorem mt_drew (w : World) (row : Option Nat) : w.grownBy w.drew row := ⟨rfl, rfl, rfl, Nat.le_refl _, fun _ _ _ => rfl⟩
theorem mt_cells {S2 t2 T' : Nat} (h1 : t2 % 4294967296 ^ 8 = S2) (h2 : t2 = 4294967296 * T') : #[numF S2 1, numF S2 2, numF S2 3, numF S2 4, numF S2 5, numF S2 6, numF S2 7, .int .u32 ((dig T' 7 : Nat) : Int)] = numA (T' % 4294967296 ^ 8) := by
 have h : ∀ j, j < 7 → numF S2 (j + 1) = numF (T' % 4294967296 ^ 8) j := by
  intro j hj
  unfold numF digI
  rw [← h1, dig_mod t2 (show j + 1 < 8 by omega), mt_shift h2, dig_mod T' (show j < 8 by omega)]
 have h7 : Value.int .u32 ((dig T' 7 : Nat) : Int) = numF (T' % 4294967296 ^ 8) 7 := by
  unfold numF digI
  rw [dig_mod T' (show 7 < 8 by decide)]
 rw [h7]
 unfold numA
 rw [← h 0 (by decide), ← h 1 (by decide), ← h 2 (by decide), ← h 3 (by decide), ← h 4 (by decide), ← h 5 (by decide), ← h 6 (by decide)]
theorem mtmul_any (m r t : Nat) (n : Int) (hm : m < 4294967296 ^ 8) (ho : m % 2 = 1) (hn : ∃ q, n * digI m 0 + 1 = 4294967296 * q) (hn0 : 0 ≤ n) (hn1 : n < 4294967296) (a b : Nat) (ha : a < 4294967296 ^ 8) (hb : b < m) (w : World) :
  Calls Tryz.prog 100 #[.agg (z7a m r t n), numV a, numV b] w fun e w' => e = .returned (numV (mm m (a * b))) ∧ Below w.heap.size w w' := by
 obtain ⟨W, hW⟩ : ∃ W, W = ((((w.alloc (.cells (z7a m r t n) 99)).alloc (.cells (numA a) 27)).alloc (.cells (numA b) 27)).alloc (.cells (numA 0) 27)).alloc (.cells (numA 0) 27) := ⟨_, rfl⟩
 have qc : Blk W w.heap.size 99 (z7a m r t n) := by rw [hW]; exact ((((Blk.new w _ _).alloc _).alloc _).alloc _).alloc _
 have qa : Num W (w.heap.size + 1) 27 a := by
  have := (((Num.new (w.alloc (.cells (z7a m r t n) 99)) 27 a).alloc (.cells (numA b) 27)).alloc (.cells (numA 0) 27)).alloc (.cells (numA 0) 27)
  rw [World.size_alloc] at this; rw [hW]; exact this
 have qb : Num W (w.heap.size + 1 + 1) 27 b := by
  have := ((Num.new ((w.alloc (.cells (z7a m r t n) 99)).alloc (.cells (numA a) 27)) 27 b).alloc (.cells (numA 0) 27)).alloc (.cells (numA 0) 27)
  rw [World.size_alloc, World.size_alloc] at this; rw [hW]; exact this
 have qr : Num W (w.heap.size + 1 + 1 + 1) 27 0 := by
  have := (Num.new (((w.alloc (.cells (z7a m r t n) 99)).alloc (.cells (numA a) 27)).alloc (.cells (numA b) 27)) 27 0).alloc (.cells (numA 0) 27)
  rw [World.size_alloc, World.size_alloc, World.size_alloc] at this; rw [hW]; exact this
 have qs : Num W (w.heap.size + 1 + 1 + 1 + 1) 27 0 := by
  have := Num.new ((((w.alloc (.cells (z7a m r t n) 99)).alloc (.cells (numA a) 27)).alloc (.cells (numA b) 27)).alloc (.cells (numA 0) 27)) 27 0
  rw [World.size_alloc, World.size_alloc, World.size_alloc, World.size_alloc] at this; rw [hW]; exact this
 have gb : Below w.heap.size w W := by rw [hW]; exact (((((Below.refl _ _).alloc (Nat.le_refl _) _).alloc (by simp) _).alloc (by simp; omega) _).alloc (by simp; omega) _).alloc (by simp; omega) _
 have gs : w.heap.size + 1 + 1 + 1 + 1 < W.heap.size := qs.lt
 have HN := hid hn
 have HM := hid hm
 have HA := hid ha
 have hbP : Hid (b < 4294967296 ^ 8) := hid (by omega)
 have HBM := hid hb
 have HO := hid ho
 rw [← zeroA] at hW
 clear hn hm ha hb ho
 go_enter Tryz.func100, Tryz.ntmps100
 go_upto_region 2 with fail
 rw [← hW]
 clear hW
 obtain ⟨C, hC⟩ : ∃ C, C = w.heap.size := ⟨_, rfl⟩
 rw [← hC] at qc qa qb qr qs gb gs ⊢
 have HC := hid hC
 clear hC
 go_wp2_with (refine ze rfl _ (.tmp 4) rfl _ rfl _ _ _ qa Tryz.underlying27 rfl zd ?_)
 go_loopw [8, 14] (fun cy i wr => ∃ (k T q c : Nat), k ≤ 8 ∧ i = .int .i64 (k : Int) ∧ cy = .int .u64 (c : Int) ∧ Hid (T / 4294967296 ^ 8 = c) ∧ Hid (T < b + m) ∧ Hid (4294967296 ^ k * T = a % 4294967296 ^ k * b + q * m) ∧ Num wr (C + 1 + 1 + 1 + 1) 27 (T % 4294967296 ^ 8) ∧ W.grownBy wr (some (C + 1 + 1 + 1 + 1))) (fun _ i _ => 8 - (intOf i).toNat)
 case atStart => exact ⟨0, 0, 0, 0, by omega, rfl, rfl, hid (by decide), hid (by have := HBM.out; omega), hid (by simp [Nat.mod_one]), qs, World.grownBy.refl _ _⟩
 case round =>
  obtain ⟨k, T, q, c, hk, rfl, rfl, HCY, HT, HE, hs, hg⟩ := hrel
  clear qs
  by_cases hlt : k < 8
  ·have hix := fun w' => index_num a k hlt w'
   obtain ⟨D, hD⟩ : ∃ D, Hid (dig a k = D) := ⟨_, hid rfl⟩
   have hDI : Hid (digI a k = (D : Int)) := hid (by unfold digI; rw [hD.out])
   have hDb : Hid (D < 4294967296) := hid (by rw [← hD.out]; exact dig_lt _ _)
   have hix2 : ∀ w', (Instr.index 27 (.agg (numA a)) (.int .i64 (k : Int))).run Tryz.prog w' = .ok (.int .u32 (D : Int)) w' := fun w' => by rw [hix w', hDI.out]
   have kb := qb.grown hg (by simp)
   have kc := qc.grown hg (by simp; omega)
   have hSl : Hid (T % 4294967296 ^ 8 < 4294967296 ^ 8) := hid (Nat.mod_lt _ (by decide))
   obtain ⟨e1, e2⟩ := div_split T (D * b) (4294967296 ^ 8) (by decide)
   rw [HCY.out] at e1
   obtain ⟨c1, hc1⟩ : ∃ c1, Hid ((T % 4294967296 ^ 8 + D * b) / 4294967296 ^ 8 = c1) := ⟨_, hid rfl⟩
   obtain ⟨S1, hS1⟩ : ∃ S1, Hid ((T % 4294967296 ^ 8 + D * b) % 4294967296 ^ 8 = S1) := ⟨_, hid rfl⟩
   rw [hc1.out] at e1
   rw [hS1.out] at e2
   have hS1b : Hid (S1 < 4294967296 ^ 8) := hid (by rw [← hS1.out]; exact Nat.mod_lt _ (by decide))
   have E1 := hid e1
   have E2 := hid e2
   have hcb : Hid (c ≤ 1 ∧ c1 < 4294967296) := hid (by
    have h1 := HT.out
    have h2 := HBM.out
    have h3 := HM.out
    refine ⟨?_, ?_⟩
    ·rw [← HCY.out]
     have : T / 4294967296 ^ 8 < 2 := Nat.div_lt_of_lt_mul (by omega)
     omega
    ·rw [← hc1.out]
     refine Nat.div_lt_of_lt_mul ?_
     have h4 : D * b ≤ 4294967295 * b := Nat.mul_le_mul_right _ (by have := hDb.out; omega)
     have := hSl.out
     omega)
   clear e1 e2 hix
   go_wp2_with (refine ze rfl _ (.tmp 5) rfl _ rfl _ _ _ kb Tryz.underlying27 rfl zd ?_)
   refine (mtadd_any (C + 1 + 1 + 1 + 1) (T % 4294967296 ^ 8) D b _ hSl.out hDb.out hbP.out _ hs).mono ?_
   rintro e w1 ⟨rfl, s1, g1⟩
   rw [hc1.out]
   rw [hS1.out] at s1
   obtain ⟨c2, hc2⟩ : ∃ c2, Hid (c + c1 = c2) := ⟨_, hid rfl⟩
   have hcc : (c : Int) + (c1 : Int) = (c2 : Int) := by have := hc2.out; omega
   have hcb2 : c2 ≤ 4294967296 := by have := hc2.out; have := hcb.out; omega
   have e3 := Go.IntWalk.u64_in (c2 : Int) (by omega)
   have s1c := s1.row.cell (i := 0) (by decide)
   simp only [numF] at s1c
   have s1f := s1.row.frozen 0
   have kb1 := kb.grown g1 (by simp)
   have kc1 := kc.grown g1 (by simp; omega)
   have kn := kc1.cell (k := 24) montA_n
   have knf := kc1.frozen 24
   obtain ⟨s10, s11⟩ : 0 ≤ digI S1 0 ∧ digI S1 0 < 4294967296 := ⟨zka _ _, zla _ _⟩
   obtain ⟨u, hu⟩ : ∃ u : Nat, Hid ((u : Int) = digI S1 0 * n % 4294967296) := ⟨(digI S1 0 * n % 4294967296).toNat, hid (Int.toNat_of_nonneg (Int.emod_nonneg _ (by decide)))⟩
   have hub : Hid (u < 4294967296) := hid (by have := hu.out; have := Int.emod_lt_of_pos (digI S1 0 * n) (show (0 : Int) < 4294967296 by decide); omega)
   have e4 : IntKind.u32.wrap (digI S1 0 * n) = (u : Int) := by rw [hu.out]; rfl
   clear s10 s11
   go_wp2_with (refine z9a rfl _ (.tmp 28) rfl C 0 rfl _ _ (numA m) _ kc1 montA_m Tryz.underlying27 rfl zd ?_)
   refine (mtadd_any (C + 1 + 1 + 1 + 1) S1 u m _ hS1b.out hub.out HM.out _ s1).mono ?_
   rintro e w2 ⟨rfl, s2, g2⟩
   obtain ⟨f1, f2⟩ := div_split (T + D * b) (u * m) (4294967296 ^ 8) (by decide)
   rw [E1.out, E2.out] at f1
   rw [E2.out] at f2
   obtain ⟨c3, hc3⟩ : ∃ c3, Hid ((S1 + u * m) / 4294967296 ^ 8 = c3) := ⟨_, hid rfl⟩
   obtain ⟨S2, hS2⟩ : ∃ S2, Hid ((S1 + u * m) % 4294967296 ^ 8 = S2) := ⟨_, hid rfl⟩
   rw [hc3.out] at f1 ⊢
   rw [hS2.out] at f2 s2
   obtain ⟨c4, hc4⟩ : ∃ c4, Hid (c2 + c3 = c4) := ⟨_, hid rfl⟩
   have hcc4 : (c2 : Int) + (c3 : Int) = (c4 : Int) := by have := hc4.out; omega
   have F1 : Hid ((T + D * b + u * m) / 4294967296 ^ 8 = c4) := hid (by rw [f1, ← hc4.out, ← hc2.out])
   have F2 := hid f2
   obtain ⟨T', hT'⟩ : ∃ T', Hid (T + D * b + u * m = 4294967296 * T') := by
    obtain ⟨T', h⟩ := mt_low (t1 := T + D * b) (u := u) HN.out (by rw [E2.out]; exact hu.out)
    exact ⟨T', hid h⟩
   have hTb : Hid (T' < b + m) := hid (mt_bound HT.out hDb.out hub.out hT'.out)
   obtain ⟨t7, t8⟩ := mt_top hT'.out
   rw [F1.out] at t7 t8
   have hc4b : Hid (c4 < 18446744073709551616) := hid (by
    have h1 := hTb.out
    have h2 := HBM.out
    have h3 := HM.out
    have : T' / 4294967296 ^ 8 < 2 := Nat.div_lt_of_lt_mul (by omega)
    omega)
   have e5 := Go.IntWalk.u64_in (c4 : Int) (by have := hc4b.out; omega)
   clear f1 f2
   go_wp2_with fail
   obtain ⟨w3, r3, s3, g3⟩ := copy_down w2.drew (C + 1 + 1 + 1 + 1) S2 _ s2.drew
   have s3f := s3.frozen 7
   have s3c := s3.cell (k := 7) rfl
   have e6 : IntKind.u32.wrap (c4 : Int) = ((dig T' 7 : Nat) : Int) := by rw [← t7]; rfl
   obtain ⟨cT, hcT⟩ : ∃ cT, Hid (T' / 4294967296 ^ 8 = cT) := ⟨_, hid rfl⟩
   have e7 : (c4 : Int) / 4294967296 = (cT : Int) := by rw [← hcT.out, ← t8]; rfl
   have hc40 : (0 : Int) ≤ (c4 : Int) := by omega
   clear t7 t8
   go_still_tail 2, (by kernel_rfl)
   change wpList _ _ _ _ _ (World.drew _)
   go_wp2_with fail
   go_roundw
   case rel =>
    have cells := mt_cells F2.out hT'.out
    refine ⟨k + 1, T', q + 4294967296 ^ k * u, cT, by omega, by go_num, ?_, hcT, hTb, hid (mt_next HE.out (by rw [hD.out]; exact hT'.out)), ?_, ?_⟩
    ·rfl
    ·exact s3.set 7 _ cells
    ·exact zsa (World.grownBy.trans (World.grownBy.trans (World.grownBy.trans (World.grownBy.trans hg g1) g2) (mt_drew _ _)) g3) rfl _
   case measure => simp [intOf] <;> omega
  ·obtain rfl : k = 8 := by omega
   have hend := mt_end (q := q) HO.out HA.out HBM.out HT.out HE.out
   obtain ⟨S, c', L, Y, z1, z2, hS, hc, hL, hL0, hL1, hY, hY0, hY1, hP⟩ := mt_pick HM.out (show T < 2 * m by have := HT.out; have := HBM.out; omega)
   rw [hend] at hP
   obtain rfl : c' = c := by rw [← z2, HCY.out]
   rw [z1] at hs
   have kc := qc.grown hg (by simp; omega)
   have kr := qr.grown hg (by simp)
   have sg := hg.size
   go_wp2_with (first | (refine ze rfl _ (.tmp 7) rfl _ rfl _ _ _ hs Tryz.underlying27 rfl zd ?_) | (refine z9a rfl _ (.tmp 43) rfl C 0 rfl _ _ (numA m) _ kc montA_m Tryz.underlying27 rfl zd ?_))
   refine (sub_any S m hS HM.out _).mono ?_
   rintro e w1 ⟨rfl, b1⟩
   rw [hL]
   have nz : Num (w1.alloc (.cells #[.int .u32 0, .int .u32 0, .int .u32 0, .int .u32 0, .int .u32 0, .int .u32 0, .int .u32 0, .int .u32 0] 27)) w1.heap.size 27 0 := by
    have := Num.new w1 27 0
    rw [← zeroA] at this
    exact this
   have hw1 := b1.size
   have e1 : IntKind.u32.wrap (c' : Int) = (c' : Int) := by show (c' : Int) % 4294967296 = _; omega
   have e2 : IntKind.u32.wrap (1 - L) = 1 - L := by show (1 - L) % 4294967296 = _; omega
   have gs2 : C + 1 + 1 + 1 + 1 < wr.heap.size := by omega
   have hs1 := (hs.step b1).alloc (.cells #[.int .u32 0, .int .u32 0, .int .u32 0, .int .u32 0, .int .u32 0, .int .u32 0, .int .u32 0, .int .u32 0] 27)
   have kr1 := (kr.step b1).alloc (.cells #[.int .u32 0, .int .u32 0, .int .u32 0, .int .u32 0, .int .u32 0, .int .u32 0, .int .u32 0, .int .u32 0] 27)
   go_wp2_with (first | (refine zl rfl _ (.tmp 11) _ rfl _ rfl _ rfl _ rfl nz zd ?_; intro w2 g2 m2; have hs2 := hs1.grown g2 (by simp <;> omega); have kr2 := kr1.grown g2 (by simp <;> omega)) | (refine ze rfl _ (.tmp 11) rfl _ rfl _ _ _ m2 Tryz.underlying27 rfl zd ?_) | (refine ze rfl _ (.tmp 7) rfl _ rfl _ _ _ hs2 Tryz.underlying27 rfl zd ?_))
   refine (pick_any Y hY0 hY1 (subN S m) S _).mono ?_
   rintro e w3 ⟨rfl, b3⟩
   rw [hP]
   have kr3 := kr2.step b3
   go_wp2_with (refine zl rfl _ (.tmp 6) _ rfl _ rfl _ rfl _ rfl kr3 zd ?_; intro w4 g4 m4)
   refine bodyPost_ret (z6a rfl rfl m4 Tryz.underlying27 rfl zd) rfl ⟨rfl, ?_⟩
   rw [← HC.out]
   have bb := zf gb hg (by omega) (by omega)
   have b2 := zf (B := C) ((zvb bb b1 (by omega)).alloc (by omega) _) g2 (by simp <;> omega) (by omega)
   have z2 := g2.size
   simp only [World.size_alloc] at z2
   have z3 := b3.size
   exact zf (zvb b2 b3 (by omega)) g4 (by omega) (by omega)
end Go.Proofs.YtcfepoopkfhojaaGreat
namespace Go.Proofs.YtcfepoopkfhojaaGreat
open Go.ChangeShapes Go.WideShapes Go.ChangeAt Go.RowKit
theorem montA_r {m r t : Nat} {n : Int} (j : Nat) (v : Value) (h : (numA r)[j]? = some v) : (z7a m r t n)[8 + j]? = some v := by
 have hj := (Array.getElem?_eq_some_iff.1 h).1
 rw [zsc] at hj
 rw [← h]
 have : j = 0 ∨ j = 1 ∨ j = 2 ∨ j = 3 ∨ j = 4 ∨ j = 5 ∨ j = 6 ∨ j = 7 := by omega
 rcases this with rfl | rfl | rfl | rfl | rfl | rfl | rfl | rfl <;> rfl
theorem montA_t {m r t : Nat} {n : Int} (j : Nat) (v : Value) (h : (numA t)[j]? = some v) : (z7a m r t n)[16 + j]? = some v := by
 have hj := (Array.getElem?_eq_some_iff.1 h).1
 rw [zsc] at hj
 rw [← h]
 have : j = 0 ∨ j = 1 ∨ j = 2 ∨ j = 3 ∨ j = 4 ∨ j = 5 ∨ j = 6 ∨ j = 7 := by omega
 rcases this with rfl | rfl | rfl | rfl | rfl | rfl | rfl | rfl <;> rfl
section
variable {P : Program}
theorem zjb {ops : Array Oper} {W : World} {Q : Act → Prop} {a : Act} {o : Oper} {rest : List Oper} (hw : Region.wanted o (yielded ops a.tmps) = true) (ty : TypeId) (y : Operand) (ho : o.op = .load ty y)
  (g : Nat) (hy : a.eval y = .pointer (some ⟨g, 0, none⟩)) (t : TypeId) (c : Array Value) (d : TypeDesc) (hg : Blk W g t c) (hu : P.underlying ty = some d)
  (hd : (match d with | .struct _ | .array _ _ => true | _ => false) = true) (hi : (P.info? ty).map (·.size) = some c.size)
  (h : wpQuiet P ops (fun w' => ∃ x : Later W, w' = x.w) Q rest (a.put o.dst (.agg c))) : wpQuiet P ops (fun w' => ∃ x : Later W, w' = x.w) Q (o :: rest) a :=
 BigFrame.wpQuiet_want hw fun K hK => ⟨.agg c, fun w ⟨x, e⟩ => by
  subst e
  unfold Oper.quietAt execOp
  simp only [ho, hy, Sem.run_bind, run_load_blk x.w ty g t c d (hg.below x.h hg.lt) hu hd hi, Result.andThen_ok, Sem.run_pure]
  exact ⟨rfl, rfl⟩, hK _ h⟩
theorem zdb {ops : Array Oper} {W : World} {Q : Act → Prop} {a : Act} {o : Oper} {rest : List Oper} (hw : Region.wanted o (yielded ops a.tmps) = true) (ty : TypeId) (y : Operand) (ho : o.op = .load ty y)
  (g k : Nat) (hy : a.eval y = .pointer (some ⟨g, k, none⟩)) (t : TypeId) (c s : Array Value) (d : TypeDesc) (hg : Blk W g t c) (hs : ∀ (j : Nat) (v : Value), s[j]? = some v → c[k + j]? = some v) (hu : P.underlying ty = some d)
  (hd : (match d with | .struct _ | .array _ _ => true | _ => false) = true) (hi : (P.info? ty).map (·.size) = some s.size)
  (h : wpQuiet P ops (fun w' => ∃ x : Later W, w' = x.w) Q rest (a.put o.dst (.agg s))) : wpQuiet P ops (fun w' => ∃ x : Later W, w' = x.w) Q (o :: rest) a :=
 BigFrame.wpQuiet_want hw fun K hK => ⟨.agg s, fun w ⟨x, e⟩ => by
  subst e
  unfold Oper.quietAt execOp
  simp only [ho, hy, Sem.run_bind, run_load_sub x.w ty g k t c s d (hg.below x.h hg.lt) hs hu hd hi, Result.andThen_ok, Sem.run_pure]
  exact ⟨rfl, rfl⟩, hK _ h⟩
end
theorem mtin_any (m r t : Nat) (n : Int) (hm : m < 4294967296 ^ 8) (ho : m % 2 = 1) (hn : ∃ q, n * digI m 0 + 1 = 4294967296 * q) (hn0 : 0 ≤ n) (hn1 : n < 4294967296) (a : Nat) (ha : a < 4294967296 ^ 8) (ht : t < m) (w : World) :
  Calls Tryz.prog 104 #[.agg (z7a m r t n), numV a] w fun e w' => e = .returned (numV (mm m (a * t))) ∧ Below w.heap.size w w' := by
 have HN := hid hn
 clear hn
 go_enter Tryz.func104, Tryz.ntmps104
 go_upto_region 1 with fail
 obtain ⟨W, hW⟩ : ∃ W, W = ((w.alloc (.cells (z7a m r t n) 99)).alloc (.cells (numA a) 27)).alloc (.cells #[.int .u32 0, .int .u32 0, .int .u32 0, .int .u32 0, .int .u32 0, .int .u32 0, .int .u32 0, .int .u32 0] 27) := ⟨_, rfl⟩
 have qc : Blk W w.heap.size 99 (z7a m r t n) := by rw [hW]; exact ((Blk.new w _ _).alloc _).alloc _
 have qa : Num W (w.heap.size + 1) 27 a := by
  have := (Num.new (w.alloc (.cells (z7a m r t n) 99)) 27 a).alloc (.cells #[.int .u32 0, .int .u32 0, .int .u32 0, .int .u32 0, .int .u32 0, .int .u32 0, .int .u32 0, .int .u32 0] 27)
  rw [World.size_alloc] at this; rw [hW]; exact this
 have qr : Num W (w.heap.size + 1 + 1) 27 0 := by
  have := Num.new ((w.alloc (.cells (z7a m r t n) 99)).alloc (.cells (numA a) 27)) 27 0
  rw [World.size_alloc, World.size_alloc, ← zeroA] at this; rw [hW]; exact this
 have gb : Below w.heap.size w W := by rw [hW]; exact (((Below.refl _ _).alloc (Nat.le_refl _) _).alloc (by simp) _).alloc (by simp; omega) _
 rw [← hW]
 clear hW
 go_wp2_with (first | (refine zma rfl _ (.tmp 2) rfl _ rfl _ _ _ qc Tryz.underlying99 rfl z6b ?_) | (refine ze rfl _ (.tmp 3) rfl _ rfl _ _ _ qa Tryz.underlying27 rfl zd ?_) | (refine z9a rfl _ (.tmp 7) rfl _ _ rfl _ _ (numA t) _ qc montA_t Tryz.underlying27 rfl zd ?_))
 refine (mtmul_any m r t n hm ho HN.out hn0 hn1 a t ha ht _).mono ?_
 rintro e w1 ⟨rfl, b1⟩
 have qr1 := qr.step b1
 have z1 := gb.size
 have z2 := qr.lt
 go_wp2_with (refine zl rfl _ (.tmp 4) _ rfl _ rfl _ rfl _ rfl qr1 zd ?_; intro w2 g2 m2)
 refine bodyPost_ret (z6a rfl rfl m2 Tryz.underlying27 rfl zd) rfl ⟨rfl, ?_⟩
 have z3 := b1.size
 exact zf (zvb gb b1 z1) g2 (by omega) (by omega)
theorem mtout_any (m r t : Nat) (n : Int) (hm : m < 4294967296 ^ 8) (h1m : 1 < m) (ho : m % 2 = 1) (hn : ∃ q, n * digI m 0 + 1 = 4294967296 * q) (hn0 : 0 ≤ n) (hn1 : n < 4294967296) (a : Nat) (ha : a < 4294967296 ^ 8) (w : World) :
  Calls Tryz.prog 102 #[.agg (z7a m r t n), numV a] w fun e w' => e = .returned (numV (mm m a)) ∧ Below w.heap.size w w' := by
 have HN := hid hn
 clear hn
 go_enter Tryz.func102, Tryz.ntmps102
 go_upto_region 1 with fail
 obtain ⟨W, hW⟩ : ∃ W, W = ((w.alloc (.cells (z7a m r t n) 99)).alloc (.cells (numA a) 27)).alloc (.cells #[.int .u32 0, .int .u32 0, .int .u32 0, .int .u32 0, .int .u32 0, .int .u32 0, .int .u32 0, .int .u32 0] 27) := ⟨_, rfl⟩
 have qc : Blk W w.heap.size 99 (z7a m r t n) := by rw [hW]; exact ((Blk.new w _ _).alloc _).alloc _
 have qa : Num W (w.heap.size + 1) 27 a := by
  have := (Num.new (w.alloc (.cells (z7a m r t n) 99)) 27 a).alloc (.cells #[.int .u32 0, .int .u32 0, .int .u32 0, .int .u32 0, .int .u32 0, .int .u32 0, .int .u32 0, .int .u32 0] 27)
  rw [World.size_alloc] at this; rw [hW]; exact this
 have qr : Num W (w.heap.size + 1 + 1) 27 0 := by
  have := Num.new ((w.alloc (.cells (z7a m r t n) 99)).alloc (.cells (numA a) 27)) 27 0
  rw [World.size_alloc, World.size_alloc, ← zeroA] at this; rw [hW]; exact this
 have gb : Below w.heap.size w W := by rw [hW]; exact (((Below.refl _ _).alloc (Nat.le_refl _) _).alloc (by simp) _).alloc (by simp; omega) _
 have z1 := gb.size
 have z2 := qr.lt
 rw [← hW]
 clear hW
 refine wp_region_tail (by kernel_rfl) (by kernel_rfl) (by kernel_rfl) (by kernel_rfl) (by kernel_rfl) ?_
 simp only [calm, headOps, tailOps, List.length_cons, List.length_nil, List.drop_succ_cons, List.drop_zero, Nat.zero_add, Nat.reduceAdd]
 refine zjb rfl _ (.tmp 2) rfl _ rfl _ _ _ qc Tryz.underlying99 rfl z6b ?_
 simp only [Act.put, List.setIfInBounds_toArray, List.set_cons_zero, List.set_cons_succ]
 refine zw rfl _ (.tmp 3) rfl _ rfl _ _ _ qa Tryz.underlying27 rfl zd ?_
 simp only [Act.put, List.setIfInBounds_toArray, List.set_cons_zero, List.set_cons_succ]
 go_big_quiet_step (exact z1b (from_any 1 (by omega) (by omega) _))
 go_big_quiet_step (exact z1b (mtmul_any m r t n hm ho HN.out hn0 hn1 a 1 ha h1m _))
 refine wpQuiet_nil ?_
 intro X
 have qr1 := qr.step X.h
 rw [Nat.mul_one]
 go_wp2_with (refine zl rfl _ (.tmp 4) _ rfl _ rfl _ rfl _ rfl qr1 zd ?_; intro w2 g2 m2)
 refine bodyPost_ret (z6a rfl rfl m2 Tryz.underlying27 rfl zd) rfl ⟨rfl, ?_⟩
 have z3 := X.h.size
 exact zf (zvb gb X.h z1) g2 (by omega) (by omega)
end Go.Proofs.YtcfepoopkfhojaaGreat
namespace Go.Proofs.YtcfepoopkfhojaaGreat
open Go.ChangeShapes Go.WideShapes Go.ChangeAt Go.RowKit
end Go.Proofs.YtcfepoopkfhojaaGreat
namespace Go.Proofs.YtcfepoopkfhojaaGreat
open Go.ChangeShapes Go.WideShapes Go.ChangeAt Go.RowKit
end Go.Proofs.YtcfepoopkfhojaaGreat
namespace Go.Proofs.YtcfepoopkfhojaaGreat
open Go.ChangeShapes Go.WideShapes Go.ChangeAt Go.RowKit
theorem grown_below {w w' : World} {row : Option Nat} (h : Below w.heap.size w w') : w.grownBy w' row := ⟨h.os, h.tape, h.output, h.size, fun b hb _ => h.block b hb⟩
end Go.Proofs.YtcfepoopkfhojaaGreat
namespace Go.Proofs.YtcfepoopkfhojaaGreat
open Go.ChangeShapes Go.WideShapes Go.ChangeAt Go.RowKit
theorem numF_none (k : Nat) : numF 0 k = .int .u32 0 := by unfold numF digI dig; simp
theorem montA_zero : z7a 0 0 0 0 = #[Value.int .u32 0, .int .u32 0, .int .u32 0, .int .u32 0, .int .u32 0, .int .u32 0, .int .u32 0, .int .u32 0, .int .u32 0, .int .u32 0, .int .u32 0, .int .u32 0, .int .u32 0, .int .u32 0, .int .u32 0, .int .u32 0, .int .u32 0, .int .u32 0, .int .u32 0, .int .u32 0, .int .u32 0, .int .u32 0, .int .u32 0, .int .u32 0, .int .u32 0] := by unfold z7a; simp only [numF_none]
theorem z25_cells : (#[Value.int .u32 0, .int .u32 0, .int .u32 0, .int .u32 0, .int .u32 0, .int .u32 0, .int .u32 0, .int .u32 0, .int .u32 0, .int .u32 0, .int .u32 0, .int .u32 0, .int .u32 0, .int .u32 0, .int .u32 0, .int .u32 0, .int .u32 0, .int .u32 0, .int .u32 0, .int .u32 0, .int .u32 0, .int .u32 0, .int .u32 0, .int .u32 0, .int .u32 0] : Array Value).all (·.oneCell') = true := by simp [Value.oneCell']
section
variable {P : Program}
theorem wpQuiet_op {ops : Array Oper} {W : World} {Q : Act → Prop} {a : Act} {o : Oper} {rest : List Oper} (hw : Region.wanted o (yielded ops a.tmps) = true) (v : Value) (hr : ∀ w, (execOp a.eval o).run P w = .ok (.value v) w)
  (h : wpQuiet P ops (fun w' => ∃ x : Later W, w' = x.w) Q rest (a.put o.dst v)) : wpQuiet P ops (fun w' => ∃ x : Later W, w' = x.w) Q (o :: rest) a :=
 BigFrame.wpQuiet_want hw fun K hK => ⟨v, fun w ⟨x, e⟩ => by
  subst e
  unfold Oper.quietAt
  simp only [hr]
  exact ⟨rfl, rfl⟩, hK _ h⟩
theorem wpList_op {ops : Array Oper} {rest : List Oper} {o : Oper} {a : Act} {w : World} {Q : Exit → Act → World → Prop} (hw : Region.wanted o (yielded ops a.tmps) = true) (v : Value) (hr : (execOp a.eval o).run P w = .ok (.value v) w)
  (h : wpList P ops Q rest (a.put o.dst v) w) : wpList P ops Q (o :: rest) a w :=
 zbc hw fun K hK => by
  unfold Oper.wp
  simp only [hr]
  exact hK _ _ h
end
theorem run_buildM {a : Act} {w : World} {o : Oper} (x0 x1 x2 x3 : Operand) (ho : o.op = .build 99 #[(0, x0), (1, x1), (2, x2), (3, x3)]) {m r t : Nat} {n : Int} (h0 : a.eval x0 = numV m) (h1 : a.eval x1 = numV r) (h2 : a.eval x2 = numV t) (h3 : a.eval x3 = .int .u32 n) : (execOp a.eval o).run Tryz.prog w = .ok (.value (.agg (z7a m r t n))) w := by
 unfold execOp
 simp only [ho, List.map_toArray, List.map_cons, List.map_nil, h0, h1, h2, h3]
 kernel_rfl
theorem montA_cells (m r t : Nat) (n : Int) : (z7a m r t n).all (·.oneCell') = true := by simp [z7a, numF, Value.oneCell']
theorem mtmake_any (m : Nat) (hm : m < 4294967296 ^ 8) (w : World) :
  Calls Tryz.prog 67 #[numV m] w fun e w' => e = .returned (if m % 2 = 1 ∧ m ≠ 1 then .tuple #[.agg (z7a m (4294967296 ^ 8 % m) (4294967296 ^ 8 % m * (4294967296 ^ 8 % m) % m) (ngI (digI m 0))), .bool true] else .tuple #[.agg (z7a 0 0 0 0), .bool false]) ∧ Below w.heap.size w w' := by
 obtain ⟨RES, HR⟩ : ∃ RES, Hid ((if m % 2 = 1 ∧ m ≠ 1 then Value.tuple #[.agg (z7a m (4294967296 ^ 8 % m) (4294967296 ^ 8 % m * (4294967296 ^ 8 % m) % m) (ngI (digI m 0))), .bool true] else .tuple #[.agg (z7a 0 0 0 0), .bool false]) = RES) := ⟨_, hid rfl⟩
 rw [HR.out]
 have PAR : (m % 2 = 0 ∧ (digI m 0).tmod 2 = 0) ∨ (m % 2 = 1 ∧ (digI m 0).tmod 2 = 1) := by
  have h0 := zka m 0
  have h1 : digI m 0 % 2 = ((m % 2 : Nat) : Int) := by unfold digI dig; rw [Nat.pow_zero, Nat.div_one]; omega
  rw [Int.tmod_eq_emod_of_nonneg h0, h1]
  omega
 have EQ1 : (m = 1 ∧ ∀ w, (Op.equalIn 10000 27 (.agg (numA m)) (.agg (numA 1))).run Tryz.prog w = .ok true w) ∨ (m ≠ 1 ∧ ∀ w, (Op.equalIn 10000 27 (.agg (numA m)) (.agg (numA 1))).run Tryz.prog w = .ok false w) := by
  by_cases h : m = 1
  ·exact .inl ⟨h, fun w => by rw [h]; exact eqn_same 1 w⟩
  ·exact .inr ⟨h, eqn_diff hm (by decide) h⟩
 go_enter Tryz.func67, Tryz.ntmps67
 go_upto_region 1 with fail
 obtain ⟨W, hW⟩ : ∃ W, W = ((w.alloc (.cells (numA m) 27))).alloc (.cells #[Value.int .u32 0, .int .u32 0, .int .u32 0, .int .u32 0, .int .u32 0, .int .u32 0, .int .u32 0, .int .u32 0, .int .u32 0, .int .u32 0, .int .u32 0, .int .u32 0, .int .u32 0, .int .u32 0, .int .u32 0, .int .u32 0, .int .u32 0, .int .u32 0, .int .u32 0, .int .u32 0, .int .u32 0, .int .u32 0, .int .u32 0, .int .u32 0, .int .u32 0] 99) := ⟨_, rfl⟩
 have q_m : Num W (w.heap.size) 27 (m) := by
  have := ((Num.new w 27 (m)).alloc (.cells #[Value.int .u32 0, .int .u32 0, .int .u32 0, .int .u32 0, .int .u32 0, .int .u32 0, .int .u32 0, .int .u32 0, .int .u32 0, .int .u32 0, .int .u32 0, .int .u32 0, .int .u32 0, .int .u32 0, .int .u32 0, .int .u32 0, .int .u32 0, .int .u32 0, .int .u32 0, .int .u32 0, .int .u32 0, .int .u32 0, .int .u32 0, .int .u32 0, .int .u32 0] 99))
  rw [hW]; exact this
 have q_c : Blk W (w.heap.size + 1) 99 #[Value.int .u32 0, .int .u32 0, .int .u32 0, .int .u32 0, .int .u32 0, .int .u32 0, .int .u32 0, .int .u32 0, .int .u32 0, .int .u32 0, .int .u32 0, .int .u32 0, .int .u32 0, .int .u32 0, .int .u32 0, .int .u32 0, .int .u32 0, .int .u32 0, .int .u32 0, .int .u32 0, .int .u32 0, .int .u32 0, .int .u32 0, .int .u32 0, .int .u32 0] := by
  have := (Blk.new (w.alloc (.cells (numA m) 27)) 99 (z7a 0 0 0 0))
  rw [World.size_alloc, montA_zero] at this
  rw [hW]; exact this
 have gb : Below w.heap.size w W := by rw [hW]; exact (((Below.refl _ _).alloc (by simp <;> omega) _).alloc (by simp <;> omega) _)
 rw [← hW]
 clear hW
 have loc := hid (show w.heap.size ≤ w.heap.size + 1 by omega)
 have nm_c := hid (show w.heap.size ≠ w.heap.size + 1 by omega)
 go_wp2_with (fail)
 refine (from_any 1 (by omega) (by omega) _).mono ?_
 rintro e w1 ⟨rfl, bw1⟩
 have m_1 := q_m.step bw1
 have c_1 := q_c.step bw1
 have c_2 := zt gb bw1
 clear q_m q_c gb bw1
 go_upto_region 2 with (first | (refine zl rfl _ (.tmp 4) _ rfl _ rfl _ rfl _ rfl (heap_alloc_new _ _) zd ?_; intro w2 gw2 mw2; have b_1 := znb gw2; have nc_o := hid (show _ ≠ w1.heap.size from Nat.ne_of_lt (Nat.lt_of_lt_of_le c_1.lt (by omega))); have m_2 := m_1.step b_1; have c_3 := c_1.step b_1; have c_4 := zt c_2 b_1; clear m_1 c_1 c_2 b_1 gw2) | (refine ze rfl _ (.tmp 1) rfl _ rfl _ _ _ m_2 Tryz.underlying27 rfl zd ?_) | (refine ze rfl _ (.tmp 4) rfl _ rfl _ _ _ mw2 Tryz.underlying27 rfl zd ?_))
 have c0 := m_2.cell (k := 0) (by decide)
 have f0 := m_2.frozen 0
 rcases PAR with ⟨hp, hd0⟩ | ⟨hp, hd0⟩
 ·have hR := HR.out
  rw [if_neg (by omega)] at hR
  subst hR
  go_upto_region 3 with (first | (refine ze rfl _ (.tmp 1) rfl _ rfl _ _ _ m_2 Tryz.underlying27 rfl zd ?_) | (refine ze rfl _ (.tmp 4) rfl _ rfl _ _ _ mw2 Tryz.underlying27 rfl zd ?_))
  have bef := c_4
  go_wp2_with (first | (refine ze rfl _ (.tmp 1) rfl _ rfl _ _ _ m_2 Tryz.underlying27 rfl zd ?_) | (refine ze rfl _ (.tmp 4) rfl _ rfl _ _ _ mw2 Tryz.underlying27 rfl zd ?_) | (refine zx rfl _ (.tmp 2) _ rfl _ rfl (#[Value.int .u32 0, .int .u32 0, .int .u32 0, .int .u32 0, .int .u32 0, .int .u32 0, .int .u32 0, .int .u32 0, .int .u32 0, .int .u32 0, .int .u32 0, .int .u32 0, .int .u32 0, .int .u32 0, .int .u32 0, .int .u32 0, .int .u32 0, .int .u32 0, .int .u32 0, .int .u32 0, .int .u32 0, .int .u32 0, .int .u32 0, .int .u32 0, .int .u32 0]) rfl z25_cells _ c_3 rfl z6b ?_; intro wz gz mz))
  exact bodyPost_ret (z9b rfl rfl mz Tryz.underlying99 rfl z6b) rfl ⟨by rw [montA_zero]; rfl, zf bef gz bef.size loc.out⟩
 ·rcases EQ1 with ⟨h1, k1⟩ | ⟨h1, k1⟩
  ·have hR := HR.out
   rw [if_neg (by omega)] at hR
   subst hR
   clear h1
   go_upto_region 3 with (first | (refine ze rfl _ (.tmp 1) rfl _ rfl _ _ _ m_2 Tryz.underlying27 rfl zd ?_) | (refine ze rfl _ (.tmp 4) rfl _ rfl _ _ _ mw2 Tryz.underlying27 rfl zd ?_))
   have bef := c_4
   go_wp2_with (first | (refine ze rfl _ (.tmp 1) rfl _ rfl _ _ _ m_2 Tryz.underlying27 rfl zd ?_) | (refine ze rfl _ (.tmp 4) rfl _ rfl _ _ _ mw2 Tryz.underlying27 rfl zd ?_) | (refine zx rfl _ (.tmp 2) _ rfl _ rfl (#[Value.int .u32 0, .int .u32 0, .int .u32 0, .int .u32 0, .int .u32 0, .int .u32 0, .int .u32 0, .int .u32 0, .int .u32 0, .int .u32 0, .int .u32 0, .int .u32 0, .int .u32 0, .int .u32 0, .int .u32 0, .int .u32 0, .int .u32 0, .int .u32 0, .int .u32 0, .int .u32 0, .int .u32 0, .int .u32 0, .int .u32 0, .int .u32 0, .int .u32 0]) rfl z25_cells _ c_3 rfl z6b ?_; intro wz gz mz))
   exact bodyPost_ret (z9b rfl rfl mz Tryz.underlying99 rfl z6b) rfl ⟨by rw [montA_zero]; rfl, zf bef gz bef.size loc.out⟩
  ·have hR := HR.out
   rw [if_pos ⟨by omega, by omega⟩] at hR
   go_upto_region 4 with (first | (refine ze rfl _ (.tmp 1) rfl _ rfl _ _ _ m_2 Tryz.underlying27 rfl zd ?_) | (refine ze rfl _ (.tmp 4) rfl _ rfl _ _ _ mw2 Tryz.underlying27 rfl zd ?_))
   have h0 : 0 < m := by omega
   clear HR hp h1 k1
   have hr : ∀ w, Calls Tryz.prog 50 #[.agg #[.int .u32 0, .int .u32 0, .int .u32 0, .int .u32 0, .int .u32 0, .int .u32 0, .int .u32 0, .int .u32 0], numV 1, numV m] w fun e w' => e = .returned (.tuple #[numV (4294967296 ^ 8 % m), .bool (decide (m ≠ 0))]) ∧ Below w.heap.size w w' := fun w => by
    have := rest_any 0 1 m (by decide) (by decide) hm w
    rw [if_neg (by omega), Nat.zero_add, Nat.one_mul] at this
    rw [zeroA]; exact this
   have hRl : 4294967296 ^ 8 % m < m := Nat.mod_lt _ h0
   generalize 4294967296 ^ 8 % m = R at *
   have hRP : R < 4294967296 ^ 8 := by omega
   have hmu := mul_any R R hRP hRP
   have hr2 := fun w => rest_any (R * R % 4294967296 ^ 8) (R * R / 4294967296 ^ 8) m (Nat.mod_lt _ (by decide)) (Nat.div_lt_of_lt_mul (Nat.mul_lt_mul'' hRP hRP)) hm w
   rw [if_neg (by omega), show R * R % 4294967296 ^ 8 + R * R / 4294967296 ^ 8 * 4294967296 ^ 8 = R * R by rw [Nat.mul_comm (R * R / _)]; exact Nat.mod_add_div _ _] at hr2
   generalize R * R % 4294967296 ^ 8 = lo at *
   generalize R * R / 4294967296 ^ 8 = hi at *
   generalize R * R % m = T at *
   have hng := negated_any (digI m 0) (zka _ _) (zla _ _)
   generalize ngI (digI m 0) = N at *
   go_wp2_with (first | (refine ze rfl _ (.tmp 1) rfl _ rfl _ _ _ m_2 Tryz.underlying27 rfl zd ?_) | (refine ze rfl _ (.tmp 4) rfl _ rfl _ _ _ mw2 Tryz.underlying27 rfl zd ?_))
   refine (hr _).mono ?_
   rintro e w3 ⟨rfl, bw3⟩
   have m_3 := m_2.step bw3
   have c_5 := c_3.step bw3
   have o_1 := mw2.step bw3
   have c_6 := zt c_4 bw3
   clear m_2 c_3 mw2 c_4 bw3
   go_wp2_with (first | (refine zl rfl _ (.tmp 5) _ rfl _ rfl _ rfl _ rfl (heap_alloc_new _ _) zd ?_; intro w4 gw4 mw4; have b_2 := znb gw4; have nc_R := hid (show _ ≠ w3.heap.size from Nat.ne_of_lt (Nat.lt_of_lt_of_le c_5.lt (by omega))); have m_4 := m_3.step b_2; have c_7 := c_5.step b_2; have o_2 := o_1.step b_2; have c_8 := zt c_6 b_2; clear m_3 c_5 o_1 c_6 b_2 gw4) | (refine ze rfl _ (.tmp 5) rfl _ rfl _ _ _ mw4 Tryz.underlying27 rfl zd ?_))
   refine (hmu _).mono ?_
   rintro e w5 ⟨rfl, bw5⟩
   have m_5 := m_4.step bw5
   have c_9 := c_7.step bw5
   have o_3 := o_2.step bw5
   have R_1 := mw4.step bw5
   have c_10 := zt c_8 bw5
   clear m_4 c_7 o_2 mw4 c_8 bw5
   go_wp2_with (first | (refine zl rfl _ (.tmp 7) _ rfl _ rfl _ rfl _ rfl (news2 w5 _).1 zd ?_; intro w6 gw6 mw6) | (refine zl rfl _ (.tmp 8) _ rfl _ rfl _ rfl _ rfl ((gw6.block _ (by simp) (by simp)).trans (news2 w5 _).2) zd ?_; intro w7 gw7 mw7; have b_3 := step_new2 gw6 gw7; have qw6 := (mw6.grown gw7 (by simp <;> omega)); have nc_lo := hid (show _ ≠ w5.heap.size from Nat.ne_of_lt (Nat.lt_of_lt_of_le c_9.lt (by omega))); have nc_hi := hid (show _ ≠ w5.heap.size + 1 from Nat.ne_of_lt (Nat.lt_of_lt_of_le c_9.lt (by omega))); have m_6 := m_5.step b_3; have c_11 := c_9.step b_3; have o_4 := o_3.step b_3; have R_2 := R_1.step b_3; have c_12 := zt c_10 b_3; clear m_5 c_9 o_3 R_1 c_10 b_3 gw6 gw7 mw6) | (refine ze rfl _ (.tmp 1) rfl _ rfl _ _ _ m_6 Tryz.underlying27 rfl zd ?_) | (refine ze rfl _ (.tmp 7) rfl _ rfl _ _ _ qw6 Tryz.underlying27 rfl zd ?_) | (refine ze rfl _ (.tmp 8) rfl _ rfl _ _ _ mw7 Tryz.underlying27 rfl zd ?_))
   refine (hr2 _).mono ?_
   rintro e w8 ⟨rfl, bw8⟩
   have m_7 := m_6.step bw8
   have c_13 := c_11.step bw8
   have o_5 := o_4.step bw8
   have R_3 := R_2.step bw8
   have lo_1 := qw6.step bw8
   have hi_1 := mw7.step bw8
   have c_14 := zt c_12 bw8
   clear m_6 c_11 o_4 R_2 qw6 mw7 c_12 bw8
   go_upto_region 7 with (first | (refine zl rfl _ (.tmp 9) _ rfl _ rfl _ rfl _ rfl (heap_alloc_new _ _) zd ?_; intro w9 gw9 mw9; have b_4 := znb gw9; have nc_t := hid (show _ ≠ w8.heap.size from Nat.ne_of_lt (Nat.lt_of_lt_of_le c_13.lt (by omega))); have m_8 := m_7.step b_4; have c_15 := c_13.step b_4; have o_6 := o_5.step b_4; have R_4 := R_3.step b_4; have lo_2 := lo_1.step b_4; have hi_2 := hi_1.step b_4; have c_16 := zt c_14 b_4; clear m_7 c_13 o_5 R_3 lo_1 hi_1 c_14 b_4 gw9) | (refine ze rfl _ (.tmp 1) rfl _ rfl _ _ _ m_8 Tryz.underlying27 rfl zd ?_) | (refine ze rfl _ (.tmp 5) rfl _ rfl _ _ _ R_4 Tryz.underlying27 rfl zd ?_) | (refine ze rfl _ (.tmp 9) rfl _ rfl _ _ _ mw9 Tryz.underlying27 rfl zd ?_))
   refine wp_region_news 7 27 (.cells #[Value.int .u32 0, .int .u32 0, .int .u32 0, .int .u32 0, .int .u32 0, .int .u32 0, .int .u32 0, .int .u32 0] 27) (fun _ _ _ _ _ h => h) (by kernel_rfl) (by kernel_rfl) (by kernel_rfl) (by kernel_rfl) (by kernel_rfl) (by kernel_rfl) (by kernel_rfl) (by kernel_rfl) num_new ?_
   intro V_1
   simp only [calmN, isNew, hush, hushT, List.drop_succ_cons, List.drop_zero]
   have m_9 := m_8.step V_1.h
   have c_17 := c_15.step V_1.h
   have o_7 := o_6.step V_1.h
   have R_5 := R_4.step V_1.h
   have lo_3 := lo_2.step V_1.h
   have hi_3 := hi_2.step V_1.h
   have t_1 := mw9.step V_1.h
   have c_18 := zt c_16 V_1.h
   have c1 := fun X : Later V_1.w => ((m_9.later X).cell (k := 0) (by decide))
   have f1 := fun X : Later V_1.w => (m_9.later X).frozen 0
   (refine zw rfl _ (.tmp 1) rfl _ rfl _ _ _ m_9 Tryz.underlying27 rfl zd ?_; simp only [Act.put, List.setIfInBounds_toArray, List.set_cons_zero, List.set_cons_succ])
   (refine zw rfl _ (.tmp 5) rfl _ rfl _ _ _ R_5 Tryz.underlying27 rfl zd ?_; simp only [Act.put, List.setIfInBounds_toArray, List.set_cons_zero, List.set_cons_succ])
   (refine zw rfl _ (.tmp 9) rfl _ rfl _ _ _ t_1 Tryz.underlying27 rfl zd ?_; simp only [Act.put, List.setIfInBounds_toArray, List.set_cons_zero, List.set_cons_succ])
   go_big_quiet_step (fail)
   go_big_quiet_step (fail)
   go_big_quiet_step (exact later_same (hng _))
   (refine wpQuiet_op rfl _ (fun w => run_buildM _ _ _ _ rfl rfl rfl rfl rfl) ?_; simp only [Act.put, List.setIfInBounds_toArray, List.set_cons_zero, List.set_cons_succ])
   go_big_quiet_step (fail)
   go_big_quiet_step (fail)
   refine wpQuiet_nil ?_
   intro X_1 p_1 hp_1
   obtain ⟨hp_11, hp_12⟩ := hp_1
   have m_10 := m_9.step X_1.h
   have c_19 := c_17.step X_1.h
   have o_8 := o_7.step X_1.h
   have R_6 := R_5.step X_1.h
   have lo_4 := lo_3.step X_1.h
   have hi_4 := hi_3.step X_1.h
   have t_2 := t_1.step X_1.h
   have c_20 := zt c_18 X_1.h
   simp only [layN, isNew, Act.put, List.setIfInBounds_toArray, List.set_cons_zero, List.set_cons_succ, Nat.zero_add, Nat.reduceAdd]
   clear hp_11 hp_12
   clear m_8 c_15 o_6 R_4 lo_2 hi_2 mw9 c_16 m_9 c_17 o_7 R_5 lo_3 hi_3 t_1 c_18
   have bef := c_20
   go_wp2_with (first | (refine zx rfl _ (.tmp 2) _ rfl _ rfl (z7a m R T N) rfl (montA_cells _ _ _ _) _ c_19 rfl z6b ?_; intro wz gz mz))
   exact bodyPost_ret (z9b rfl rfl mz Tryz.underlying99 rfl z6b) rfl ⟨by rw [← hR]; rfl, zf bef gz bef.size loc.out⟩
end Go.Proofs.YtcfepoopkfhojaaGreat
namespace Go.Proofs.YtcfepoopkfhojaaGreat
open Go.ChangeShapes Go.WideShapes Go.ChangeAt Go.RowKit
theorem zcc (n : Nat) : (numA n).all (·.oneCell') = true := by simp [numA, numF, Value.oneCell']
end Go.Proofs.YtcfepoopkfhojaaGreat
namespace Go.Proofs.YtcfepoopkfhojaaGreat
open Go.ChangeShapes Go.WideShapes Go.ChangeAt Go.RowKit
theorem mm_mul {m : Nat} (ho : m % 2 = 1) (u v : Nat) : mm m (u * 4294967296 ^ 8 % m * (v * 4294967296 ^ 8 % m)) = u * v * 4294967296 ^ 8 % m := by
 have h0 : 0 < m := by omega
 have hu : ∀ r x : Nat, r < m → 4294967296 ^ 8 * r % m = x % m → r = mm m x := fun r x h k => mm_unique ho h k
 generalize 4294967296 ^ 8 = P at *
 refine (hu _ _ (Nat.mod_lt _ h0) ?_).symm
 rw [Nat.mul_mod_mod, ← Nat.mul_mod]
 congr 1
 grind
theorem pow_half (a e k : Nat) : a ^ (e / 2 ^ k) = a ^ (e / 2 ^ (k + 1)) * a ^ (e / 2 ^ (k + 1)) * (if e / 2 ^ k % 2 = 1 then a else 1) := by
 have h : e / 2 ^ (k + 1) = e / 2 ^ k / 2 := by rw [Nat.pow_succ, Nat.div_div_eq_div_mul]
 rw [h]
 generalize e / 2 ^ k = z
 obtain ⟨q, hq⟩ : ∃ q, q = z / 2 := ⟨_, rfl⟩
 rw [← hq, ← Nat.pow_add]
 rcases Nat.mod_two_eq_zero_or_one z with h0 | h0
 ·rw [if_neg (by omega), Nat.mul_one]; congr 1; omega
 ·rw [if_pos h0, ← Nat.pow_succ]; congr 1; omega
def pmN (m a e k : Nat) : Nat := a ^ (e / 2 ^ k) * 4294967296 ^ 8 % m
def prN (m a e k : Nat) : Nat := a ^ (e / 2 ^ k) % m
theorem pm_step {m : Nat} (ho : m % 2 = 1) (a e k : Nat) : ∃ Y Z, mm m (pmN m a e (k + 1) * pmN m a e (k + 1)) = Y ∧ mm m (Y * (a * 4294967296 ^ 8 % m)) = Z ∧ Y < m ∧ Z < m ∧ pickN (bitI e k) Z Y = pmN m a e k := by
 have h0 : 0 < m := by omega
 have e1 : mm m (pmN m a e (k + 1) * pmN m a e (k + 1)) = a ^ (e / 2 ^ (k + 1)) * a ^ (e / 2 ^ (k + 1)) * 4294967296 ^ 8 % m := mm_mul ho _ _
 refine ⟨_, _, rfl, rfl, mm_lt h0 _, mm_lt h0 _, ?_⟩
 rw [e1, mm_mul ho]
 unfold pickN bitI pmN
 rw [pow_half a e k]
 rcases Nat.mod_two_eq_zero_or_one (e / 2 ^ k) with h | h
 ·rw [h, if_pos (show ((0 : Nat) : Int) = 0 from rfl), if_neg (by omega), Nat.mul_one]
 ·rw [h, if_neg (show ¬ ((1 : Nat) : Int) = 0 by decide), if_pos rfl]
theorem pr_step (m a e k : Nat) : ∃ Y, prN m a e (k + 1) * prN m a e (k + 1) % m = Y ∧ (bitI e k = 0 ∧ Y = prN m a e k ∨ bitI e k = 1 ∧ Y * (a % m) % m = prN m a e k) := by
 refine ⟨_, rfl, ?_⟩
 unfold prN bitI
 rw [pow_half a e k, ← Nat.mul_mod]
 rcases Nat.mod_two_eq_zero_or_one (e / 2 ^ k) with h | h
 ·exact .inl ⟨by rw [h]; rfl, by rw [h, if_neg (by omega), Nat.mul_one]⟩
 ·exact .inr ⟨by rw [h]; rfl, by rw [h, if_pos rfl, ← Nat.mul_mod]⟩
theorem top_ends {e : Nat} (he : e < 4294967296 ^ 8) : ∃ K : Nat, topI e 8 = (K : Int) ∧ K ≤ 256 ∧ e / 2 ^ K = 0 := by
 rcases Nat.eq_zero_or_pos e with rfl | h0
 ·exact ⟨0, topI_none 8, by omega, by simp⟩
 ·obtain ⟨k, hk⟩ : ∃ k, e / 2 ^ k = 1 := by
   refine ⟨Nat.log2 e, ?_⟩
   have h1 := Nat.log2_self_le (n := e) (by omega)
   have h2 := Nat.lt_log2_self (n := e)
   rw [Nat.pow_succ] at h2
   exact Nat.div_eq_of_lt_le (by omega) (by omega)
  have h1 := top_one he hk
  refine ⟨k + 1, by rw [h1]; rfl, ?_, by rw [Nat.pow_succ, ← Nat.div_div_eq_div_mul, hk]⟩
  refine Nat.le_of_not_lt fun hge => ?_
  have : 2 ^ 256 ≤ 2 ^ k := Nat.pow_le_pow_right (by decide) (by omega)
  rw [Nat.div_eq_of_lt (by rw [big_eq] at he; omega)] at hk
  cases hk
theorem pm_first {m a e K : Nat} (h : e / 2 ^ K = 0) : pmN m a e K = 4294967296 ^ 8 % m := by unfold pmN; rw [h, Nat.pow_zero, Nat.one_mul]
theorem pm_last (m a e : Nat) : pmN m a e 0 = a ^ e * 4294967296 ^ 8 % m := by unfold pmN; rw [Nat.pow_zero, Nat.div_one]
theorem pr_first {m a e K : Nat} (h1 : 1 < m) (h : e / 2 ^ K = 0) : prN m a e K = 1 := by unfold prN; rw [h, Nat.pow_zero, Nat.mod_eq_of_lt h1]
theorem pr_last (m a e : Nat) : prN m a e 0 = a ^ e % m := by unfold prN; rw [Nat.pow_zero, Nat.div_one]
theorem pm_lt {m : Nat} (h0 : 0 < m) (a e k : Nat) : pmN m a e k < m := Nat.mod_lt _ h0
theorem pr_lt {m : Nat} (h0 : 0 < m) (a e k : Nat) : prN m a e k < m := Nat.mod_lt _ h0
attribute [irreducible] pmN prN
end Go.Proofs.YtcfepoopkfhojaaGreat
namespace Go.Proofs.YtcfepoopkfhojaaGreat
open Go.ChangeShapes Go.WideShapes Go.ChangeAt Go.RowKit
def prodA (R C : Nat) : Array Value := #[numF R 0, numF R 1, numF R 2, numF R 3, numF R 4, numF R 5, numF R 6, numF R 7, .func (.func 99) #[] #[.pointer (some ⟨C, 0, none⟩)], .func (.func 101) #[] #[]]
theorem size_prod : (Tryz.prog.info? 134).map (·.size) = some 10 := by kernel_rfl
theorem prodA_one {R C : Nat} (j : Nat) (v : Value) (h : (numA R)[j]? = some v) : (prodA R C)[0 + j]? = some v := by
 have hj := (Array.getElem?_eq_some_iff.1 h).1
 rw [zsc] at hj
 rw [Nat.zero_add, ← h]
 have : j = 0 ∨ j = 1 ∨ j = 2 ∨ j = 3 ∨ j = 4 ∨ j = 5 ∨ j = 6 ∨ j = 7 := by omega
 rcases this with rfl | rfl | rfl | rfl | rfl | rfl | rfl | rfl <;> rfl
theorem pow1_any (m r t : Nat) (n : Int) (hm : m < 4294967296 ^ 8) (ho : m % 2 = 1) (hn : ∃ q, n * digI m 0 + 1 = 4294967296 * q) (hn0 : 0 ≤ n) (hn1 : n < 4294967296) (x y : Nat) (hx : x < 4294967296 ^ 8) (hy : y < m) (C : Nat) (w : World) (hC : Blk w C 99 (z7a m r t n))  :
  Calls Tryz.prog 99 #[numV x, numV y, .pointer (some ⟨C, 0, none⟩)] w fun e w' => e = .returned (numV (mm m (x * y))) ∧ Below w.heap.size w w' := by
 have HN := hid hn
 clear hn
 have hCl := hC.lt
 go_enter Tryz.func99, Tryz.ntmps99
 go_upto_region 1 with fail
 obtain ⟨W, hW⟩ : ∃ W, W = ((((w.alloc (.cells (numA x) 27))).alloc (.cells (numA y) 27))).alloc (.cells #[Value.int .u32 0, .int .u32 0, .int .u32 0, .int .u32 0, .int .u32 0, .int .u32 0, .int .u32 0, .int .u32 0] 27) := ⟨_, rfl⟩
 have q_x : Num W (w.heap.size) 27 (x) := by
  have := (((Num.new w 27 (x)).alloc (.cells (numA y) 27)).alloc (.cells #[Value.int .u32 0, .int .u32 0, .int .u32 0, .int .u32 0, .int .u32 0, .int .u32 0, .int .u32 0, .int .u32 0] 27))
  rw [hW]; exact this
 have q_y : Num W (w.heap.size + 1) 27 (y) := by
  have := ((Num.new (w.alloc (.cells (numA x) 27)) 27 (y)).alloc (.cells #[Value.int .u32 0, .int .u32 0, .int .u32 0, .int .u32 0, .int .u32 0, .int .u32 0, .int .u32 0, .int .u32 0] 27))
  rw [World.size_alloc] at this
  rw [hW]; exact this
 have q_r : Num W (w.heap.size + 1 + 1) 27 0 := by
  have := (Num.new (((w.alloc (.cells (numA x) 27))).alloc (.cells (numA y) 27)) 27 0)
  rw [World.size_alloc, World.size_alloc, ← zeroA] at this
  rw [hW]; exact this
 have gb : Below w.heap.size w W := by rw [hW]; exact ((((Below.refl _ _).alloc (by simp <;> omega) _).alloc (by simp <;> omega) _).alloc (by simp <;> omega) _)
 rw [← hW]
 clear hW
 have lor := hid (show w.heap.size ≤ w.heap.size + 1 + 1 by omega)
 have nx_r := hid (show w.heap.size ≠ w.heap.size + 1 + 1 by omega)
 have ny_r := hid (show w.heap.size + 1 ≠ w.heap.size + 1 + 1 by omega)
 have q_k := hC.below gb hCl
 have nr_k := hid (show w.heap.size + 1 + 1 ≠ C by omega)
 go_wp2_with (first | (refine ze rfl _ (.tmp 3) rfl _ rfl _ _ _ q_x Tryz.underlying27 rfl zd ?_) | (refine ze rfl _ (.tmp 4) rfl _ rfl _ _ _ q_y Tryz.underlying27 rfl zd ?_) | (refine zma rfl _ (.tmp 2) rfl _ rfl _ _ _ q_k Tryz.underlying99 rfl z6b ?_))
 refine (mtmul_any m r t n hm ho HN.out hn0 hn1 x y hx hy _).mono ?_
 rintro e w1 ⟨rfl, bw1⟩
 have x_1 := q_x.step bw1
 have y_1 := q_y.step bw1
 have r_1 := q_r.step bw1
 have k_1 := q_k.step bw1
 have c_1 := zt gb bw1
 clear q_x q_y q_r q_k gb bw1
 go_wp2_with (first | (refine zl rfl _ (.tmp 5) _ rfl _ rfl _ rfl _ rfl r_1 zd ?_; intro w2 gw2 mw2; have x_2 := x_1.grown gw2 (zbb nx_r.out); have y_2 := y_1.grown gw2 (zbb ny_r.out); have k_2 := k_1.grown gw2 (zbb nr_k.out.symm); have c_2 := zf c_1 gw2 c_1.size lor.out; clear r_1 x_1 y_1 k_1 c_1 gw2))
 exact bodyPost_ret (z6a rfl rfl mw2 Tryz.underlying27 rfl zd) rfl ⟨rfl, c_2⟩
theorem power_any (m r t : Nat) (n : Int) (hm : m < 4294967296 ^ 8) (ho : m % 2 = 1) (hn : ∃ q, n * digI m 0 + 1 = 4294967296 * q) (hn0 : 0 ≤ n) (hn1 : n < 4294967296) (a x R A : Nat) (hx : x < 4294967296 ^ 8) (hR : R = 4294967296 ^ 8 % m) (hA : A = a * 4294967296 ^ 8 % m) (C : Nat) (w : World) (hC : Blk w C 99 (z7a m r t n))  :
  Calls Tryz.prog 103 #[.agg (prodA R C), numV A, numV x] w fun e w' => e = .returned (numV (a ^ x * 4294967296 ^ 8 % m)) ∧ Below w.heap.size w w' := by
 have HN := hid hn
 clear hn
 rw [← pm_last m a x]
 have HA := hid hA
 have HR := hid hR
 clear hA hR
 go_enter Tryz.func103, Tryz.ntmps103
 go_upto_region 1 with fail
 obtain ⟨W, hW⟩ : ∃ W, W = ((((((w.alloc (.cells (prodA R C) 134))).alloc (.cells (numA A) 27))).alloc (.cells (numA x) 27))).alloc (.cells #[Value.int .u32 0, .int .u32 0, .int .u32 0, .int .u32 0, .int .u32 0, .int .u32 0, .int .u32 0, .int .u32 0] 27) := ⟨_, rfl⟩
 have q_p : Blk W (w.heap.size) 134 (prodA R C) := by
  have := ((((Blk.new w 134 (prodA R C)).alloc (.cells (numA A) 27)).alloc (.cells (numA x) 27)).alloc (.cells #[Value.int .u32 0, .int .u32 0, .int .u32 0, .int .u32 0, .int .u32 0, .int .u32 0, .int .u32 0, .int .u32 0] 27))
  rw [hW]; exact this
 have q_a : Num W (w.heap.size + 1) 27 (A) := by
  have := (((Num.new (w.alloc (.cells (prodA R C) 134)) 27 (A)).alloc (.cells (numA x) 27)).alloc (.cells #[Value.int .u32 0, .int .u32 0, .int .u32 0, .int .u32 0, .int .u32 0, .int .u32 0, .int .u32 0, .int .u32 0] 27))
  rw [World.size_alloc] at this
  rw [hW]; exact this
 have q_e : Num W (w.heap.size + 1 + 1) 27 (x) := by
  have := ((Num.new (((w.alloc (.cells (prodA R C) 134))).alloc (.cells (numA A) 27)) 27 (x)).alloc (.cells #[Value.int .u32 0, .int .u32 0, .int .u32 0, .int .u32 0, .int .u32 0, .int .u32 0, .int .u32 0, .int .u32 0] 27))
  rw [World.size_alloc, World.size_alloc] at this
  rw [hW]; exact this
 have q_r : Num W (w.heap.size + 1 + 1 + 1) 27 0 := by
  have := (Num.new (((((w.alloc (.cells (prodA R C) 134))).alloc (.cells (numA A) 27))).alloc (.cells (numA x) 27)) 27 0)
  rw [World.size_alloc, World.size_alloc, World.size_alloc, ← zeroA] at this
  rw [hW]; exact this
 have gb : Below w.heap.size w W := by rw [hW]; exact (((((Below.refl _ _).alloc (by simp <;> omega) _).alloc (by simp <;> omega) _).alloc (by simp <;> omega) _).alloc (by simp <;> omega) _)
 rw [← hW]
 clear hW
 have lor := hid (show w.heap.size ≤ w.heap.size + 1 + 1 + 1 by omega)
 have np_r := hid (show w.heap.size ≠ w.heap.size + 1 + 1 + 1 by omega)
 have na_r := hid (show w.heap.size + 1 ≠ w.heap.size + 1 + 1 + 1 by omega)
 have ne_r := hid (show w.heap.size + 1 + 1 ≠ w.heap.size + 1 + 1 + 1 by omega)
 have hCl := hC.lt
 have q_k := hC.below gb hCl
 have nr_k := hid (show w.heap.size + 1 + 1 + 1 ≠ C by omega)
 go_upto_region 2 with (first | (refine ze rfl _ (.tmp 5) rfl _ rfl _ _ _ q_e Tryz.underlying27 rfl zd ?_) | (refine z9a rfl _ (.tmp 9) rfl _ _ rfl _ _ (numA R) _ q_p prodA_one Tryz.underlying27 rfl zd ?_) | (refine zl rfl _ (.tmp 7) _ rfl _ rfl _ rfl _ rfl (heap_alloc_new _ _) zd ?_; intro w1 gw1 mw1; have b_1 := znb gw1; have lox := hid (show _ ≤ W.heap.size from Nat.le_trans gb.size (by omega)); have np_x := hid (show _ ≠ W.heap.size from Nat.ne_of_lt (Nat.lt_of_lt_of_le q_p.lt (by omega))); have na_x := hid (show _ ≠ W.heap.size from Nat.ne_of_lt (Nat.lt_of_lt_of_le q_a.lt (by omega))); have ne_x := hid (show _ ≠ W.heap.size from Nat.ne_of_lt (Nat.lt_of_lt_of_le q_e.lt (by omega))); have nr_x := hid (show _ ≠ W.heap.size from Nat.ne_of_lt (Nat.lt_of_lt_of_le q_r.lt (by omega))); have nk_x := hid (show _ ≠ W.heap.size from Nat.ne_of_lt (Nat.lt_of_lt_of_le q_k.lt (by omega))); have p_1 := q_p.step b_1; have a_1 := q_a.step b_1; have e_1 := q_e.step b_1; have r_1 := q_r.step b_1; have k_1 := q_k.step b_1; have c_1 := zt gb b_1; clear q_p q_a q_e q_r q_k gb b_1 gw1) | (refine ze rfl _ (.tmp 5) rfl _ rfl _ _ _ e_1 Tryz.underlying27 rfl zd ?_) | (refine z9a rfl _ (.tmp 9) rfl _ _ rfl _ _ (numA R) _ p_1 prodA_one Tryz.underlying27 rfl zd ?_))
 go_wp2_with (first | (refine ze rfl _ (.tmp 5) rfl _ rfl _ _ _ e_1 Tryz.underlying27 rfl zd ?_) | (refine z9a rfl _ (.tmp 9) rfl _ _ rfl _ _ (numA R) _ p_1 prodA_one Tryz.underlying27 rfl zd ?_))
 refine (bits_any _ _).mono ?_
 rintro e w2 ⟨rfl, bw2⟩
 have p_2 := p_1.step bw2
 have a_2 := a_1.step bw2
 have e_2 := e_1.step bw2
 have r_2 := r_1.step bw2
 have k_2 := k_1.step bw2
 have x_1 := mw1.step bw2
 have c_2 := zt c_1 bw2
 clear p_1 a_1 e_1 r_1 k_1 mw1 c_1 bw2
 obtain ⟨K, hK, hK1, hK2⟩ := top_ends hx
 rw [hK]
 obtain ⟨B, HB⟩ : ∃ B, Hid (B = W.heap.size) := ⟨_, hid rfl⟩
 rw [← HB.out] at x_1 nr_x np_x na_x ne_x nk_x lox ⊢
 clear HB
 rw [HR.out, ← pm_first (m := m) (a := a) hK2] at x_1
 have xw := x_1
 obtain ⟨W0, rfl⟩ : ∃ W, W = w2 := ⟨_, rfl⟩
 go_wp2_with fail
 go_loopw [8] (fun i wr => ∃ k : Nat, k ≤ 256 ∧ i = .int .i64 ((k : Int) - 1) ∧ Num wr B 27 (pmN m a x k) ∧ W0.grownBy wr (some B)) (fun i _ => (intOf i + 1).toNat)
 case atStart => exact ⟨K, hK1, rfl, xw, World.grownBy.refl _ _⟩
 case round =>
  obtain ⟨k, hk, rfl, hX0, hg⟩ := hrel
  clear xw
  have hg0 := hg
  have p_3 := p_2.grown hg (zbb np_x.out)
  have a_3 := a_2.grown hg (zbb na_x.out)
  have e_3 := e_2.grown hg (zbb ne_x.out)
  have r_3 := r_2.grown hg (zbb nr_x.out)
  have k_3 := k_2.grown hg (zbb nk_x.out)
  have c_3 := zf c_2 hg c_2.size lox.out
  clear p_2 a_2 e_2 r_2 k_2 c_2 hg
  rcases Nat.eq_zero_or_pos k with rfl | hkp
  ·rw [show ((0 : Nat) : Int) - 1 = -1 from rfl]
   go_upto_region 7 with (first | (refine ze rfl _ (.tmp 7) rfl _ rfl _ _ _ hX0 Tryz.underlying27 rfl zd ?_))
   go_wp2_with (first | (refine ze rfl _ (.tmp 7) rfl _ rfl _ _ _ hX0 Tryz.underlying27 rfl zd ?_) | (refine zl rfl _ (.tmp 6) _ rfl _ rfl _ rfl _ rfl r_3 zd ?_; intro w3 gw3 mw3; have p_4 := p_3.grown gw3 (zbb np_r.out); have a_4 := a_3.grown gw3 (zbb na_r.out); have e_4 := e_3.grown gw3 (zbb ne_r.out); have k_4 := k_3.grown gw3 (zbb nr_k.out.symm); have x_2 := hX0.grown gw3 (zbb nr_x.out.symm); have c_4 := zf c_3 gw3 c_3.size lor.out; clear r_3 p_3 a_3 e_3 k_3 hX0 c_3 gw3) | (refine ze rfl _ (.tmp 7) rfl _ rfl _ _ _ x_2 Tryz.underlying27 rfl zd ?_))
   exact bodyPost_ret (z6a rfl rfl mw3 Tryz.underlying27 rfl zd) rfl ⟨rfl, c_4⟩
  ·obtain ⟨j, rfl⟩ : ∃ j, k = j + 1 := ⟨k - 1, by omega⟩
   rw [show ((j + 1 : Nat) : Int) - 1 = (j : Int) by omega]
   obtain ⟨Y, Z, e1, e2, hY, hZ, hpk⟩ := pm_step ho a x j
   have hXm := pm_lt (show 0 < m by omega) a x (j + 1)
   rw [← HA.out] at e2
   obtain ⟨X, hX⟩ : ∃ X, pmN m a x (j + 1) = X := ⟨_, rfl⟩
   rw [hX] at hX0 e1 hXm
   clear hX
   obtain ⟨V, hV⟩ : ∃ V, Hid (pmN m a x j = V) := ⟨_, hid rfl⟩
   rw [hV.out] at hpk
   have cp8 : wr.cell? ⟨w.heap.size, 8, none⟩ = some (.func (.func 99) #[] #[.pointer (some ⟨C, 0, none⟩)]) := p_3.cell (k := 8) rfl
   have fp8 := p_3.frozen 8
   go_upto_region 6 with (first | (refine ze rfl _ (.tmp 7) rfl _ rfl _ _ _ hX0 Tryz.underlying27 rfl zd ?_) | (go_at_call 99; refine (pow1_any m r t n hm ho HN.out hn0 hn1 X X (by omega) hXm C _ k_3).mono ?_; rintro e wq ⟨rfl, bq⟩; rw [e1]; have xq := hX0.step bq) | (refine zl rfl _ (.tmp 7) _ rfl _ rfl _ rfl _ rfl xq zd ?_; intro wy gy my))
   have hg1 := World.grownBy.trans (World.grownBy.trans hg0 (grown_below bq)) gy
   have p_4 := p_3.step bq
   have a_4 := a_3.step bq
   have e_4 := e_3.step bq
   have r_4 := r_3.step bq
   have k_4 := k_3.step bq
   have x_2 := hX0.step bq
   have c_4 := zt c_3 bq
   clear p_3 a_3 e_3 r_3 k_3 hX0 c_3
   have p_5 := p_4.grown gy (zbb np_x.out)
   have a_5 := a_4.grown gy (zbb na_x.out)
   have e_5 := e_4.grown gy (zbb ne_x.out)
   have r_5 := r_4.grown gy (zbb nr_x.out)
   have k_5 := k_4.grown gy (zbb nk_x.out)
   have c_5 := zf c_4 gy c_4.size lox.out
   clear p_4 a_4 e_4 r_4 k_4 x_2 c_4 gy
   clear cp8 fp8
   have hAm : A < m := by rw [HA.out]; exact Nat.mod_lt _ (by omega)
   have hb0 := bitI_bd x j
   have hpick : ∀ w, Calls Tryz.prog 101 #[.int .u32 (bits BinOp.and IntKind.u32 (digI x (j / 32) / 2 ^ (j % 32)) 1), numV Z, numV Y] w fun e w' => e = .returned (numV V) ∧ Below w.heap.size w w' := fun w => by
    rw [bit_dig, ← hpk]
    exact pick_any (bitI x j) (by omega) (by omega) Z Y w
   have cp8 := fun Q : Later wy => (show Q.w.cell? ⟨w.heap.size, 8, none⟩ = some (.func (.func 99) #[] #[.pointer (some ⟨C, 0, none⟩)]) from (p_5.below Q.h p_5.lt).cell (k := 8) rfl)
   have cp9 := fun Q : Later wy => (show Q.w.cell? ⟨w.heap.size, 9, none⟩ = some (.func (.func 101) #[] #[]) from (p_5.below Q.h p_5.lt).cell (k := 9) rfl)
   have fp8 := fun Q : Later wy => (p_5.below Q.h p_5.lt).frozen 8
   have fp9 := fun Q : Later wy => (p_5.below Q.h p_5.lt).frozen 9
   have ce := fun Q : Later wy => (show Q.w.cell? ⟨w.heap.size + 1 + 1, j / 32, none⟩ = some (.int .u32 (digI x (j / 32))) from (e_5.later Q).cell (k := j / 32) (by omega))
   have fe := fun Q : Later wy => (e_5.later Q).frozen (j / 32)
   have KK := fun Q : Later wy => k_5.below Q.h k_5.lt
   have hz : ∀ w, Blk w C 99 (z7a m r t n) → Calls Tryz.prog 99 #[numV Y, numV A, .pointer (some ⟨C, 0, none⟩)] w fun e w' => e = .returned (numV Z) ∧ Below w.heap.size w w' := fun w h => by
    rw [← e2]; exact pow1_any m r t n hm ho HN.out hn0 hn1 Y A (by omega) hAm C w h
   clear hpk
   try simp only [Act.put, List.setIfInBounds_toArray, List.set_cons_zero, List.set_cons_succ]
   refine wp_region_tail (by kernel_rfl) (by kernel_rfl) (by kernel_rfl) (by kernel_rfl) (by kernel_rfl) ?_
   simp only [calm, headOps, tailOps, List.length_cons, List.length_nil, List.drop_succ_cons, List.drop_zero, Nat.zero_add, Nat.reduceAdd]
   go_big_quiet_step (fail)
   go_big_quiet_step (fail)
   go_big_quiet_step (fail)
   go_big_quiet_step (fail)
   go_big_quiet_step (fail)
   go_big_quiet_step (fail)
   go_big_quiet_step (fail)
   go_big_quiet_step (fail)
   go_big_quiet_step (fail)
   go_big_quiet_step (fail)
   go_big_quiet_step (fail)
   go_big_quiet_step (fail)
   (refine zw rfl _ (.tmp 7) rfl _ rfl _ _ _ my Tryz.underlying27 rfl zd ?_; simp only [Act.put, List.setIfInBounds_toArray, List.set_cons_zero, List.set_cons_succ])
   (refine zw rfl _ (.tmp 4) rfl _ rfl _ _ _ a_5 Tryz.underlying27 rfl zd ?_; simp only [Act.put, List.setIfInBounds_toArray, List.set_cons_zero, List.set_cons_succ])
   go_big_quiet_step (exact z1b (hz _ (KK _)))
   (refine zw rfl _ (.tmp 7) rfl _ rfl _ _ _ my Tryz.underlying27 rfl zd ?_; simp only [Act.put, List.setIfInBounds_toArray, List.set_cons_zero, List.set_cons_succ])
   go_big_quiet_step (exact z1b (hpick _))
   refine wpQuiet_nil ?_
   intro XX
   have p_6 := p_5.step XX.h
   have a_6 := a_5.step XX.h
   have e_6 := e_5.step XX.h
   have r_6 := r_5.step XX.h
   have k_6 := k_5.step XX.h
   have x_3 := my.step XX.h
   have c_6 := zt c_5 XX.h
   clear p_5 a_5 e_5 r_5 k_5 my c_5
   go_wp2_with (first | (refine ze rfl _ (.tmp 7) rfl _ rfl _ _ _ x_3 Tryz.underlying27 rfl zd ?_) | (refine zl rfl _ (.tmp 7) _ rfl _ rfl _ rfl _ rfl x_3 zd ?_; intro wv gv mv))
   go_roundw
   case rel => exact ⟨j, by omega, rfl, by rw [hV.out]; exact mv, World.grownBy.trans (World.grownBy.trans hg1 (grown_below XX.h)) gv⟩
   case measure => simp [intOf] <;> omega
end Go.Proofs.YtcfepoopkfhojaaGreat
namespace Go.Proofs.YtcfepoopkfhojaaGreat
open Go.ChangeShapes Go.WideShapes Go.ChangeAt Go.RowKit
theorem prodA_cells (R C : Nat) : (prodA R C).all (·.oneCell') = true := by simp [prodA, numF, Value.oneCell']
theorem run_buildP {a : Act} {w : World} {o : Oper} (x0 x1 : Operand) (ho : o.op = .build 134 #[(0, x0), (1, x1), (2, .func 101)]) {R C : Nat} (h0 : a.eval x0 = numV R) (h1 : a.eval x1 = .func (.func 99) #[] #[.pointer (some ⟨C, 0, none⟩)]) : (execOp a.eval o).run Tryz.prog w = .ok (.value (.agg (prodA R C))) w := by
 unfold execOp
 simp only [ho, List.map_toArray, List.map_cons, List.map_nil, h0, h1]
 kernel_rfl
theorem mtpow_any (m R T : Nat) (n : Int) (hm : m < 4294967296 ^ 8) (ho : m % 2 = 1) (hn : ∃ q, n * digI m 0 + 1 = 4294967296 * q) (hn0 : 0 ≤ n) (hn1 : n < 4294967296) (h1m : 1 < m) (hR : R = 4294967296 ^ 8 % m) (hT : T = 4294967296 ^ 8 * 4294967296 ^ 8 % m) (a x : Nat) (ha : a < 4294967296 ^ 8) (hx : x < 4294967296 ^ 8) (w : World) :
  Calls Tryz.prog 68 #[.agg (z7a m R T n), numV a, numV x] w fun e w' => e = .returned (numV (a ^ x % m)) ∧ Below w.heap.size w w' := by
 have HN := hid hn
 have HR := hid hR
 have hTm : T < m := by rw [hT]; exact Nat.mod_lt _ (by omega)
 obtain ⟨A, HA⟩ : ∃ A, Hid (A = a * 4294967296 ^ 8 % m) := ⟨_, hid rfl⟩
 have hin : ∀ w, Calls Tryz.prog 104 #[.agg (z7a m R T n), numV a] w fun e w' => e = .returned (numV A) ∧ Below w.heap.size w w' := fun w => by
  rw [HA.out, ← mm_in ho a T hT]
  exact mtin_any m R T n hm ho HN.out hn0 hn1 a ha hTm w
 have hout : ∀ w, Calls Tryz.prog 102 #[.agg (z7a m R T n), numV (a ^ x * 4294967296 ^ 8 % m)] w fun e w' => e = .returned (numV (a ^ x % m)) ∧ Below w.heap.size w w' := fun w => by
  rw [← mm_out ho (a ^ x)]
  exact mtout_any m R T n hm h1m ho HN.out hn0 hn1 _ (Nat.lt_trans (Nat.mod_lt _ (by omega)) hm) w
 clear hn hR hT
 obtain ⟨V, hV⟩ : ∃ V, V = a ^ x % m := ⟨_, rfl⟩
 obtain ⟨U, hU⟩ : ∃ U, U = a ^ x * 4294967296 ^ 8 % m := ⟨_, rfl⟩
 have hpw := fun (C : Nat) (w : World) (hC : Blk w C 99 (z7a m R T n)) => power_any m R T n hm ho HN.out hn0 hn1 a x R A hx HR.out HA.out C w hC
 rw [← hV] at hout ⊢
 rw [← hU] at hout hpw
 clear hV hU
 go_enter Tryz.func68, Tryz.ntmps68
 go_upto_region 1 with fail
 obtain ⟨W, hW⟩ : ∃ W, W = ((((((w.alloc (.cells (z7a m R T n) 99))).alloc (.cells (numA a) 27))).alloc (.cells (numA x) 27))).alloc (.cells #[Value.int .u32 0, .int .u32 0, .int .u32 0, .int .u32 0, .int .u32 0, .int .u32 0, .int .u32 0, .int .u32 0] 27) := ⟨_, rfl⟩
 have q_c : Blk W (w.heap.size) 99 (z7a m R T n) := by
  have := ((((Blk.new w 99 (z7a m R T n)).alloc (.cells (numA a) 27)).alloc (.cells (numA x) 27)).alloc (.cells #[Value.int .u32 0, .int .u32 0, .int .u32 0, .int .u32 0, .int .u32 0, .int .u32 0, .int .u32 0, .int .u32 0] 27))
  rw [hW]; exact this
 have q_a : Num W (w.heap.size + 1) 27 (a) := by
  have := (((Num.new (w.alloc (.cells (z7a m R T n) 99)) 27 (a)).alloc (.cells (numA x) 27)).alloc (.cells #[Value.int .u32 0, .int .u32 0, .int .u32 0, .int .u32 0, .int .u32 0, .int .u32 0, .int .u32 0, .int .u32 0] 27))
  rw [World.size_alloc] at this
  rw [hW]; exact this
 have q_e : Num W (w.heap.size + 1 + 1) 27 (x) := by
  have := ((Num.new (((w.alloc (.cells (z7a m R T n) 99))).alloc (.cells (numA a) 27)) 27 (x)).alloc (.cells #[Value.int .u32 0, .int .u32 0, .int .u32 0, .int .u32 0, .int .u32 0, .int .u32 0, .int .u32 0, .int .u32 0] 27))
  rw [World.size_alloc, World.size_alloc] at this
  rw [hW]; exact this
 have q_r : Num W (w.heap.size + 1 + 1 + 1) 27 0 := by
  have := (Num.new (((((w.alloc (.cells (z7a m R T n) 99))).alloc (.cells (numA a) 27))).alloc (.cells (numA x) 27)) 27 0)
  rw [World.size_alloc, World.size_alloc, World.size_alloc, ← zeroA] at this
  rw [hW]; exact this
 have gb : Below w.heap.size w W := by rw [hW]; exact (((((Below.refl _ _).alloc (by simp <;> omega) _).alloc (by simp <;> omega) _).alloc (by simp <;> omega) _).alloc (by simp <;> omega) _)
 rw [← hW]
 clear hW
 have lor := hid (show w.heap.size ≤ w.heap.size + 1 + 1 + 1 by omega)
 have nc_r := hid (show w.heap.size ≠ w.heap.size + 1 + 1 + 1 by omega)
 have na_r := hid (show w.heap.size + 1 ≠ w.heap.size + 1 + 1 + 1 by omega)
 have ne_r := hid (show w.heap.size + 1 + 1 ≠ w.heap.size + 1 + 1 + 1 by omega)
 try simp only [Act.put, List.setIfInBounds_toArray, List.set_cons_zero, List.set_cons_succ]
 go_upto_region 2 with (first | (refine zma rfl _ (.tmp 3) rfl _ rfl _ _ _ q_c Tryz.underlying99 rfl z6b ?_) | (refine ze rfl _ (.tmp 4) rfl _ rfl _ _ _ q_a Tryz.underlying27 rfl zd ?_) | (refine z9a rfl _ (.tmp 8) rfl _ _ rfl _ _ (numA R) _ q_c montA_r Tryz.underlying27 rfl zd ?_) | (refine wpList_op rfl _ (run_buildP _ _ rfl rfl rfl) ?_) | (refine zx rfl _ (.tmp 7) _ rfl _ rfl (prodA R w.heap.size) rfl (prodA_cells _ _) _ (Blk.new _ _ _) rfl size_prod ?_; intro w1 g1 m1))
 try simp only [Act.put, List.setIfInBounds_toArray, List.set_cons_zero, List.set_cons_succ]
 have nc_p := hid (show _ ≠ W.heap.size from Nat.ne_of_lt q_c.lt)
 have na_p := hid (show _ ≠ W.heap.size from Nat.ne_of_lt q_a.lt)
 have ne_p := hid (show _ ≠ W.heap.size from Nat.ne_of_lt q_e.lt)
 have nr_p := hid (show _ ≠ W.heap.size from Nat.ne_of_lt q_r.lt)
 have lop := hid (show _ ≤ W.heap.size from gb.size)
 have b_1 := znb g1
 have c_1 := q_c.step b_1
 have a_1 := q_a.step b_1
 have e_1 := q_e.step b_1
 have r_1 := q_r.step b_1
 have c_2 := zt gb b_1
 clear q_c q_a q_e q_r gb b_1
 clear g1
 have KK := fun Q : Later w1 => c_1.below Q.h c_1.lt
 refine wp_region_tail (by kernel_rfl) (by kernel_rfl) (by kernel_rfl) (by kernel_rfl) (by kernel_rfl) ?_
 simp only [calm, headOps, tailOps, List.length_cons, List.length_nil, List.drop_succ_cons, List.drop_zero, Nat.zero_add, Nat.reduceAdd]
 (refine zjb rfl _ (.tmp 3) rfl _ rfl _ _ _ c_1 Tryz.underlying99 rfl z6b ?_; simp only [Act.put, List.setIfInBounds_toArray, List.set_cons_zero, List.set_cons_succ])
 (refine zjb rfl _ (.tmp 7) rfl _ rfl _ _ _ m1 Tryz.underlying134 rfl size_prod ?_; simp only [Act.put, List.setIfInBounds_toArray, List.set_cons_zero, List.set_cons_succ])
 (refine zjb rfl _ (.tmp 3) rfl _ rfl _ _ _ c_1 Tryz.underlying99 rfl z6b ?_; simp only [Act.put, List.setIfInBounds_toArray, List.set_cons_zero, List.set_cons_succ])
 (refine zw rfl _ (.tmp 4) rfl _ rfl _ _ _ a_1 Tryz.underlying27 rfl zd ?_; simp only [Act.put, List.setIfInBounds_toArray, List.set_cons_zero, List.set_cons_succ])
 go_big_quiet_step (exact z1b (hin _))
 (refine zw rfl _ (.tmp 5) rfl _ rfl _ _ _ e_1 Tryz.underlying27 rfl zd ?_; simp only [Act.put, List.setIfInBounds_toArray, List.set_cons_zero, List.set_cons_succ])
 go_big_quiet_step (exact z1b (hpw _ _ (KK _)))
 go_big_quiet_step (exact z1b (hout _))
 refine wpQuiet_nil ?_
 intro X_1
 have c_3 := c_1.step X_1.h
 have a_2 := a_1.step X_1.h
 have e_2 := e_1.step X_1.h
 have r_2 := r_1.step X_1.h
 have p_1 := m1.step X_1.h
 have c_4 := zt c_2 X_1.h
 clear c_1 a_1 e_1 r_1 m1 c_2
 go_wp2_with (first | (refine zl rfl _ (.tmp 6) _ rfl _ rfl _ rfl _ rfl r_2 zd ?_; intro w1 gw1 mw1; have c_5 := c_3.grown gw1 (zbb nc_r.out); have a_3 := a_2.grown gw1 (zbb na_r.out); have e_3 := e_2.grown gw1 (zbb ne_r.out); have p_2 := p_1.grown gw1 (zbb nr_p.out.symm); have c_6 := zf c_4 gw1 c_4.size lor.out; clear r_2 c_3 a_2 e_2 p_1 c_4 gw1))
 exact bodyPost_ret (z6a rfl rfl mw1 Tryz.underlying27 rfl zd) rfl ⟨rfl, c_6⟩
end Go.Proofs.YtcfepoopkfhojaaGreat
namespace Go.Proofs.YtcfepoopkfhojaaGreat
open Go.ChangeShapes Go.WideShapes Go.ChangeAt Go.RowKit
end Go.Proofs.YtcfepoopkfhojaaGreat
namespace Go.Proofs.YtcfepoopkfhojaaGreat
open Go.ChangeShapes Go.WideShapes Go.ChangeAt Go.RowKit
structure MR (m : Nat) (C : Array Value) : Prop where
 odd : m % 2 = 1
 one : 1 < m
 lt : m < 4294967296 ^ 8
 eq : C = z7a m (4294967296 ^ 8 % m) (4294967296 ^ 8 * 4294967296 ^ 8 % m) (ngI (digI m 0))
section
variable {m : Nat} {C : Array Value}
theorem MR.size (h : MR m C) : C.size = 25 := by rw [h.eq]; rfl
theorem MR.cells (h : MR m C) : C.all (·.oneCell') = true := by rw [h.eq]; exact montA_cells _ _ _ _
theorem MR.info (h : MR m C) : (Tryz.prog.info? 99).map (·.size) = some C.size := by rw [h.size]; exact z6b
theorem MR.pr (h : MR m C) (j : Nat) (v : Value) (hv : (numA (4294967296 ^ 8 % m))[j]? = some v) : C[8 + j]? = some v := by rw [h.eq]; exact montA_r j v hv
theorem MR.pn (h : MR m C) : C[24]? = some (.int .u32 (ngI (digI m 0))) := by rw [h.eq]; rfl
theorem dig0_odd {m : Nat} (h : m % 2 = 1) : digI m 0 % 2 = 1 := by unfold digI dig; simp; omega
theorem MR.ng (h : MR m C) : ∃ q, ngI (digI m 0) * digI m 0 + 1 = 4294967296 * q := ng_spec (dig0_odd h.odd)
theorem ngI_bd (o : Int) : 0 ≤ ngI o ∧ ngI o < 4294967296 := by unfold ngI; omega
theorem MR.out (h : MR m C) {a : Nat} (ha : a < 4294967296 ^ 8) (w : World) : Calls Tryz.prog 102 #[.agg C, numV a] w fun e w' => e = .returned (numV (mm m a)) ∧ Below w.heap.size w w' := by
 rw [h.eq]; exact mtout_any m _ _ _ h.lt h.one h.odd h.ng (ngI_bd _).1 (ngI_bd _).2 a ha w
theorem MR.mul (h : MR m C) {a b : Nat} (ha : a < 4294967296 ^ 8) (hb : b < m) (w : World) : Calls Tryz.prog 100 #[.agg C, numV a, numV b] w fun e w' => e = .returned (numV (mm m (a * b))) ∧ Below w.heap.size w w' := by
 rw [h.eq]; exact mtmul_any m _ _ _ h.lt h.odd h.ng (ngI_bd _).1 (ngI_bd _).2 a b ha hb w
theorem MR.pow (h : MR m C) {a x : Nat} (ha : a < 4294967296 ^ 8) (hx : x < 4294967296 ^ 8) (w : World) : Calls Tryz.prog 68 #[.agg C, numV a, numV x] w fun e w' => e = .returned (numV (a ^ x % m)) ∧ Below w.heap.size w w' := by
 rw [h.eq]; exact mtpow_any m _ _ _ h.lt h.odd h.ng (ngI_bd _).1 (ngI_bd _).2 h.one rfl rfl a x ha hx w
end
theorem mr_make {m : Nat} (ho : m % 2 = 1) (h1 : 1 < m) (hm : m < 4294967296 ^ 8) : ∃ C, MR m C ∧ ∀ w, Calls Tryz.prog 67 #[numV m] w fun e w' => e = .returned (.tuple #[.agg C, .bool true]) ∧ Below w.heap.size w w' := by
 have e : 4294967296 ^ 8 % m * (4294967296 ^ 8 % m) % m = 4294967296 ^ 8 * 4294967296 ^ 8 % m := (Nat.mul_mod _ _ _).symm
 refine ⟨_, ⟨ho, h1, hm, rfl⟩, fun w => ?_⟩
 have := mtmake_any m hm w
 rw [if_pos ⟨ho, by omega⟩, e] at this
 exact this
end Go.Proofs.YtcfepoopkfhojaaGreat
namespace Go.Proofs.YtcfepoopkfhojaaGreat
open Go.ChangeShapes Go.WideShapes Go.ChangeAt Go.RowKit
noncomputable def safeB (p : Int) : Bool := primeB (p / 2) && primeB p
end Go.Proofs.YtcfepoopkfhojaaGreat
namespace Go.Proofs.YtcfepoopkfhojaaGreat
open Go.ChangeShapes Go.WideShapes Go.ChangeAt Go.RowKit
def zg (k : Int) (p q g : Nat) : Array Value := #[.int .i64 k, numF p 0, numF p 1, numF p 2, numF p 3, numF p 4, numF p 5, numF p 6, numF p 7, numF q 0, numF q 1, numF q 2, numF q 3, numF q 4, numF q 5, numF q 6, numF q 7, numF g 0, numF g 1, numF g 2, numF g 3, numF g 4, numF g 5, numF g 6, numF g 7]
theorem zdc : (Tryz.prog.info? 29).map (·.size) = some 25 := by kernel_rfl
theorem zxb : zg 0 0 0 0 = #[Value.int .i64 0, .int .u32 0, .int .u32 0, .int .u32 0, .int .u32 0, .int .u32 0, .int .u32 0, .int .u32 0, .int .u32 0, .int .u32 0, .int .u32 0, .int .u32 0, .int .u32 0, .int .u32 0, .int .u32 0, .int .u32 0, .int .u32 0, .int .u32 0, .int .u32 0, .int .u32 0, .int .u32 0, .int .u32 0, .int .u32 0, .int .u32 0, .int .u32 0] := by unfold zg; simp only [numF_none]
theorem z3b (k : Int) (p q g : Nat) : (zg k p q g).all (·.oneCell') = true := by simp [zg, numF, Value.oneCell']
theorem run_buildG {a : Act} {w : World} {o : Oper} (x0 x1 x2 x3 : Operand) (ho : o.op = .build 29 #[(0, x0), (1, x1), (2, x2), (3, x3)]) {k : Int} {p q g : Nat} (h0 : a.eval x0 = .int .i64 k) (h1 : a.eval x1 = numV p) (h2 : a.eval x2 = numV q) (h3 : a.eval x3 = numV g) : (execOp a.eval o).run Tryz.prog w = .ok (.value (.agg (zg k p q g))) w := by
 unfold execOp
 simp only [ho, List.map_toArray, List.map_cons, List.map_nil, h0, h1, h2, h3]
 kernel_rfl
theorem zG_cells : (#[Value.int .i64 0, .int .u32 0, .int .u32 0, .int .u32 0, .int .u32 0, .int .u32 0, .int .u32 0, .int .u32 0, .int .u32 0, .int .u32 0, .int .u32 0, .int .u32 0, .int .u32 0, .int .u32 0, .int .u32 0, .int .u32 0, .int .u32 0, .int .u32 0, .int .u32 0, .int .u32 0, .int .u32 0, .int .u32 0, .int .u32 0, .int .u32 0, .int .u32 0]).all (·.oneCell') = true := by rw [← zxb]; exact z3b _ _ _ _
theorem pow_k {k : Int} (h : 12 ≤ k ∧ k ≤ 31) : 0 ≤ (2 : Int) ^ k.toNat ∧ (2 : Int) ^ k.toNat ≤ 2147483648 := by
 obtain ⟨K, rfl⟩ := Int.eq_ofNat_of_zero_le (show 0 ≤ k by omega)
 have hl : 2 ^ K ≤ 2 ^ 31 := Nat.pow_le_pow_right (by decide) (by omega)
 have e : ((2 : Int) ^ K) = ((2 ^ K : Nat) : Int) := by simp
 rw [Int.toNat_natCast, e]
 generalize 2 ^ K = P at *
 have : P ≤ 2147483648 := hl
 omega
end Go.Proofs.YtcfepoopkfhojaaGreat
namespace Go.Proofs.YtcfepoopkfhojaaGreat
open Go.ChangeShapes Go.WideShapes Go.ChangeAt Go.RowKit
theorem groupA_p {k : Int} {p q g : Nat} (j : Nat) (v : Value) (h : (numA p)[j]? = some v) : (zg k p q g)[1 + j]? = some v := by
 have hj := (Array.getElem?_eq_some_iff.1 h).1
 rw [zsc] at hj
 rw [← h]
 have : j = 0 ∨ j = 1 ∨ j = 2 ∨ j = 3 ∨ j = 4 ∨ j = 5 ∨ j = 6 ∨ j = 7 := by omega
 rcases this with rfl | rfl | rfl | rfl | rfl | rfl | rfl | rfl <;> rfl
theorem groupA_q {k : Int} {p q g : Nat} (j : Nat) (v : Value) (h : (numA q)[j]? = some v) : (zg k p q g)[9 + j]? = some v := by
 have hj := (Array.getElem?_eq_some_iff.1 h).1
 rw [zsc] at hj
 rw [← h]
 have : j = 0 ∨ j = 1 ∨ j = 2 ∨ j = 3 ∨ j = 4 ∨ j = 5 ∨ j = 6 ∨ j = 7 := by omega
 rcases this with rfl | rfl | rfl | rfl | rfl | rfl | rfl | rfl <;> rfl
theorem zoc (k : Int) (P Q g : Nat) (ho : P % 2 = 1) (h1 : 1 < P) (hP : P < 4294967296 ^ 8) (a e : Nat) (ha : a < 4294967296 ^ 8) (he : e < 4294967296 ^ 8) (w : World) :
  Calls Tryz.prog 33 #[.agg (zg k P Q g), numV a, numV e] w fun e_ w' => e_ = .returned (numV (a ^ e % P)) ∧ Below w.heap.size w w' := by
 obtain ⟨C, hC, kM⟩ := mr_make ho h1 hP
 have kP := fun w => hC.pow ha he w
 obtain ⟨V, hV⟩ : ∃ V, a ^ e % P = V := ⟨_, rfl⟩
 rw [hV] at kP ⊢
 clear hV ho h1 hP ha he
 go_enter Tryz.func33, Tryz.ntmps33
 go_upto_region 1 with fail
 obtain ⟨W, hW⟩ : ∃ W, W = ((((((w.alloc (.cells (zg k P Q g) 29))).alloc (.cells (numA a) 27))).alloc (.cells (numA e) 27))).alloc (.cells #[Value.int .u32 0, .int .u32 0, .int .u32 0, .int .u32 0, .int .u32 0, .int .u32 0, .int .u32 0, .int .u32 0] 27) := ⟨_, rfl⟩
 have q_gr : Blk W (w.heap.size) 29 (zg k P Q g) := by
  have := ((((Blk.new w 29 (zg k P Q g)).alloc (.cells (numA a) 27)).alloc (.cells (numA e) 27)).alloc (.cells #[Value.int .u32 0, .int .u32 0, .int .u32 0, .int .u32 0, .int .u32 0, .int .u32 0, .int .u32 0, .int .u32 0] 27))
  rw [hW]; exact this
 have q_a : Num W (w.heap.size + 1) 27 (a) := by
  have := (((Num.new (w.alloc (.cells (zg k P Q g) 29)) 27 (a)).alloc (.cells (numA e) 27)).alloc (.cells #[Value.int .u32 0, .int .u32 0, .int .u32 0, .int .u32 0, .int .u32 0, .int .u32 0, .int .u32 0, .int .u32 0] 27))
  rw [World.size_alloc] at this
  rw [hW]; exact this
 have q_e : Num W (w.heap.size + 1 + 1) 27 (e) := by
  have := ((Num.new (((w.alloc (.cells (zg k P Q g) 29))).alloc (.cells (numA a) 27)) 27 (e)).alloc (.cells #[Value.int .u32 0, .int .u32 0, .int .u32 0, .int .u32 0, .int .u32 0, .int .u32 0, .int .u32 0, .int .u32 0] 27))
  rw [World.size_alloc, World.size_alloc] at this
  rw [hW]; exact this
 have q_r : Num W (w.heap.size + 1 + 1 + 1) 27 0 := by
  have := (Num.new (((((w.alloc (.cells (zg k P Q g) 29))).alloc (.cells (numA a) 27))).alloc (.cells (numA e) 27)) 27 0)
  rw [World.size_alloc, World.size_alloc, World.size_alloc, ← zeroA] at this
  rw [hW]; exact this
 have gb : Below w.heap.size w W := by rw [hW]; exact (((((Below.refl _ _).alloc (by simp <;> omega) _).alloc (by simp <;> omega) _).alloc (by simp <;> omega) _).alloc (by simp <;> omega) _)
 rw [← hW]
 clear hW
 have lor := hid (show w.heap.size ≤ w.heap.size + 1 + 1 + 1 by omega)
 have ngr_r := hid (show w.heap.size ≠ w.heap.size + 1 + 1 + 1 by omega)
 have na_r := hid (show w.heap.size + 1 ≠ w.heap.size + 1 + 1 + 1 by omega)
 have ne_r := hid (show w.heap.size + 1 + 1 ≠ w.heap.size + 1 + 1 + 1 by omega)
 go_wp2_with (first | (refine z9a rfl _ (.tmp 10) rfl _ _ rfl _ _ (numA P) _ q_gr groupA_p Tryz.underlying27 rfl zd ?_))
 refine (kM _).mono ?_
 rintro e w1 ⟨rfl, bw1⟩
 have gr_1 := q_gr.step bw1
 have a_1 := q_a.step bw1
 have e_1 := q_e.step bw1
 have r_1 := q_r.step bw1
 have c_1 := zt gb bw1
 clear q_gr q_a q_e q_r gb bw1
 go_upto_region 2 with (first | (refine ze rfl _ (.tmp 4) rfl _ rfl _ _ _ a_1 Tryz.underlying27 rfl zd ?_) | (refine ze rfl _ (.tmp 5) rfl _ rfl _ _ _ e_1 Tryz.underlying27 rfl zd ?_) | (refine zx rfl _ (.tmp 7) _ rfl _ rfl (C) rfl hC.cells _ (heap_alloc_new _ _) (by rw [hC.size]; rfl) hC.info ?_; intro w2 gw2 mw2))
 try simp only [Act.put, List.setIfInBounds_toArray, List.set_cons_zero, List.set_cons_succ]
 have ngr_c := hid (show _ ≠ w1.heap.size from Nat.ne_of_lt gr_1.lt)
 have na_c := hid (show _ ≠ w1.heap.size from Nat.ne_of_lt a_1.lt)
 have ne_c := hid (show _ ≠ w1.heap.size from Nat.ne_of_lt e_1.lt)
 have nr_c := hid (show _ ≠ w1.heap.size from Nat.ne_of_lt r_1.lt)
 have loc := hid (show _ ≤ w1.heap.size from c_1.size)
 have b_1 := znb gw2
 have gr_2 := gr_1.step b_1
 have a_2 := a_1.step b_1
 have e_2 := e_1.step b_1
 have r_2 := r_1.step b_1
 have c_2 := zt c_1 b_1
 clear gr_1 a_1 e_1 r_1 c_1 b_1
 clear gw2
 go_wp2_with (first | (refine ze rfl _ (.tmp 4) rfl _ rfl _ _ _ a_2 Tryz.underlying27 rfl zd ?_) | (refine ze rfl _ (.tmp 5) rfl _ rfl _ _ _ e_2 Tryz.underlying27 rfl zd ?_) | (refine zma rfl _ (.tmp 7) rfl _ rfl _ _ _ mw2 Tryz.underlying99 rfl hC.info ?_))
 refine (kP _).mono ?_
 rintro e w3 ⟨rfl, bw3⟩
 have gr_3 := gr_2.step bw3
 have a_3 := a_2.step bw3
 have e_3 := e_2.step bw3
 have r_3 := r_2.step bw3
 have c_3 := mw2.step bw3
 have c_4 := zt c_2 bw3
 clear gr_2 a_2 e_2 r_2 mw2 c_2 bw3
 have bef := c_4
 go_wp2_with (first | (refine ze rfl _ (.tmp 6) rfl _ rfl _ _ _ r_3 Tryz.underlying27 rfl zd ?_) | (refine zl rfl _ (.tmp 6) _ rfl _ rfl _ rfl _ rfl r_3 zd ?_; intro wz gz mz))
 exact bodyPost_ret (z6a rfl rfl mz Tryz.underlying27 rfl zd) rfl ⟨rfl, zf bef gz bef.size (by omega)⟩
theorem gtimes_any (k : Int) (P Q g : Nat) (ho : P % 2 = 1) (h1 : 1 < P) (hP : P < 4294967296 ^ 8) (a b : Nat) (ha : a < 4294967296 ^ 8) (hb : b < 4294967296 ^ 8) (w : World) :
  Calls Tryz.prog 40 #[.agg (zg k P Q g), numV a, numV b] w fun e w' => e = .returned (numV (a * b % P)) ∧ Below w.heap.size w w' := by
 have kM := fun w => mul_any a b ha hb w
 have hq : a * b % 4294967296 ^ 8 + a * b / 4294967296 ^ 8 * 4294967296 ^ 8 = a * b := by rw [Nat.mul_comm (a * b / _)]; exact Nat.mod_add_div _ _
 have kR := fun w => rest_pos (a * b % 4294967296 ^ 8) (a * b / 4294967296 ^ 8) P (Nat.mod_lt _ (by decide)) (Nat.div_lt_of_lt_mul (Nat.mul_lt_mul'' ha hb)) hP (by omega) w
 rw [hq] at kR
 generalize a * b % 4294967296 ^ 8 = L at *
 generalize a * b / 4294967296 ^ 8 = H at *
 obtain ⟨V, hV⟩ : ∃ V, a * b % P = V := ⟨_, rfl⟩
 rw [hV] at kR ⊢
 clear hV hq ho h1 hP ha hb
 go_enter Tryz.func40, Tryz.ntmps40
 go_upto_region 1 with fail
 obtain ⟨W, hW⟩ : ∃ W, W = ((((((w.alloc (.cells (zg k P Q g) 29))).alloc (.cells (numA a) 27))).alloc (.cells (numA b) 27))).alloc (.cells #[Value.int .u32 0, .int .u32 0, .int .u32 0, .int .u32 0, .int .u32 0, .int .u32 0, .int .u32 0, .int .u32 0] 27) := ⟨_, rfl⟩
 have q_gr : Blk W (w.heap.size) 29 (zg k P Q g) := by
  have := ((((Blk.new w 29 (zg k P Q g)).alloc (.cells (numA a) 27)).alloc (.cells (numA b) 27)).alloc (.cells #[Value.int .u32 0, .int .u32 0, .int .u32 0, .int .u32 0, .int .u32 0, .int .u32 0, .int .u32 0, .int .u32 0] 27))
  rw [hW]; exact this
 have q_a : Num W (w.heap.size + 1) 27 (a) := by
  have := (((Num.new (w.alloc (.cells (zg k P Q g) 29)) 27 (a)).alloc (.cells (numA b) 27)).alloc (.cells #[Value.int .u32 0, .int .u32 0, .int .u32 0, .int .u32 0, .int .u32 0, .int .u32 0, .int .u32 0, .int .u32 0] 27))
  rw [World.size_alloc] at this
  rw [hW]; exact this
 have q_b : Num W (w.heap.size + 1 + 1) 27 (b) := by
  have := ((Num.new (((w.alloc (.cells (zg k P Q g) 29))).alloc (.cells (numA a) 27)) 27 (b)).alloc (.cells #[Value.int .u32 0, .int .u32 0, .int .u32 0, .int .u32 0, .int .u32 0, .int .u32 0, .int .u32 0, .int .u32 0] 27))
  rw [World.size_alloc, World.size_alloc] at this
  rw [hW]; exact this
 have q_r : Num W (w.heap.size + 1 + 1 + 1) 27 0 := by
  have := (Num.new (((((w.alloc (.cells (zg k P Q g) 29))).alloc (.cells (numA a) 27))).alloc (.cells (numA b) 27)) 27 0)
  rw [World.size_alloc, World.size_alloc, World.size_alloc, ← zeroA] at this
  rw [hW]; exact this
 have gb : Below w.heap.size w W := by rw [hW]; exact (((((Below.refl _ _).alloc (by simp <;> omega) _).alloc (by simp <;> omega) _).alloc (by simp <;> omega) _).alloc (by simp <;> omega) _)
 rw [← hW]
 clear hW
 have lor := hid (show w.heap.size ≤ w.heap.size + 1 + 1 + 1 by omega)
 have ngr_r := hid (show w.heap.size ≠ w.heap.size + 1 + 1 + 1 by omega)
 have na_r := hid (show w.heap.size + 1 ≠ w.heap.size + 1 + 1 + 1 by omega)
 have nb_r := hid (show w.heap.size + 1 + 1 ≠ w.heap.size + 1 + 1 + 1 by omega)
 go_wp2_with (first | (refine ze rfl _ (.tmp 4) rfl _ rfl _ _ _ q_a Tryz.underlying27 rfl zd ?_) | (refine ze rfl _ (.tmp 5) rfl _ rfl _ _ _ q_b Tryz.underlying27 rfl zd ?_))
 refine (kM _).mono ?_
 rintro e w1 ⟨rfl, bw1⟩
 have gr_1 := q_gr.step bw1
 have a_1 := q_a.step bw1
 have b_1 := q_b.step bw1
 have r_1 := q_r.step bw1
 have c_1 := zt gb bw1
 clear q_gr q_a q_b q_r gb bw1
 go_wp2_with (first | (refine zl rfl _ (.tmp 7) _ rfl _ rfl _ rfl _ rfl (news2 w1 _).1 zd ?_; intro w2 gw2 mw2) | (refine zl rfl _ (.tmp 8) _ rfl _ rfl _ rfl _ rfl ((gw2.block _ (by simp) (by simp)).trans (news2 w1 _).2) zd ?_; intro w3 gw3 mw3; have b_2 := step_new2 gw2 gw3; have qw2 := (mw2.grown gw3 (by simp <;> omega)); have nr_lo := hid (show _ ≠ w1.heap.size from Nat.ne_of_lt (Nat.lt_of_lt_of_le r_1.lt (by omega))); have nr_hi := hid (show _ ≠ w1.heap.size + 1 from Nat.ne_of_lt (Nat.lt_of_lt_of_le r_1.lt (by omega))); have gr_2 := gr_1.step b_2; have a_2 := a_1.step b_2; have b_3 := b_1.step b_2; have r_2 := r_1.step b_2; have c_2 := zt c_1 b_2; clear gr_1 a_1 b_1 r_1 c_1 b_2 gw2 gw3 mw2) | (refine ze rfl _ (.tmp 7) rfl _ rfl _ _ _ qw2 Tryz.underlying27 rfl zd ?_) | (refine ze rfl _ (.tmp 8) rfl _ rfl _ _ _ mw3 Tryz.underlying27 rfl zd ?_) | (refine z9a rfl _ (.tmp 20) rfl _ _ rfl _ _ (numA P) _ gr_2 groupA_p Tryz.underlying27 rfl zd ?_))
 refine (kR _).mono ?_
 rintro e w4 ⟨rfl, bw4⟩
 have gr_3 := gr_2.step bw4
 have a_3 := a_2.step bw4
 have b_4 := b_3.step bw4
 have r_3 := r_2.step bw4
 have lo_1 := qw2.step bw4
 have hi_1 := mw3.step bw4
 have c_3 := zt c_2 bw4
 clear gr_2 a_2 b_3 r_2 qw2 mw3 c_2 bw4
 go_upto_region 3 with (first | (refine zl rfl _ (.tmp 9) _ rfl _ rfl _ rfl _ rfl (heap_alloc_new _ _) zd ?_; intro w5 gw5 mw5; have b_5 := znb gw5; have nr_x := hid (show _ ≠ w4.heap.size from Nat.ne_of_lt (Nat.lt_of_lt_of_le r_3.lt (by omega))); have gr_4 := gr_3.step b_5; have a_4 := a_3.step b_5; have b_6 := b_4.step b_5; have r_4 := r_3.step b_5; have lo_2 := lo_1.step b_5; have hi_2 := hi_1.step b_5; have c_4 := zt c_3 b_5; clear gr_3 a_3 b_4 r_3 lo_1 hi_1 c_3 b_5 gw5) | (refine ze rfl _ (.tmp 9) rfl _ rfl _ _ _ mw5 Tryz.underlying27 rfl zd ?_))
 try simp only [Act.put, List.setIfInBounds_toArray, List.set_cons_zero, List.set_cons_succ]
 have bef := c_4
 go_wp2_with (first | (refine ze rfl _ (.tmp 6) rfl _ rfl _ _ _ r_4 Tryz.underlying27 rfl zd ?_) | (refine ze rfl _ (.tmp 9) rfl _ rfl _ _ _ mw5 Tryz.underlying27 rfl zd ?_) | (refine zl rfl _ (.tmp 6) _ rfl _ rfl _ rfl _ rfl r_4 zd ?_; intro wz gz mz))
 exact bodyPost_ret (z6a rfl rfl mz Tryz.underlying27 rfl zd) rfl ⟨rfl, zf bef gz bef.size (by omega)⟩
end Go.Proofs.YtcfepoopkfhojaaGreat
namespace Go.Proofs.YtcfepoopkfhojaaGreat
open Go.ChangeShapes Go.WideShapes Go.ChangeAt Go.RowKit
def hasB (a P Q : Nat) : Bool := decide (1 < a ∧ a < P ∧ a ^ Q % P = 1)
theorem has_pack {k : Int} {a P Q g : Nat} (ho : P % 2 = 1) (h1 : 1 < P) (hP : P < 4294967296 ^ 8) (ha : a < 4294967296 ^ 8) (hQ : Q < 4294967296 ^ 8) : ∃ (V : Nat) (d e : Int), zic 47 #[numV a, numV 1] (.int .i64 d) ∧ zic 47 #[numV a, numV P] (.int .i64 e) ∧ zic 33 #[.agg (zg k P Q g), numV a, numV Q] (numV V) ∧
  ((¬ 0 < d ∧ hasB a P Q = false) ∨ (0 < d ∧ ¬ e < 0 ∧ hasB a P Q = false) ∨ (0 < d ∧ e < 0 ∧ V = 1 ∧ hasB a P Q = true) ∨ (0 < d ∧ e < 0 ∧ (∀ w, (Op.equalIn 10000 27 (.agg (numA V)) (.agg (numA 1))).run Tryz.prog w = .ok false w) ∧ hasB a P Q = false)) := by
 refine ⟨a ^ Q % P, cmpI a 1, cmpI a P, cmp_any a 1 ha (by decide), cmp_any a P ha hP, zoc k P Q g ho h1 hP a Q ha hQ, ?_⟩
 unfold hasB cmpI
 by_cases c1 : 1 < a
 ·by_cases c2 : a < P
  ·by_cases c3 : a ^ Q % P = 1
   ·exact .inr (.inr (.inl ⟨by rw [if_neg (by omega), if_pos c1]; decide, by rw [if_pos c2]; decide, c3, decide_eq_true ⟨c1, c2, c3⟩⟩))
   ·exact .inr (.inr (.inr ⟨by rw [if_neg (by omega), if_pos c1]; decide, by rw [if_pos c2]; decide, eqn_diff (Nat.lt_trans (Nat.mod_lt _ (by omega)) hP) (by decide) c3, decide_eq_false (fun h => c3 h.2.2)⟩))
  ·exact .inr (.inl ⟨by rw [if_neg (by omega), if_pos c1]; decide, by rw [if_neg c2]; split <;> decide, decide_eq_false (fun h => c2 h.2.1)⟩)
 ·exact .inl ⟨by (rw [if_neg c1]; split <;> decide), decide_eq_false (fun h => c1 h.1)⟩
theorem ghas_any (k : Int) (P Q g : Nat) (ho : P % 2 = 1) (h1 : 1 < P) (hP : P < 4294967296 ^ 8) (a : Nat) (ha : a < 4294967296 ^ 8) (hQ : Q < 4294967296 ^ 8) (w : World) :
  Calls Tryz.prog 37 #[.agg (zg k P Q g), numV a] w fun e w' => e = .returned (.bool (hasB a P Q)) ∧ Below w.heap.size w w' := by
 obtain ⟨V, dd, ee, k1, k2, k3, hw⟩ := has_pack (k := k) (g := g) ho h1 hP ha hQ
 have HW := hid hw
 obtain ⟨RB, HB⟩ : ∃ b, Hid (hasB a P Q = b) := ⟨_, hid rfl⟩
 rw [HB.out]
 clear hw ho h1 hP ha hQ
 have ng := noGuard
 go_enter Tryz.func37, Tryz.ntmps37
 go_upto_region 1 with fail
 obtain ⟨W, hW⟩ : ∃ W, W = ((w.alloc (.cells (zg k P Q g) 29))).alloc (.cells (numA a) 27) := ⟨_, rfl⟩
 have q_gr : Blk W (w.heap.size) 29 (zg k P Q g) := by
  have := ((Blk.new w 29 (zg k P Q g)).alloc (.cells (numA a) 27))
  rw [hW]; exact this
 have q_a : Num W (w.heap.size + 1) 27 (a) := by
  have := (Num.new (w.alloc (.cells (zg k P Q g) 29)) 27 (a))
  rw [World.size_alloc] at this
  rw [hW]; exact this
 have gb : Below w.heap.size w W := by rw [hW]; exact (((Below.refl _ _).alloc (by simp <;> omega) _).alloc (by simp <;> omega) _)
 rw [← hW]
 clear hW
 go_wp2_with (fail)
 refine (from_any 1 (by omega) (by omega) _).mono ?_
 rintro e w1 ⟨rfl, bw1⟩
 have gr_1 := q_gr.step bw1
 have a_1 := q_a.step bw1
 have c_1 := zt gb bw1
 clear q_gr q_a gb bw1
 go_upto_region 2 with (first | (refine zl rfl _ (.tmp 5) _ rfl _ rfl _ rfl _ rfl (heap_alloc_new _ _) zd ?_; intro w2 gw2 mw2; have b_1 := znb gw2; have gr_2 := gr_1.step b_1; have a_2 := a_1.step b_1; have c_2 := zt c_1 b_1; clear gr_1 a_1 c_1 b_1 gw2) | (refine ze rfl _ (.tmp 3) rfl _ rfl _ _ _ a_2 Tryz.underlying27 rfl zd ?_) | (refine ze rfl _ (.tmp 5) rfl _ rfl _ _ _ mw2 Tryz.underlying27 rfl zd ?_))
 try simp only [Act.put, List.setIfInBounds_toArray, List.set_cons_zero, List.set_cons_succ]
 rcases HW.out with ⟨c1, c4⟩ | ⟨c1, c2, c4⟩ | ⟨c1, c2, rfl, c4⟩ | ⟨c1, c2, c3, c4⟩
 ·obtain rfl : RB = false := by rw [← HB.out]; exact c4
  have f1 : decide (0 < dd) = false := decide_eq_false (by omega)
  refine ztc (by kernel_rfl) (by kernel_rfl) ?_
  (refine zw rfl _ (.tmp 3) rfl _ rfl _ _ _ a_2 Tryz.underlying27 rfl zd ?_; simp only [Act.put, List.setIfInBounds_toArray, List.set_cons_zero, List.set_cons_succ])
  (refine zw rfl _ (.tmp 5) rfl _ rfl _ _ _ mw2 Tryz.underlying27 rfl zd ?_; simp only [Act.put, List.setIfInBounds_toArray, List.set_cons_zero, List.set_cons_succ])
  go_big_quiet_step (exact z1b (k1 _))
  go_big_quiet_step (fail)
  go_big_quiet_step (fail)
  first | (refine zw rfl _ (.tmp 3) rfl _ rfl _ _ _ a_2 Tryz.underlying27 rfl zd ?_; simp only [Act.put, List.setIfInBounds_toArray, List.set_cons_zero, List.set_cons_succ]) | go_big_quiet_step (fail)
  go_big_quiet_step (fail)
  first | (refine zdb rfl _ (.tmp 13) rfl _ _ rfl _ _ (numA P) _ gr_2 groupA_p Tryz.underlying27 rfl zd ?_; simp only [Act.put, List.setIfInBounds_toArray, List.set_cons_zero, List.set_cons_succ]) | go_big_quiet_step (fail)
  go_big_quiet_step (fail)
  go_big_quiet_step (fail)
  go_big_quiet_step (fail)
  go_big_quiet_step (fail)
  first | (refine zjb rfl _ (.tmp 2) rfl _ rfl _ _ _ gr_2 Tryz.underlying29 rfl zdc ?_; simp only [Act.put, List.setIfInBounds_toArray, List.set_cons_zero, List.set_cons_succ]) | go_big_quiet_step (fail)
  first | (refine zw rfl _ (.tmp 3) rfl _ rfl _ _ _ a_2 Tryz.underlying27 rfl zd ?_; simp only [Act.put, List.setIfInBounds_toArray, List.set_cons_zero, List.set_cons_succ]) | go_big_quiet_step (fail)
  go_big_quiet_step (fail)
  first | (refine zdb rfl _ (.tmp 21) rfl _ _ rfl _ _ (numA Q) _ gr_2 groupA_q Tryz.underlying27 rfl zd ?_; simp only [Act.put, List.setIfInBounds_toArray, List.set_cons_zero, List.set_cons_succ]) | go_big_quiet_step (fail)
  go_big_quiet_step (fail)
  first | (refine zw rfl _ (.tmp 5) rfl _ rfl _ _ _ mw2 Tryz.underlying27 rfl zd ?_; simp only [Act.put, List.setIfInBounds_toArray, List.set_cons_zero, List.set_cons_succ]) | go_big_quiet_step (fail)
  go_big_quiet_step (fail)
  go_big_quiet_step (fail)
  go_big_quiet_step (fail)
  refine wpQuiet_nil ?_
  intro X_1
  have gr_3 := gr_2.step X_1.h
  have a_3 := a_2.step X_1.h
  have o_1 := mw2.step X_1.h
  have c_3 := zt c_2 X_1.h
  clear gr_2 a_2 mw2 c_2
  go_wp2
  go_ret
  exact ⟨rfl, c_3⟩
 ·obtain rfl : RB = false := by rw [← HB.out]; exact c4
  have f2 : decide (ee < 0) = false := decide_eq_false (by omega)
  refine ztc (by kernel_rfl) (by kernel_rfl) ?_
  (refine zw rfl _ (.tmp 3) rfl _ rfl _ _ _ a_2 Tryz.underlying27 rfl zd ?_; simp only [Act.put, List.setIfInBounds_toArray, List.set_cons_zero, List.set_cons_succ])
  (refine zw rfl _ (.tmp 5) rfl _ rfl _ _ _ mw2 Tryz.underlying27 rfl zd ?_; simp only [Act.put, List.setIfInBounds_toArray, List.set_cons_zero, List.set_cons_succ])
  go_big_quiet_step (exact z1b (k1 _))
  go_big_quiet_step (fail)
  go_big_quiet_step (fail)
  first | (refine zw rfl _ (.tmp 3) rfl _ rfl _ _ _ a_2 Tryz.underlying27 rfl zd ?_; simp only [Act.put, List.setIfInBounds_toArray, List.set_cons_zero, List.set_cons_succ]) | go_big_quiet_step (fail)
  go_big_quiet_step (fail)
  first | (refine zdb rfl _ (.tmp 13) rfl _ _ rfl _ _ (numA P) _ gr_2 groupA_p Tryz.underlying27 rfl zd ?_; simp only [Act.put, List.setIfInBounds_toArray, List.set_cons_zero, List.set_cons_succ]) | go_big_quiet_step (fail)
  go_big_quiet_step (exact z1b (k2 _))
  go_big_quiet_step (fail)
  go_big_quiet_step (fail)
  go_big_quiet_step (fail)
  first | (refine zjb rfl _ (.tmp 2) rfl _ rfl _ _ _ gr_2 Tryz.underlying29 rfl zdc ?_; simp only [Act.put, List.setIfInBounds_toArray, List.set_cons_zero, List.set_cons_succ]) | go_big_quiet_step (fail)
  first | (refine zw rfl _ (.tmp 3) rfl _ rfl _ _ _ a_2 Tryz.underlying27 rfl zd ?_; simp only [Act.put, List.setIfInBounds_toArray, List.set_cons_zero, List.set_cons_succ]) | go_big_quiet_step (fail)
  go_big_quiet_step (fail)
  first | (refine zdb rfl _ (.tmp 21) rfl _ _ rfl _ _ (numA Q) _ gr_2 groupA_q Tryz.underlying27 rfl zd ?_; simp only [Act.put, List.setIfInBounds_toArray, List.set_cons_zero, List.set_cons_succ]) | go_big_quiet_step (fail)
  go_big_quiet_step (fail)
  first | (refine zw rfl _ (.tmp 5) rfl _ rfl _ _ _ mw2 Tryz.underlying27 rfl zd ?_; simp only [Act.put, List.setIfInBounds_toArray, List.set_cons_zero, List.set_cons_succ]) | go_big_quiet_step (fail)
  go_big_quiet_step (fail)
  go_big_quiet_step (fail)
  go_big_quiet_step (fail)
  refine wpQuiet_nil ?_
  intro X_1
  have gr_3 := gr_2.step X_1.h
  have a_3 := a_2.step X_1.h
  have o_1 := mw2.step X_1.h
  have c_3 := zt c_2 X_1.h
  clear gr_2 a_2 mw2 c_2
  go_wp2
  go_ret
  exact ⟨rfl, c_3⟩
 ·obtain rfl : RB = true := by rw [← HB.out]; exact c4
  have f3 := fun w => eqn_same 1 w
  refine ztc (by kernel_rfl) (by kernel_rfl) ?_
  (refine zw rfl _ (.tmp 3) rfl _ rfl _ _ _ a_2 Tryz.underlying27 rfl zd ?_; simp only [Act.put, List.setIfInBounds_toArray, List.set_cons_zero, List.set_cons_succ])
  (refine zw rfl _ (.tmp 5) rfl _ rfl _ _ _ mw2 Tryz.underlying27 rfl zd ?_; simp only [Act.put, List.setIfInBounds_toArray, List.set_cons_zero, List.set_cons_succ])
  go_big_quiet_step (exact z1b (k1 _))
  go_big_quiet_step (fail)
  go_big_quiet_step (fail)
  first | (refine zw rfl _ (.tmp 3) rfl _ rfl _ _ _ a_2 Tryz.underlying27 rfl zd ?_; simp only [Act.put, List.setIfInBounds_toArray, List.set_cons_zero, List.set_cons_succ]) | go_big_quiet_step (fail)
  go_big_quiet_step (fail)
  first | (refine zdb rfl _ (.tmp 13) rfl _ _ rfl _ _ (numA P) _ gr_2 groupA_p Tryz.underlying27 rfl zd ?_; simp only [Act.put, List.setIfInBounds_toArray, List.set_cons_zero, List.set_cons_succ]) | go_big_quiet_step (fail)
  go_big_quiet_step (exact z1b (k2 _))
  go_big_quiet_step (fail)
  go_big_quiet_step (fail)
  go_big_quiet_step (fail)
  first | (refine zjb rfl _ (.tmp 2) rfl _ rfl _ _ _ gr_2 Tryz.underlying29 rfl zdc ?_; simp only [Act.put, List.setIfInBounds_toArray, List.set_cons_zero, List.set_cons_succ]) | go_big_quiet_step (fail)
  first | (refine zw rfl _ (.tmp 3) rfl _ rfl _ _ _ a_2 Tryz.underlying27 rfl zd ?_; simp only [Act.put, List.setIfInBounds_toArray, List.set_cons_zero, List.set_cons_succ]) | go_big_quiet_step (fail)
  go_big_quiet_step (fail)
  first | (refine zdb rfl _ (.tmp 21) rfl _ _ rfl _ _ (numA Q) _ gr_2 groupA_q Tryz.underlying27 rfl zd ?_; simp only [Act.put, List.setIfInBounds_toArray, List.set_cons_zero, List.set_cons_succ]) | go_big_quiet_step (fail)
  go_big_quiet_step (exact z1b (k3 _))
  first | (refine zw rfl _ (.tmp 5) rfl _ rfl _ _ _ mw2 Tryz.underlying27 rfl zd ?_; simp only [Act.put, List.setIfInBounds_toArray, List.set_cons_zero, List.set_cons_succ]) | go_big_quiet_step (fail)
  go_big_quiet_step (fail)
  go_big_quiet_step (fail)
  go_big_quiet_step (fail)
  refine wpQuiet_nil ?_
  intro X_1
  have gr_3 := gr_2.step X_1.h
  have a_3 := a_2.step X_1.h
  have o_1 := mw2.step X_1.h
  have c_3 := zt c_2 X_1.h
  clear gr_2 a_2 mw2 c_2
  go_wp2
  go_ret
  exact ⟨rfl, c_3⟩
 ·obtain rfl : RB = false := by rw [← HB.out]; exact c4
  refine ztc (by kernel_rfl) (by kernel_rfl) ?_
  (refine zw rfl _ (.tmp 3) rfl _ rfl _ _ _ a_2 Tryz.underlying27 rfl zd ?_; simp only [Act.put, List.setIfInBounds_toArray, List.set_cons_zero, List.set_cons_succ])
  (refine zw rfl _ (.tmp 5) rfl _ rfl _ _ _ mw2 Tryz.underlying27 rfl zd ?_; simp only [Act.put, List.setIfInBounds_toArray, List.set_cons_zero, List.set_cons_succ])
  go_big_quiet_step (exact z1b (k1 _))
  go_big_quiet_step (fail)
  go_big_quiet_step (fail)
  first | (refine zw rfl _ (.tmp 3) rfl _ rfl _ _ _ a_2 Tryz.underlying27 rfl zd ?_; simp only [Act.put, List.setIfInBounds_toArray, List.set_cons_zero, List.set_cons_succ]) | go_big_quiet_step (fail)
  go_big_quiet_step (fail)
  first | (refine zdb rfl _ (.tmp 13) rfl _ _ rfl _ _ (numA P) _ gr_2 groupA_p Tryz.underlying27 rfl zd ?_; simp only [Act.put, List.setIfInBounds_toArray, List.set_cons_zero, List.set_cons_succ]) | go_big_quiet_step (fail)
  go_big_quiet_step (exact z1b (k2 _))
  go_big_quiet_step (fail)
  go_big_quiet_step (fail)
  go_big_quiet_step (fail)
  first | (refine zjb rfl _ (.tmp 2) rfl _ rfl _ _ _ gr_2 Tryz.underlying29 rfl zdc ?_; simp only [Act.put, List.setIfInBounds_toArray, List.set_cons_zero, List.set_cons_succ]) | go_big_quiet_step (fail)
  first | (refine zw rfl _ (.tmp 3) rfl _ rfl _ _ _ a_2 Tryz.underlying27 rfl zd ?_; simp only [Act.put, List.setIfInBounds_toArray, List.set_cons_zero, List.set_cons_succ]) | go_big_quiet_step (fail)
  go_big_quiet_step (fail)
  first | (refine zdb rfl _ (.tmp 21) rfl _ _ rfl _ _ (numA Q) _ gr_2 groupA_q Tryz.underlying27 rfl zd ?_; simp only [Act.put, List.setIfInBounds_toArray, List.set_cons_zero, List.set_cons_succ]) | go_big_quiet_step (fail)
  go_big_quiet_step (exact z1b (k3 _))
  first | (refine zw rfl _ (.tmp 5) rfl _ rfl _ _ _ mw2 Tryz.underlying27 rfl zd ?_; simp only [Act.put, List.setIfInBounds_toArray, List.set_cons_zero, List.set_cons_succ]) | go_big_quiet_step (fail)
  go_big_quiet_step (fail)
  go_big_quiet_step (fail)
  go_big_quiet_step (fail)
  refine wpQuiet_nil ?_
  intro X_1
  have gr_3 := gr_2.step X_1.h
  have a_3 := a_2.step X_1.h
  have o_1 := mw2.step X_1.h
  have c_3 := zt c_2 X_1.h
  clear gr_2 a_2 mw2 c_2
  go_wp2
  go_ret
  exact ⟨rfl, c_3⟩
end Go.Proofs.YtcfepoopkfhojaaGreat
namespace Go.Proofs.YtcfepoopkfhojaaGreat
open Go.ChangeShapes Go.WideShapes Go.ChangeAt Go.RowKit
theorem zrc {a : Act} {w : World} {o : Oper} (x : Operand) (ho : o.op = .slice 35 x none none none) {g : Nat} (hx : a.eval x = .pointer (some ⟨g, 0, none⟩)) : (execOp a.eval o).run Tryz.prog w = .ok (.value (.slice (some ⟨g, 0, none⟩) 16 16)) w := by
 have h := slice_sum w g
 unfold execOp
 simp only [ho, hx]
 simp only [Option.map_none, Sem.run_bind]
 rw [h]; rfl
theorem arr16_get (y : Nat → Int) {j : Nat} (h : j < 16) : (zi y)[j]? = some (.int .u8 (y j)) := by
 have : j = 0 ∨ j = 1 ∨ j = 2 ∨ j = 3 ∨ j = 4 ∨ j = 5 ∨ j = 6 ∨ j = 7 ∨ j = 8 ∨ j = 9 ∨ j = 10 ∨ j = 11 ∨ j = 12 ∨ j = 13 ∨ j = 14 ∨ j = 15 := by omega
 rcases this with rfl | rfl | rfl | rfl | rfl | rfl | rfl | rfl | rfl | rfl | rfl | rfl | rfl | rfl | rfl | rfl <;> rfl
theorem arr16_rd {w : World} {g : Nat} {y : Nat → Int} {t : TypeId} (h : w.heap[g]? = some (.cells (zi y) t (0, 0))) (hy : ∀ k, 0 ≤ y k ∧ y k < 256) : Rd w (some ⟨g, 0, none⟩) (sumY y) := fun _ => by
 refine ⟨_, rfl, zyb h, fun j b hj => ?_⟩
 have hj16 : j < 16 := by have := (List.getElem?_eq_some_iff.1 hj).1; rwa [zsb] at this
 rw [zva, Nat.zero_add]
 unfold sumY at hj
 rw [List.getElem?_map, List.getElem?_range hj16] at hj
 obtain rfl := Option.some.inj hj
 have hc : w.cell? ⟨g, j, none⟩ = some (.int .u8 (y j)) := by simp [World.cell?, h, arr16_get y hj16]
 rw [hc]
 unfold bv
 rw [sumY_val (hy j)]
theorem gnumber_any (y : Nat → Int) (hy : ∀ k, 0 ≤ y k ∧ y k < 256) (w : World) :
  Calls Tryz.prog 105 #[.agg (zi y)] w fun e w' => e = .returned (numV (zua (sumY y))) ∧ Below w.heap.size w w' := by
 have hlen := zsb y
 have kR := fun (w : World) (g : Nat) (h : w.heap[g]? = some (.cells (zi y) 35 (0, 0))) => read_any (some ⟨g, 0, none⟩) (sumY y) 16 16 hlen (by decide) (by decide) (by unfold maxLen; decide) w (arr16_rd h hy)
 refine zea (args := [.agg (zi y)]) 11 Tryz.func105 rfl rfl rfl ?_
 intro fa F
 have M := Mx.start w
 refine zT fun _ hK1 => zh (zc rfl) rfl F rfl M 0 (t := 35) (c := zi y) (by unfold execOp; simp only [(F.get (t := 0) rfl)]; kernel_rfl) ?_
 intro g2 a2 w2 F2 M2
 refine zh (zc rfl) rfl F2 rfl M2 1 (t := 27) (c := numA 0) (zu rfl) ?_
 intro g3 a3 w3 F3 M3
 refine hK1 _ _ (zT fun _ hK4 => zj (w' := w3) (zc rfl) rfl F3 rfl (.slice (some ⟨g2, 0, none⟩) 16 16) (zrc _ rfl (F3.get (t := 1) rfl)) fun _ F5 => ?_)
 refine zaa (zc rfl) rfl F5 rfl rfl (zE Tryz.func123 rfl) #[.slice (some ⟨g2, 0, none⟩) 16 16] (zwa (F5.get (t := 6) rfl)) (zca (kR w3 _ (M3.blk (k := 0) rfl))) ?_
 rintro _ w6 a6 ⟨rfl, b6⟩ F6
 have M6 := M3.step b6
 refine zB 3 [(2, .pointer (some ⟨g3, 0, none⟩)), (8, numV (zua (sumY y))), (9, .bool true)] [] dnil [] F6 fun _ F7 => ?_
 refine zh (zc rfl) rfl F7 rfl M6 2 (t := 27) (c := numA 0) (zu rfl) ?_
 intro g8 a8 w8 F8 M8
 refine zr (zc rfl) rfl F8 M8 (k := 2) rfl _ _ _ rfl (F8.get (t := 3) rfl) (F8.get (t := 8) rfl) (numA (zua (sumY y))) _ rfl (zL rfl) (zcc _) (zo rfl) zd ?_
 intro w9 M9
 refine rm rfl F8 fun _ F10 => hK4 _ _ (zT fun _ hK11 => zj (w' := w9) (zc rfl) rfl F10 rfl (numV (zua (sumY y))) (zxa _ _ rfl (F10.get (t := 3) rfl) (M9.blk (k := 2) rfl) (numA (zua (sumY y))) (z1a rfl) Tryz.underlying27 rfl zd) fun _ F12 => ?_)
 refine zr (zc rfl) rfl F12 M9 (k := 1) rfl _ _ _ rfl (F12.get (t := 2) rfl) (F12.get (t := 10) rfl) (numA (zua (sumY y))) _ rfl (zL rfl) (zcc _) (zo rfl) zd ?_
 intro w13 M13
 refine hK11 _ _ (wp_ret ?_)
 try simp only [Exit.then, Exit.inBlock, Exit.jump]
 exact bodyPost_ret (results_cell_row rfl _ _ _ _ _ (0, 0) _ (F12.get rfl) (M13.blk (k := 1) rfl) Tryz.underlying27 rfl zd) F12.defers ⟨rfl, M13.below⟩
def expN (Q : Nat) (l : List UInt8) : Nat := zua (sumY (outF (macW [] [[101, 120, 112, 111, 110, 101, 110, 116], l]))) % (Q - 1) + 1
theorem gexp_any (k : Int) (P Q g : Nat) (h2 : 2 < Q) (hQ : Q < 4294967296 ^ 8) (l : List UInt8) (v : Value) (w : World) (hB : IsB w l v) :
  Calls Tryz.prog 71 #[.agg (zg k P Q g), v] w fun e w' => e = .returned (numV (expN Q l)) ∧ Below w.heap.size w w' := by
 obtain ⟨N, hN⟩ : ∃ N, zua (sumY (outF (macW [] [[101, 120, 112, 111, 110, 101, 110, 116], l]))) = N := ⟨_, rfl⟩
 have hNl : N < 4294967296 ^ 8 := by
  rw [← hN]
  exact readN_lt_num (by rw [zsb]; decide)
 obtain ⟨S, hS⟩ : ∃ S, macW [] [[101, 120, 112, 111, 110, 101, 110, 116], l] = S := ⟨_, rfl⟩
 have kO := fun w => from_any 1 (by decide) (by decide) w
 have kS := fun w => sub_any Q 1 hQ (by decide) w
 rw [show subN Q 1 = Q - 1 by unfold subN; rw [if_pos (by omega)]] at kS
 obtain ⟨u, hu⟩ : ∃ u, lentI Q 1 = u := ⟨_, rfl⟩
 rw [hu] at kS
 have kN := fun w => gnumber_any (outF S) (zzb S) w
 rw [hS] at hN
 rw [hN] at kN
 have kR := fun w => rest_pos N 0 (Q - 1) hNl (by decide) (Nat.lt_of_le_of_lt (Nat.sub_le _ _) hQ) (by omega) w
 rw [Nat.zero_mul, Nat.add_zero] at kR
 obtain ⟨r, hr⟩ : ∃ r, N % (Q - 1) = r := ⟨_, rfl⟩
 have hrl : r < 4294967296 ^ 8 := by rw [← hr]; exact Nat.lt_of_le_of_lt (Nat.mod_le _ _) hNl
 rw [hr] at kR
 have kA := fun w => add_any r 1 hrl (by decide) w
 obtain ⟨cc, hcc⟩ : ∃ c, carryI r 1 = c := ⟨_, rfl⟩
 rw [hcc] at kA
 have kM := fun (w : World) (u : Value) (h : IsP w [[101, 120, 112, 111, 110, 101, 110, 116], l] u) => of_b h
 rw [hS] at kM
 rw [show expN Q l = r + 1 by unfold expN; rw [hS, hN, hr]]
 clear hS hN hr
 refine zea (args := [.agg (zg k P Q g), v]) 39 Tryz.func71 rfl rfl rfl ?_
 intro fa F
 have M := Mx.start w
 replace M := M.argB 0 hB (fun g e => by cases e)
 refine zT fun _ hK1 => zh (zc rfl) rfl F rfl M 1 (t := 29) (c := zg k P Q g) (by unfold execOp; simp only [(F.get (t := 0) rfl)]; kernel_rfl) ?_
 intro g2 a2 w2 F2 M2
 refine zh (zc rfl) rfl F2 rfl M2 2 (t := 27) (c := numA 0) (zu rfl) ?_
 intro g3 a3 w3 F3 M3
 refine hK1 _ _ (zT fun _ hK4 => zaa (zc rfl) rfl F3 rfl rfl (zE Tryz.func72 rfl) #[.int .i64 1] (zwa rfl) (zca (kO w3)) ?_)
 rintro _ w5 a5 ⟨rfl, b5⟩ F5
 have M5 := M3.step b5
 refine zh (zc rfl) rfl F5 rfl M5 3 (t := 27) (c := numA 0) (zu rfl) ?_
 intro g6 a6 w6 F6 M6
 refine zr (zc rfl) rfl F6 M6 (k := 3) rfl _ _ _ rfl (F6.get (t := 5) rfl) (F6.get (t := 12) rfl) (numA 1) _ rfl (zL rfl) (zcc _) (zo rfl) zd ?_
 intro w7 M7
 refine hK4 _ _ (zT fun _ hK8 => zB 3 [(1, v), (4, .pointer (some ⟨g3, 0, none⟩)), (5, .pointer (some ⟨g6, 0, none⟩)), (15, numV Q), (16, numV 1)] [0, 1] (zp (M7.blk (k := 1) rfl) (zp (M7.blk (k := 3) rfl) dnil)) [g2, g6] F6 fun _ F9 => ?_)
 refine zaa (zc rfl) rfl F9 rfl rfl (zE Tryz.func48 rfl) #[numV Q, numV 1] (z3a (F9.get (t := 15) rfl) (F9.get (t := 16) rfl)) (zca (kS w7)) ?_
 rintro _ w10 a10 ⟨rfl, b10⟩ F10
 have M10 := M7.step b10
 refine zB 3 [(1, v), (4, .pointer (some ⟨g3, 0, none⟩)), (5, .pointer (some ⟨g6, 0, none⟩)), (18, numV (Q - 1)), (19, .int .u32 u)] [] dnil [] F10 fun _ F11 => ?_
 refine zh (zc rfl) rfl F11 rfl M10 4 (t := 27) (c := numA 0) (zu rfl) ?_
 intro g12 a12 w12 F12 M12
 refine zr (zc rfl) rfl F12 M12 (k := 4) rfl _ _ _ rfl (F12.get (t := 6) rfl) (F12.get (t := 18) rfl) (numA (Q - 1)) _ rfl (zL rfl) (zcc _) (zo rfl) zd ?_
 intro w13 M13
 refine rm rfl F12 fun _ F14 => hK8 _ _ (zSk fun _ hK15 => ?_)
 have hD16 := (zp (M13.blk (k := 4) rfl) dnil)
 refine region_fxL F14 (SK [.inr (StK.lit w13.heap.size [101, 120, 112, 111, 110, 101, 110, 116]), .inr (StK.lit w13.heap.size [101, 120, 112, 111, 110, 101, 110, 116]), .inl (v), .inr (StK.parts [[101, 120, 112, 111, 110, 101, 110, 116], l]), .inl (.agg (zi (outF S))), .inl (numV N), .inl (numV 0), .inl (numV (Q - 1)), .inl (.tuple #[numV r, .bool true]), .inl (.tuple #[numV r, .bool true]), .inl (numV r), .inl (.bool true), .inr (StK.new w13.heap.size (numA 0) 27 (by decide))]) 13 11 20 1 9 #[numV r, .bool true] (.bool true) rfl (by kernel_rfl) rfl (by kernel_rfl) (fun _ _ h => h) rfl (fun _ _ => Iff.rfl) rfl ⟨?_, ?_, hop0 F14 (by kernel_rfl), ?_, ?_, hopC F14 [(25, .agg (zi (outF S)))] rfl (zE Tryz.func105 rfl) fun uw hb => kN uw, hopR F14 [] fun ua uw hb _ => (zlc rfl), hopP F14 hD16 0 (some g12) (by kernel_rfl), hopC F14 [(26, numV N), (27, numV 0), (28, numV (Q - 1))] rfl (zE Tryz.func50 rfl) fun uw hb => kR uw, hop0 F14 (by kernel_rfl), hop0 F14 (by kernel_rfl), hop0 F14 (by kernel_rfl), ?_, trivial⟩ ?_
 ·intro ua uw hb hd
  exact hop_lit (zc rfl) hb.size [101, 120, 112, 111, 110, 101, 110, 116] (by decide) (by decide) _ rfl (by simp only [List.map_toArray, List.map_cons, List.map_nil]; kernel_rfl)
 ·intro ua uw hb hd
  have l21 : LitB w13.heap.size uw [101, 120, 112, 111, 110, 101, 110, 116] (ua.eval (.tmp 21)) := hd 21 (by decide)
  have e21 := l21.isB
  exact zmc (zc rfl) _ rfl l21
 ·intro ua uw hb hd
  have l22 : LitB w13.heap.size uw [101, 120, 112, 111, 110, 101, 110, 116] (ua.eval (.tmp 22)) := hd 22 (by decide)
  have e22 := l22.isB
  have e23 : ua.eval (.tmp 23) = v := hd 23 (by decide)
  exact hop_parts2 (zc rfl) hb.size (.tmp 22) (.tmp 23) rfl e22 (by rw [e23]; exact ((M13.step hb).isb (k := 0) rfl))
 ·intro ua uw hb hd
  have e24 : IsP uw [[101, 120, 112, 111, 110, 101, 110, 116], l] (ua.eval (.tmp 24)) := hd 24 (by decide)
  exact zba (F := (StK.eq (.agg (zi (outF S)))).F) (zc rfl) hb.size rfl #[(ua.eval (.tmp 24))] (zwa rfl) (zE Tryz.func69 rfl) (zqa (kM _ _ e24))
 ·intro ua uw hb hd
  exact hop_new (zc rfl) hb.size hb.size (by decide) (zu rfl)
 intro p17 a17 w17 b17 G17 y17
 obtain ⟨-, -, -, -, -, -, -, -, -, -, q10, q11, q12, -⟩ := y17
 obtain ⟨gn12x16, r12, hg12, hc12⟩ := q12 (by decide)
 replace r12 : p17 12 = .pointer (some ⟨gn12x16, 0, none⟩) := r12
 have r10 : p17 10 = numV r := q10 (by decide)
 have r11 : p17 11 = .bool true := q11 (by decide)
 simp only [List.take, layV, Nat.zero_add, Nat.reduceAdd, r10, r11, r12] at G17
 have M17 := M13.newb b17.below 5 hg12 hc12
 clear hg12 hc12 r12
 clear F14 M13 r10 q10 r11 q11
 refine st_ex M17 (k := 5) rfl _ _ _ rfl (G17.get (t := 8) rfl) (G17.get (t := 30) rfl) (numA r) _ rfl (zL rfl) (zcc _) (zo rfl) zd ?_
 intro w18 M18
 refine rm rfl G17 fun _ F19 => hK15 _ _ (zT fun _ hK20 => zj (w' := w18) (zc rfl) rfl F19 rfl (numV r) (zxa _ _ rfl (F19.get (t := 8) rfl) (M18.blk (k := 5) rfl) (numA r) (z1a rfl) Tryz.underlying27 rfl zd) fun _ F21 => ?_)
 refine zj (w' := w18) (zc rfl) rfl F21 rfl (numV 1) (zxa _ _ rfl (F21.get (t := 5) rfl) (M18.blk (k := 3) rfl) (numA 1) (z1a rfl) Tryz.underlying27 rfl zd) fun _ F22 => ?_
 refine zaa (zc rfl) rfl F22 rfl rfl (zE Tryz.func73 rfl) #[numV r, numV 1] (z3a (F22.get (t := 33) rfl) (F22.get (t := 34) rfl)) (zca (kA w18)) ?_
 rintro _ w23 a23 ⟨rfl, b23⟩ F23
 have M23 := M18.step b23
 refine zB 3 [(4, .pointer (some ⟨g3, 0, none⟩)), (36, numV (r + 1)), (37, .int .u32 cc)] [] dnil [] F23 fun _ F24 => ?_
 refine zh (zc rfl) rfl F24 rfl M23 6 (t := 27) (c := numA 0) (zu rfl) ?_
 intro g25 a25 w25 F25 M25
 refine zr (zc rfl) rfl F25 M25 (k := 6) rfl _ _ _ rfl (F25.get (t := 10) rfl) (F25.get (t := 36) rfl) (numA (r + 1)) _ rfl (zL rfl) (zcc _) (zo rfl) zd ?_
 intro w26 M26
 refine rm rfl F25 fun _ F27 => hK20 _ _ (zT fun _ hK28 => zj (w' := w26) (zc rfl) rfl F27 rfl (numV (r + 1)) (zxa _ _ rfl (F27.get (t := 10) rfl) (M26.blk (k := 6) rfl) (numA (r + 1)) (z1a rfl) Tryz.underlying27 rfl zd) fun _ F29 => ?_)
 refine zr (zc rfl) rfl F29 M26 (k := 2) rfl _ _ _ rfl (F29.get (t := 4) rfl) (F29.get (t := 38) rfl) (numA (r + 1)) _ rfl (zL rfl) (zcc _) (zo rfl) zd ?_
 intro w30 M30
 refine hK28 _ _ (wp_ret ?_)
 try simp only [Exit.then, Exit.inBlock, Exit.jump]
 exact bodyPost_ret (results_cell_row rfl _ _ _ _ _ (0, 0) _ (F29.get rfl) (M30.blk (k := 2) rfl) Tryz.underlying27 rfl zd) F29.defers ⟨rfl, M30.below⟩
end Go.Proofs.YtcfepoopkfhojaaGreat
/- sentinelref3: Bytes, Stretch, Stream; sponge.Stretch. -/
namespace Go.Proofs.YtcfepoopkfhojaaGreat
open Go.ChangeShapes Go.WideShapes Go.ChangeAt Go.RowKit Go.Shelf
theorem stretch_any (A : Option Addr) (pass : List UInt8) (n0 c0 : Nat) (hn0 : pass.length = n0) (hc0 : n0 ≤ c0) (hm0 : c0 ≤ maxLen) (hz0 : A = none → c0 = 0) (B : Option Addr) (salt : List UInt8) (n1 c1 : Nat) (hn1 : salt.length = n1) (hc1 : n1 ≤ c1) (hm1 : c1 ≤ maxLen) (hz1 : B = none → c1 = 0) (t : Int) (ht0 : -9223372036854775808 ≤ t) (ht1 : t < 9223372036854775808) (T : Nat) (hT : (T : Int) = max 1 (min t 1000) - 1) (w : World) (hR0 : Rd w A pass) (hR1 : Rd w B salt) :
  Calls Tryz.prog 70 #[.slice A n0 c0, .slice B n1 c1, .int .i64 t] w fun e w' => e = .returned (.agg (zi (strA pass salt T))) ∧ Below w.heap.size w w' := by
 have b0 := zga w (.cells #[Value.int .u8 0, .int .u8 0, .int .u8 0, .int .u8 0, .int .u8 0, .int .u8 0, .int .u8 0, .int .u8 0, .int .u8 0, .int .u8 0, .int .u8 0, .int .u8 0, .int .u8 0, .int .u8 0, .int .u8 0, .int .u8 0] 35)
 have y0 := Blk.new w 35 #[Value.int .u8 0, .int .u8 0, .int .u8 0, .int .u8 0, .int .u8 0, .int .u8 0, .int .u8 0, .int .u8 0, .int .u8 0, .int .u8 0, .int .u8 0, .int .u8 0, .int .u8 0, .int .u8 0, .int .u8 0, .int .u8 0]
 have R0 := hR0.step b0
 have R1 := hR1.step b0
 have s0 : (w.alloc (.cells #[Value.int .u8 0, .int .u8 0, .int .u8 0, .int .u8 0, .int .u8 0, .int .u8 0, .int .u8 0, .int .u8 0, .int .u8 0, .int .u8 0, .int .u8 0, .int .u8 0, .int .u8 0, .int .u8 0, .int .u8 0, .int .u8 0] 35)).heap.size = w.heap.size + 1 := by simp
 have hT9 : T ≤ 999 := by omega
 go_enter Tryz.func70, Tryz.ntmps70
 go_wp2_with fail
 generalize World.alloc _ _ = W at *
 have P1 := prd_one hn1 hc1 hm1 hz1 R1
 rw [s0] at P1
 have a1 := zga W (.cells #[.slice B n1 c1] 22)
 have R0a := R0.step a1
 have B1 := zt b0 a1
 have y1 := y0.step a1
 refine ((mac_any A pass n0 c0 hn0 hc0 hm0 hz0 _ [salt] 1 1 rfl (Nat.le_refl _) (by unfold maxLen; omega) _ R0a P1)).mono ?_
 rintro e w1 ⟨rfl, b1⟩
 have y2 := y1.step b1
 have R02 := R0a.step b1
 have B2 := zt B1 b1
 obtain ⟨F, hF⟩ : ∃ F, F = strU pass salt 0 := ⟨_, rfl⟩
 rw [show macW pass [salt] = F from hF.symm]
 have z1 := Blk.new w1 35 #[Value.int .u8 0, .int .u8 0, .int .u8 0, .int .u8 0, .int .u8 0, .int .u8 0, .int .u8 0, .int .u8 0, .int .u8 0, .int .u8 0, .int .u8 0, .int .u8 0, .int .u8 0, .int .u8 0, .int .u8 0, .int .u8 0]
 have a2 := zga w1 (.cells #[Value.int .u8 0, .int .u8 0, .int .u8 0, .int .u8 0, .int .u8 0, .int .u8 0, .int .u8 0, .int .u8 0, .int .u8 0, .int .u8 0, .int .u8 0, .int .u8 0, .int .u8 0, .int .u8 0, .int .u8 0, .int .u8 0] 35)
 clear R1 R0 P1 a1 y0 y1 b1 b0 B1 R0a hR1
 have HF := hid hF
 clear hF
 go_wp2_with (first | (refine zx rfl _ (.tmp 7) _ rfl _ rfl _ rfl (zda _) _ z1 rfl zmb ?_; intro w2 g2 c2; have b2 := znb g2; have y3 := y2.step b2; have R03 := R02.step b2; have B3 := zt B2 b2; have z2 := Blk.new w2 35 #[Value.int .u8 0, .int .u8 0, .int .u8 0, .int .u8 0, .int .u8 0, .int .u8 0, .int .u8 0, .int .u8 0, .int .u8 0, .int .u8 0, .int .u8 0, .int .u8 0, .int .u8 0, .int .u8 0, .int .u8 0, .int .u8 0]; have hu : w1.heap.size < w2.heap.size := c2.lt) | (refine zma rfl _ (.tmp 7) rfl _ rfl _ _ _ c2 Tryz.underlying35 rfl zmb ?_) | (refine zx rfl _ (.tmp 8) _ rfl _ rfl _ rfl (zda _) _ z2 rfl zmb ?_; intro w3 g3 c3; have b3 := znb g3; have y4 := y3.step b3; have R04 := R03.step b3; have B4 := zt B3 b3; have c24 := c2.step b3))
 have hu3 : w1.heap.size < w3.heap.size := c24.lt
 have hv3 : w2.heap.size < w3.heap.size := c3.lt
 have hy4 := y4.lt
 obtain ⟨U, hU⟩ : ∃ U, U = w1.heap.size := ⟨_, rfl⟩
 obtain ⟨V, hV⟩ : ∃ V, V = w2.heap.size := ⟨_, rfl⟩
 rw [← hU] at c24 ⊢
 rw [← hV] at c3 ⊢
 rw [HF.out] at c24 c3
 have hUw : w.heap.size < U := by have := y2.lt; omega
 have hUV : U ≠ V := by omega
 have hwV : w.heap.size < V := by omega
 have hU3 : U < w3.heap.size := by omega
 have hV3 : V < w3.heap.size := by omega
 clear HF y2 R02 B2 z1 a2 g2 c2 b2 y3 R03 B3 z2 g3 b3 hu hu3 hv3 hU hV
 go_loopw [9] (fun i wr => ∃ k : Nat, k ≤ T ∧ i = .int .i64 ((k : Int) + 1) ∧ Blk wr U 35 (zi (outF (strU pass salt k))) ∧ Blk wr V 35 (zi (strA pass salt k)) ∧ Below (w.heap.size + 1) w3 wr) (fun i _ => 1001 - (intOf i).toNat)
 case atStart => exact ⟨0, by omega, rfl, c24, c3, Below.refl _ _⟩
 case round =>
  obtain ⟨k, hk, rfl, hu, hv, hB⟩ := hrel
  have hz := hB.size
  have hul := hu.lt
  have hvl := hv.lt
  have HU := hid (show strU pass salt (k + 1) = macW pass [sumL (strU pass salt k)] from rfl)
  have HA := hid (show zi (strA pass salt (k + 1)) = zi (fun j => xorB (strA pass salt k j) (outF (strU pass salt (k + 1)) j)) from rfl)
  have hab := hid (strA_bd pass salt k)
  have hob := hid (zzb (strU pass salt k))
  obtain ⟨a, ha⟩ : ∃ a, a = strA pass salt k := ⟨_, rfl⟩
  obtain ⟨u, hu'⟩ : ∃ u, u = strU pass salt k := ⟨_, rfl⟩
  obtain ⟨u2, hu2⟩ : ∃ u2, u2 = strU pass salt (k + 1) := ⟨_, rfl⟩
  rw [← ha, ← hu2] at HA
  rw [← ha] at hab hv
  rw [← hu'] at hob hu
  rw [← hu2, ← hu'] at HU
  have Ha := hid ha
  have Hu2 := hid hu2
  clear ha hu2 hu'
  by_cases hlt : k < T
  ·have Rr : Rd wr A pass := hR0.below (B4.trans (hB.mono (by omega))) (Nat.le_refl _)
   have hd : (t ≤ 1000 ∧ (k : Int) + 1 < t) ∨ (1000 < t ∧ (k : Int) + 1 < 1000) := by omega
   rcases hd with ⟨d1, d2⟩ | ⟨d1, d2⟩
   all_goals
    have Ru := sum_rd hu
    have hsl := fun w' => slice_sum w' U
    have P1 := prd_one (sumL_len u) (Nat.le_refl 16) (by unfold maxLen; omega) (fun h => by cases h) Ru
    have a1 := zga wr (.cells #[.slice (some ⟨U, 0, none⟩) 16 16] 22)
    have Ra := Rr.step a1
    go_wp2_with fail
    refine ((mac_any A pass n0 c0 hn0 hc0 hm0 hz0 _ [sumL u] 1 1 rfl (Nat.le_refl _) (by unfold maxLen; omega) _ Ra P1)).mono ?_
    rintro e w4 ⟨rfl, b4⟩
    rw [← HU.out]
    have B4 := zt a1 b4
    have hu4 := hu.step B4
    have hv4 := hv.step B4
    have hz4 := B4.size
    clear a1 P1 Ru hsl Ra b4
    go_wp2_with (refine zx rfl _ (.tmp 7) _ rfl _ rfl _ rfl (zda _) _ hu4 rfl zmb ?_; intro w5 g5 c5)
    have v5 := hv4.grown g5 (fun e => by cases e; omega)
    have B5 : Below (w.heap.size + 1) w3 w5 := zf (hB.trans (B4.mono (by omega))) g5 (by omega) (by omega)
    rw [midA_zero a (outF u2)] at v5
    have hz5 := B5.size
    clear hu4 hv4 B4 g5 hu hv hB
    go_loopw [26] (fun i wr => ∃ j : Nat, j ≤ 16 ∧ i = .int .i64 (j : Int) ∧ Blk wr U 35 (zi (outF u2)) ∧ Blk wr V 35 (zi (midA a (outF u2) j)) ∧ Below (w.heap.size + 1) w3 wr) (fun i _ => 16 - (intOf i).toNat)
    case atStart => exact ⟨0, by omega, rfl, c5, v5, B5⟩
    case round =>
     rename_i wr2 _ _
     obtain ⟨j, hj, rfl, cu, cv, hB2⟩ := hrel
     have hzz := hB2.size
     by_cases hj6 : j < 16
     ·have h1 := cu.cell (arr16_at' (outF u2) hj6)
      have h2 := cv.cell (arr16_at' (midA a (outF u2) j) hj6)
      rw [show midA a (outF u2) j j = a j by unfold midA; rw [if_neg (by omega)]] at h2
      have h3 := Blk.frozen cv j
      have hset := hid (midA_set a (outF u2) hj6)
      have hxb := xorB_bd (a j) (outF u2 j)
      unfold xorB at hset hxb
      generalize a j = X at *
      generalize outF u2 j = Y at *
      go_wp2
      go_still_tail 8, (by kernel_rfl)
      change wpList _ _ _ _ _ (World.drew _)
      go_wp2
      go_roundw
      case rel => exact ⟨j + 1, by omega, by go_num, (cu.drew.far (a := ⟨V, j, none⟩) _ (by simpa using hUV)), cv.drew.set j _ hset.out, hB2.drew.setCell (p := ⟨V, j, none⟩) (by simp; omega) _⟩
      case measure => simp [intOf]; omega
     ·obtain rfl : j = 16 := by omega
      rw [midA_full, ← HA.out] at cv
      rw [Hu2.out] at cu
      clear HA HU
      go_wp2
      go_roundw
      case rel => exact ⟨k + 1, by omega, by go_num, cu, cv, hB2⟩
      case measure => simp [intOf]; omega
  ·obtain rfl : k = T := by omega
   rw [Ha.out] at hv
   clear HU HA hab hob Ha Hu2
   have y5 := Blk.below y4 hB (by omega)
   have hd : (t ≤ 1000 ∧ ¬ (k : Int) + 1 < t) ∨ (1000 < t ∧ ¬ (k : Int) + 1 < 1000) := by omega
   rcases hd with ⟨d1, d2⟩ | ⟨d1, d2⟩
   all_goals
    go_wp2_with (first | (refine zma rfl _ (.tmp 8) rfl _ rfl _ _ _ hv Tryz.underlying35 rfl zmb ?_) | (refine zx rfl _ (.tmp 6) _ rfl _ rfl _ rfl (zda _) _ y5 rfl zmb ?_; intro w6 g6 c6))
    exact bodyPost_ret (z5b rfl rfl c6 Tryz.underlying35 rfl zmb) rfl ⟨rfl, zf (B4.trans (hB.mono (by omega))) g6 (by have := B4.size; omega) (Nat.le_refl _)⟩
end Go.Proofs.YtcfepoopkfhojaaGreat
