/- mont.Mul. -/
import Derived.Test.YtgccbfkofkohpaaGaBk
import Derived.Test.YtgccbfkofkohpaaPick
import Derived.Test.YtgccbfkofkohpaaGaKn
import Derived.Test.YtgccbfkofkohpaaGaInv
namespace Go.Proofs.Ytgccbfkofkohpaa
set_option linter.unusedVariables false
set_option maxRecDepth 20000
set_option linter.unusedSimpArgs false
open Go.ChangeShapes Go.WideShapes Go.ChangeAt Go.RowKit
/-- What is picked at the end. -/
theorem mt_pick {T m : Nat} (hm : m < 4294967296 ^ 8) (hT : T < 2 * m) : ∃ (S c : Nat) (L : Int) (Y : Int), T % 4294967296 ^ 8 = S ∧ T / 4294967296 ^ 8 = c ∧ S < 4294967296 ^ 8 ∧ c ≤ 1 ∧ lentI S m = L ∧ 0 ≤ L ∧ L ≤ 1 ∧ bits .or .u32 (c : Int) (1 - L) = Y ∧ 0 ≤ Y ∧ Y < 4294967296 ∧ pickN Y (subN S m) S = if m ≤ T then T - m else T := by
  have hS := Nat.mod_lt T (show 0 < 4294967296 ^ 8 by decide)
  have hc : T / 4294967296 ^ 8 ≤ 1 := by
    have : T / 4294967296 ^ 8 < 2 := Nat.div_lt_of_lt_mul (by omega)
    omega
  have hd := Nat.div_add_mod T (4294967296 ^ 8)
  obtain ⟨S, hSe⟩ : ∃ S, T % 4294967296 ^ 8 = S := ⟨_, rfl⟩
  obtain ⟨c, hce⟩ : ∃ c, T / 4294967296 ^ 8 = c := ⟨_, rfl⟩
  rw [hSe] at hS hd
  rw [hce] at hc hd
  have hL : lentI S m = 0 ∨ lentI S m = 1 := by unfold lentI; split <;> omega
  refine ⟨S, c, _, _, hSe, hce, hS, hc, rfl, by omega, by omega, rfl, ?_⟩
  have o1 : bits .or .u32 0 0 = 0 := by decide +kernel
  have o2 : bits .or .u32 0 1 = 1 := by decide +kernel
  have o3 : bits .or .u32 1 0 = 1 := by decide +kernel
  have o4 : bits .or .u32 1 1 = 1 := by decide +kernel
  clear hSe hce hL
  have hc2 : c = 0 ∨ c = 1 := by omega
  by_cases h2 : m ≤ S
  · have l : lentI S m = 0 := by unfold lentI; rw [if_pos h2]
    have s : subN S m = S - m := by unfold subN; rw [if_pos h2]
    rw [l, s]
    rcases hc2 with rfl | rfl
    · have hTS : T = S := by omega
      subst hTS
      have : bits .or .u32 ((0 : Nat) : Int) (1 - 0) = 1 := o2
      rw [this, if_pos h2]
      exact ⟨by omega, by omega, by unfold pickN; rw [if_neg (by omega)]⟩
    · have : bits .or .u32 ((1 : Nat) : Int) (1 - 0) = 1 := o4
      omega
  · have l : lentI S m = 1 := by unfold lentI; rw [if_neg h2]
    rw [l]
    rcases hc2 with rfl | rfl
    · have hTS : T = S := by omega
      subst hTS
      have : bits .or .u32 ((0 : Nat) : Int) (1 - 1) = 0 := o1
      rw [this, if_neg h2]
      exact ⟨by omega, by omega, by unfold pickN; rw [if_pos rfl]⟩
    · have : bits .or .u32 ((1 : Nat) : Int) (1 - 1) = 1 := o3
      rw [this, if_pos (by omega)]
      refine ⟨by omega, by omega, ?_⟩
      unfold pickN subN
      rw [if_neg (by omega), if_neg h2]
      omega
theorem mt_drew (w : World) (row : Option Nat) : w.grownBy w.drew row := ⟨rfl, rfl, rfl, Nat.le_refl _, fun _ _ _ => rfl⟩
/-- What lies in the sum behind a step. -/
theorem mt_cells {S2 t2 T' : Nat} (h1 : t2 % 4294967296 ^ 8 = S2) (h2 : t2 = 4294967296 * T') : #[numF S2 1, numF S2 2, numF S2 3, numF S2 4, numF S2 5, numF S2 6, numF S2 7, .int .u32 ((dig T' 7 : Nat) : Int)] = numA (T' % 4294967296 ^ 8) := by
  have h : ∀ j, j < 7 → numF S2 (j + 1) = numF (T' % 4294967296 ^ 8) j := by
    intro j hj
    unfold numF digI
    rw [← h1, dig_mod t2 (show j + 1 < 8 by omega), mt_shift h2, dig_mod T' (show j < 8 by omega)]
  have h7 : Value.int .u32 ((dig T' 7 : Nat) : Int) = numF (T' % 4294967296 ^ 8) 7 := by
    unfold numF digI
    rw [dig_mod T' (show 7 < 8 by decide)]
  rw [h7]
  unfold numA
  rw [← h 0 (by decide), ← h 1 (by decide), ← h 2 (by decide), ← h 3 (by decide), ← h 4 (by decide), ← h 5 (by decide), ← h 6 (by decide)]
set_option maxRecDepth 100000 in
set_option maxHeartbeats 16000000 in
theorem mtmul_any (m r t : Nat) (n : Int) (hm : m < 4294967296 ^ 8) (ho : m % 2 = 1) (hn : ∃ q, n * digI m 0 + 1 = 4294967296 * q) (hn0 : 0 ≤ n) (hn1 : n < 4294967296) (a b : Nat) (ha : a < 4294967296 ^ 8) (hb : b < m) (w : World) :
    Calls Try.prog 75 #[.agg (montA m r t n), numV a, numV b] w fun e w' => e = .returned (numV (mm m (a * b))) ∧ Below w.heap.size w w' := by
  obtain ⟨W, hW⟩ : ∃ W, W = ((((w.alloc (.cells (montA m r t n) 72)).alloc (.cells (numA a) 26)).alloc (.cells (numA b) 26)).alloc (.cells (numA 0) 26)).alloc (.cells (numA 0) 26) := ⟨_, rfl⟩
  have qc : Blk W w.heap.size 72 (montA m r t n) := by rw [hW]; exact ((((Blk.new w _ _).alloc _).alloc _).alloc _).alloc _
  have qa : Num W (w.heap.size + 1) 26 a := by
    have := (((Num.new (w.alloc (.cells (montA m r t n) 72)) 26 a).alloc (.cells (numA b) 26)).alloc (.cells (numA 0) 26)).alloc (.cells (numA 0) 26)
    rw [World.size_alloc] at this; rw [hW]; exact this
  have qb : Num W (w.heap.size + 1 + 1) 26 b := by
    have := ((Num.new ((w.alloc (.cells (montA m r t n) 72)).alloc (.cells (numA a) 26)) 26 b).alloc (.cells (numA 0) 26)).alloc (.cells (numA 0) 26)
    rw [World.size_alloc, World.size_alloc] at this; rw [hW]; exact this
  have qr : Num W (w.heap.size + 1 + 1 + 1) 26 0 := by
    have := (Num.new (((w.alloc (.cells (montA m r t n) 72)).alloc (.cells (numA a) 26)).alloc (.cells (numA b) 26)) 26 0).alloc (.cells (numA 0) 26)
    rw [World.size_alloc, World.size_alloc, World.size_alloc] at this; rw [hW]; exact this
  have qs : Num W (w.heap.size + 1 + 1 + 1 + 1) 26 0 := by
    have := Num.new ((((w.alloc (.cells (montA m r t n) 72)).alloc (.cells (numA a) 26)).alloc (.cells (numA b) 26)).alloc (.cells (numA 0) 26)) 26 0
    rw [World.size_alloc, World.size_alloc, World.size_alloc, World.size_alloc] at this; rw [hW]; exact this
  have gb : Below w.heap.size w W := by rw [hW]; exact (((((Below.refl _ _).alloc (Nat.le_refl _) _).alloc (by simp) _).alloc (by simp; omega) _).alloc (by simp; omega) _).alloc (by simp; omega) _
  have gs : w.heap.size + 1 + 1 + 1 + 1 < W.heap.size := qs.lt
  have HN := hid hn
  have HM := hid hm
  have HA := hid ha
  have hbP : Hid (b < 4294967296 ^ 8) := hid (by omega)
  have HBM := hid hb
  have HO := hid ho
  rw [← zeroA] at hW
  clear hn hm ha hb ho
  go_enter Try.func75, Try.ntmps75
  go_upto_region 2 with fail
  rw [← hW]
  clear hW
  obtain ⟨C, hC⟩ : ∃ C, C = w.heap.size := ⟨_, rfl⟩
  rw [← hC] at qc qa qb qr qs gb gs ⊢
  have HC := hid hC
  clear hC
  go_wp2_with (refine wpList_load_num rfl _ (.tmp 4) rfl _ rfl _ _ _ qa Try.underlying26 rfl size26 ?_)
  go_loopw [8, 14] (fun cy i wr => ∃ (k T q c : Nat), k ≤ 8 ∧ i = .int .i64 (k : Int) ∧ cy = .int .u64 (c : Int) ∧ Hid (T / 4294967296 ^ 8 = c) ∧ Hid (T < b + m) ∧ Hid (4294967296 ^ k * T = a % 4294967296 ^ k * b + q * m) ∧ Num wr (C + 1 + 1 + 1 + 1) 26 (T % 4294967296 ^ 8) ∧ W.grownBy wr (some (C + 1 + 1 + 1 + 1))) (fun _ i _ => 8 - (intOf i).toNat)
  case atStart => exact ⟨0, 0, 0, 0, by omega, rfl, rfl, hid (by decide), hid (by have := HBM.out; omega), hid (by simp [Nat.mod_one]), qs, World.grownBy.refl _ _⟩
  case round =>
    obtain ⟨k, T, q, c, hk, rfl, rfl, HCY, HT, HE, hs, hg⟩ := hrel
    clear qs
    by_cases hlt : k < 8
    · have hix := fun w' => index_num a k hlt w'
      obtain ⟨D, hD⟩ : ∃ D, Hid (dig a k = D) := ⟨_, hid rfl⟩
      have hDI : Hid (digI a k = (D : Int)) := hid (by unfold digI; rw [hD.out])
      have hDb : Hid (D < 4294967296) := hid (by rw [← hD.out]; exact dig_lt _ _)
      have hix2 : ∀ w', (Instr.index 26 (.agg (numA a)) (.int .i64 (k : Int))).run Try.prog w' = .ok (.int .u32 (D : Int)) w' := fun w' => by rw [hix w', hDI.out]
      have kb := qb.grown hg (by simp)
      have kc := qc.grown hg (by simp; omega)
      have hSl : Hid (T % 4294967296 ^ 8 < 4294967296 ^ 8) := hid (Nat.mod_lt _ (by decide))
      obtain ⟨e1, e2⟩ := div_split T (D * b) (4294967296 ^ 8) (by decide)
      rw [HCY.out] at e1
      obtain ⟨c1, hc1⟩ : ∃ c1, Hid ((T % 4294967296 ^ 8 + D * b) / 4294967296 ^ 8 = c1) := ⟨_, hid rfl⟩
      obtain ⟨S1, hS1⟩ : ∃ S1, Hid ((T % 4294967296 ^ 8 + D * b) % 4294967296 ^ 8 = S1) := ⟨_, hid rfl⟩
      rw [hc1.out] at e1
      rw [hS1.out] at e2
      have hS1b : Hid (S1 < 4294967296 ^ 8) := hid (by rw [← hS1.out]; exact Nat.mod_lt _ (by decide))
      have E1 := hid e1
      have E2 := hid e2
      have hcb : Hid (c ≤ 1 ∧ c1 < 4294967296) := hid (by
        have h1 := HT.out
        have h2 := HBM.out
        have h3 := HM.out
        refine ⟨?_, ?_⟩
        · rw [← HCY.out]
          have : T / 4294967296 ^ 8 < 2 := Nat.div_lt_of_lt_mul (by omega)
          omega
        · rw [← hc1.out]
          refine Nat.div_lt_of_lt_mul ?_
          have h4 : D * b ≤ 4294967295 * b := Nat.mul_le_mul_right _ (by have := hDb.out; omega)
          have := hSl.out
          omega)
      clear e1 e2 hix
      go_wp2_with (refine wpList_load_num rfl _ (.tmp 5) rfl _ rfl _ _ _ kb Try.underlying26 rfl size26 ?_)
      refine (mtadd_any (C + 1 + 1 + 1 + 1) (T % 4294967296 ^ 8) D b _ hSl.out hDb.out hbP.out _ hs).mono ?_
      rintro e w1 ⟨rfl, s1, g1⟩
      rw [hc1.out]
      rw [hS1.out] at s1
      obtain ⟨c2, hc2⟩ : ∃ c2, Hid (c + c1 = c2) := ⟨_, hid rfl⟩
      have hcc : (c : Int) + (c1 : Int) = (c2 : Int) := by have := hc2.out; omega
      have hcb2 : c2 ≤ 4294967296 := by have := hc2.out; have := hcb.out; omega
      have e3 := Go.IntWalk.u64_in (c2 : Int) (by omega)
      have s1c := s1.row.cell (i := 0) (by decide)
      simp only [numF] at s1c
      have s1f := s1.row.frozen 0
      have kb1 := kb.grown g1 (by simp)
      have kc1 := kc.grown g1 (by simp; omega)
      have kn := kc1.cell (k := 24) montA_n
      have knf := kc1.frozen 24
      obtain ⟨s10, s11⟩ : 0 ≤ digI S1 0 ∧ digI S1 0 < 4294967296 := ⟨digI_ge _ _, digI_lt _ _⟩
      obtain ⟨u, hu⟩ : ∃ u : Nat, Hid ((u : Int) = digI S1 0 * n % 4294967296) := ⟨(digI S1 0 * n % 4294967296).toNat, hid (Int.toNat_of_nonneg (Int.emod_nonneg _ (by decide)))⟩
      have hub : Hid (u < 4294967296) := hid (by have := hu.out; have := Int.emod_lt_of_pos (digI S1 0 * n) (show (0 : Int) < 4294967296 by decide); omega)
      have e4 : IntKind.u32.wrap (digI S1 0 * n) = (u : Int) := by rw [hu.out]; rfl
      clear s10 s11
      go_wp2_with (refine wpList_load_part rfl _ (.tmp 28) rfl C 0 rfl _ _ (numA m) _ kc1 montA_m Try.underlying26 rfl size26 ?_)
      refine (mtadd_any (C + 1 + 1 + 1 + 1) S1 u m _ hS1b.out hub.out HM.out _ s1).mono ?_
      rintro e w2 ⟨rfl, s2, g2⟩
      obtain ⟨f1, f2⟩ := div_split (T + D * b) (u * m) (4294967296 ^ 8) (by decide)
      rw [E1.out, E2.out] at f1
      rw [E2.out] at f2
      obtain ⟨c3, hc3⟩ : ∃ c3, Hid ((S1 + u * m) / 4294967296 ^ 8 = c3) := ⟨_, hid rfl⟩
      obtain ⟨S2, hS2⟩ : ∃ S2, Hid ((S1 + u * m) % 4294967296 ^ 8 = S2) := ⟨_, hid rfl⟩
      rw [hc3.out] at f1 ⊢
      rw [hS2.out] at f2 s2
      obtain ⟨c4, hc4⟩ : ∃ c4, Hid (c2 + c3 = c4) := ⟨_, hid rfl⟩
      have hcc4 : (c2 : Int) + (c3 : Int) = (c4 : Int) := by have := hc4.out; omega
      have F1 : Hid ((T + D * b + u * m) / 4294967296 ^ 8 = c4) := hid (by rw [f1, ← hc4.out, ← hc2.out])
      have F2 := hid f2
      obtain ⟨T', hT'⟩ : ∃ T', Hid (T + D * b + u * m = 4294967296 * T') := by
        obtain ⟨T', h⟩ := mt_low (t1 := T + D * b) (u := u) HN.out (by rw [E2.out]; exact hu.out)
        exact ⟨T', hid h⟩
      have hTb : Hid (T' < b + m) := hid (mt_bound HT.out hDb.out hub.out hT'.out)
      obtain ⟨t7, t8⟩ := mt_top hT'.out
      rw [F1.out] at t7 t8
      have hc4b : Hid (c4 < 18446744073709551616) := hid (by
        have h1 := hTb.out
        have h2 := HBM.out
        have h3 := HM.out
        have : T' / 4294967296 ^ 8 < 2 := Nat.div_lt_of_lt_mul (by omega)
        omega)
      have e5 := Go.IntWalk.u64_in (c4 : Int) (by have := hc4b.out; omega)
      clear f1 f2
      go_wp2_with fail
      obtain ⟨w3, r3, s3, g3⟩ := copy_down w2.drew (C + 1 + 1 + 1 + 1) S2 _ s2.drew
      have s3f := s3.frozen 7
      have s3c := s3.cell (k := 7) rfl
      have e6 : IntKind.u32.wrap (c4 : Int) = ((dig T' 7 : Nat) : Int) := by rw [← t7]; rfl
      obtain ⟨cT, hcT⟩ : ∃ cT, Hid (T' / 4294967296 ^ 8 = cT) := ⟨_, hid rfl⟩
      have e7 : (c4 : Int) / 4294967296 = (cT : Int) := by rw [← hcT.out, ← t8]; rfl
      have hc40 : (0 : Int) ≤ (c4 : Int) := by omega
      clear t7 t8
      go_still_tail 2, (by kernel_rfl)
      change wpList _ _ _ _ _ (World.drew _)
      go_wp2_with fail
      go_roundw
      case rel =>
        have cells := mt_cells F2.out hT'.out
        refine ⟨k + 1, T', q + 4294967296 ^ k * u, cT, by omega, by go_num, ?_, hcT, hTb, hid (mt_next HE.out (by rw [hD.out]; exact hT'.out)), ?_, ?_⟩
        · rfl
        · exact s3.set 7 _ cells
        · exact grown_set (World.grownBy.trans (World.grownBy.trans (World.grownBy.trans (World.grownBy.trans hg g1) g2) (mt_drew _ _)) g3) rfl _
      case measure => simp [intOf] <;> omega
    · obtain rfl : k = 8 := by omega
      have hend := mt_end (q := q) HO.out HA.out HBM.out HT.out HE.out
      obtain ⟨S, c', L, Y, z1, z2, hS, hc, hL, hL0, hL1, hY, hY0, hY1, hP⟩ := mt_pick HM.out (show T < 2 * m by have := HT.out; have := HBM.out; omega)
      rw [hend] at hP
      obtain rfl : c' = c := by rw [← z2, HCY.out]
      rw [z1] at hs
      have kc := qc.grown hg (by simp; omega)
      have kr := qr.grown hg (by simp)
      have sg := hg.size
      go_wp2_with (first | (refine wpList_load_num rfl _ (.tmp 7) rfl _ rfl _ _ _ hs Try.underlying26 rfl size26 ?_) | (refine wpList_load_part rfl _ (.tmp 43) rfl C 0 rfl _ _ (numA m) _ kc montA_m Try.underlying26 rfl size26 ?_))
      refine (sub_any S m hS HM.out _).mono ?_
      rintro e w1 ⟨rfl, b1⟩
      rw [hL]
      have nz : Num (w1.alloc (.cells #[.int .u32 0, .int .u32 0, .int .u32 0, .int .u32 0, .int .u32 0, .int .u32 0, .int .u32 0, .int .u32 0] 26)) w1.heap.size 26 0 := by
        have := Num.new w1 26 0
        rw [← zeroA] at this
        exact this
      have hw1 := b1.size
      have e1 : IntKind.u32.wrap (c' : Int) = (c' : Int) := by show (c' : Int) % 4294967296 = _; omega
      have e2 : IntKind.u32.wrap (1 - L) = 1 - L := by show (1 - L) % 4294967296 = _; omega
      have gs2 : C + 1 + 1 + 1 + 1 < wr.heap.size := by omega
      have hs1 := (hs.step b1).alloc (.cells #[.int .u32 0, .int .u32 0, .int .u32 0, .int .u32 0, .int .u32 0, .int .u32 0, .int .u32 0, .int .u32 0] 26)
      have kr1 := (kr.step b1).alloc (.cells #[.int .u32 0, .int .u32 0, .int .u32 0, .int .u32 0, .int .u32 0, .int .u32 0, .int .u32 0, .int .u32 0] 26)
      go_wp2_with (first | (refine wpList_store_num rfl _ (.tmp 11) _ rfl _ rfl _ rfl _ rfl nz size26 ?_; intro w2 g2 m2; have hs2 := hs1.grown g2 (by simp <;> omega); have kr2 := kr1.grown g2 (by simp <;> omega)) | (refine wpList_load_num rfl _ (.tmp 11) rfl _ rfl _ _ _ m2 Try.underlying26 rfl size26 ?_) | (refine wpList_load_num rfl _ (.tmp 7) rfl _ rfl _ _ _ hs2 Try.underlying26 rfl size26 ?_))
      refine (pick_any Y hY0 hY1 (subN S m) S _).mono ?_
      rintro e w3 ⟨rfl, b3⟩
      rw [hP]
      have kr3 := kr2.step b3
      go_wp2_with (refine wpList_store_num rfl _ (.tmp 6) _ rfl _ rfl _ rfl _ rfl kr3 size26 ?_; intro w4 g4 m4)
      refine bodyPost_ret (results_num rfl rfl m4 Try.underlying26 rfl size26) rfl ⟨rfl, ?_⟩
      rw [← HC.out]
      have bb := below_of_grown gb hg (by omega) (by omega)
      have b2 := below_of_grown (B := C) ((below_trans bb b1 (by omega)).alloc (by omega) _) g2 (by simp <;> omega) (by omega)
      have z2 := g2.size
      simp only [World.size_alloc] at z2
      have z3 := b3.size
      exact below_of_grown (below_trans b2 b3 (by omega)) g4 (by omega) (by omega)
end Go.Proofs.Ytgccbfkofkohpaa
namespace Go.Proofs.Ytgccbfkofkohpaa
set_option linter.unusedVariables false
set_option maxRecDepth 20000
set_option linter.unusedSimpArgs false
open Go.ChangeShapes Go.WideShapes Go.ChangeAt Go.RowKit
theorem montA_r {m r t : Nat} {n : Int} (j : Nat) (v : Value) (h : (numA r)[j]? = some v) : (montA m r t n)[8 + j]? = some v := by
  have hj := (Array.getElem?_eq_some_iff.1 h).1
  rw [numA_size] at hj
  rw [← h]
  have : j = 0 ∨ j = 1 ∨ j = 2 ∨ j = 3 ∨ j = 4 ∨ j = 5 ∨ j = 6 ∨ j = 7 := by omega
  rcases this with rfl | rfl | rfl | rfl | rfl | rfl | rfl | rfl <;> rfl
theorem montA_t {m r t : Nat} {n : Int} (j : Nat) (v : Value) (h : (numA t)[j]? = some v) : (montA m r t n)[16 + j]? = some v := by
  have hj := (Array.getElem?_eq_some_iff.1 h).1
  rw [numA_size] at hj
  rw [← h]
  have : j = 0 ∨ j = 1 ∨ j = 2 ∨ j = 3 ∨ j = 4 ∨ j = 5 ∨ j = 6 ∨ j = 7 := by omega
  rcases this with rfl | rfl | rfl | rfl | rfl | rfl | rfl | rfl <;> rfl
section
variable {P : Program}
theorem wpQuiet_load_blk {ops : Array Oper} {W : World} {Q : Act → Prop} {a : Act} {o : Oper} {rest : List Oper} (hw : Region.wanted o (yielded ops a.tmps) = true) (ty : TypeId) (y : Operand) (ho : o.op = .load ty y)
    (g : Nat) (hy : a.eval y = .pointer (some ⟨g, 0, none⟩)) (t : TypeId) (c : Array Value) (d : TypeDesc) (hg : Blk W g t c) (hu : P.underlying ty = some d)
    (hd : (match d with | .struct _ | .array _ _ => true | _ => false) = true) (hi : (P.info? ty).map (·.size) = some c.size)
    (h : wpQuiet P ops (fun w' => ∃ x : Later W, w' = x.w) Q rest (a.put o.dst (.agg c))) : wpQuiet P ops (fun w' => ∃ x : Later W, w' = x.w) Q (o :: rest) a :=
  BigFrame.wpQuiet_want hw fun K hK => ⟨.agg c, fun w ⟨x, e⟩ => by
    subst e
    unfold Oper.quietAt execOp
    simp only [ho, hy, Sem.run_bind, run_load_blk x.w ty g t c d (hg.below x.h hg.lt) hu hd hi, Result.andThen_ok, Sem.run_pure]
    exact ⟨rfl, rfl⟩, hK _ h⟩
theorem wpQuiet_load_part {ops : Array Oper} {W : World} {Q : Act → Prop} {a : Act} {o : Oper} {rest : List Oper} (hw : Region.wanted o (yielded ops a.tmps) = true) (ty : TypeId) (y : Operand) (ho : o.op = .load ty y)
    (g k : Nat) (hy : a.eval y = .pointer (some ⟨g, k, none⟩)) (t : TypeId) (c s : Array Value) (d : TypeDesc) (hg : Blk W g t c) (hs : ∀ (j : Nat) (v : Value), s[j]? = some v → c[k + j]? = some v) (hu : P.underlying ty = some d)
    (hd : (match d with | .struct _ | .array _ _ => true | _ => false) = true) (hi : (P.info? ty).map (·.size) = some s.size)
    (h : wpQuiet P ops (fun w' => ∃ x : Later W, w' = x.w) Q rest (a.put o.dst (.agg s))) : wpQuiet P ops (fun w' => ∃ x : Later W, w' = x.w) Q (o :: rest) a :=
  BigFrame.wpQuiet_want hw fun K hK => ⟨.agg s, fun w ⟨x, e⟩ => by
    subst e
    unfold Oper.quietAt execOp
    simp only [ho, hy, Sem.run_bind, run_load_sub x.w ty g k t c s d (hg.below x.h hg.lt) hs hu hd hi, Result.andThen_ok, Sem.run_pure]
    exact ⟨rfl, rfl⟩, hK _ h⟩
end
set_option maxHeartbeats 4000000 in
theorem mtin_any (m r t : Nat) (n : Int) (hm : m < 4294967296 ^ 8) (ho : m % 2 = 1) (hn : ∃ q, n * digI m 0 + 1 = 4294967296 * q) (hn0 : 0 ≤ n) (hn1 : n < 4294967296) (a : Nat) (ha : a < 4294967296 ^ 8) (ht : t < m) (w : World) :
    Calls Try.prog 79 #[.agg (montA m r t n), numV a] w fun e w' => e = .returned (numV (mm m (a * t))) ∧ Below w.heap.size w w' := by
  have HN := hid hn
  clear hn
  go_enter Try.func79, Try.ntmps79
  go_upto_region 1 with fail
  obtain ⟨W, hW⟩ : ∃ W, W = ((w.alloc (.cells (montA m r t n) 72)).alloc (.cells (numA a) 26)).alloc (.cells #[.int .u32 0, .int .u32 0, .int .u32 0, .int .u32 0, .int .u32 0, .int .u32 0, .int .u32 0, .int .u32 0] 26) := ⟨_, rfl⟩
  have qc : Blk W w.heap.size 72 (montA m r t n) := by rw [hW]; exact ((Blk.new w _ _).alloc _).alloc _
  have qa : Num W (w.heap.size + 1) 26 a := by
    have := (Num.new (w.alloc (.cells (montA m r t n) 72)) 26 a).alloc (.cells #[.int .u32 0, .int .u32 0, .int .u32 0, .int .u32 0, .int .u32 0, .int .u32 0, .int .u32 0, .int .u32 0] 26)
    rw [World.size_alloc] at this; rw [hW]; exact this
  have qr : Num W (w.heap.size + 1 + 1) 26 0 := by
    have := Num.new ((w.alloc (.cells (montA m r t n) 72)).alloc (.cells (numA a) 26)) 26 0
    rw [World.size_alloc, World.size_alloc, ← zeroA] at this; rw [hW]; exact this
  have gb : Below w.heap.size w W := by rw [hW]; exact (((Below.refl _ _).alloc (Nat.le_refl _) _).alloc (by simp) _).alloc (by simp; omega) _
  rw [← hW]
  clear hW
  go_wp2_with (first | (refine wpList_load_blk rfl _ (.tmp 2) rfl _ rfl _ _ _ qc Try.underlying72 rfl size_mont ?_) | (refine wpList_load_num rfl _ (.tmp 3) rfl _ rfl _ _ _ qa Try.underlying26 rfl size26 ?_) | (refine wpList_load_part rfl _ (.tmp 7) rfl _ _ rfl _ _ (numA t) _ qc montA_t Try.underlying26 rfl size26 ?_))
  refine (mtmul_any m r t n hm ho HN.out hn0 hn1 a t ha ht _).mono ?_
  rintro e w1 ⟨rfl, b1⟩
  have qr1 := qr.step b1
  have z1 := gb.size
  have z2 := qr.lt
  go_wp2_with (refine wpList_store_num rfl _ (.tmp 4) _ rfl _ rfl _ rfl _ rfl qr1 size26 ?_; intro w2 g2 m2)
  refine bodyPost_ret (results_num rfl rfl m2 Try.underlying26 rfl size26) rfl ⟨rfl, ?_⟩
  have z3 := b1.size
  exact below_of_grown (below_trans gb b1 z1) g2 (by omega) (by omega)
set_option maxHeartbeats 4000000 in
theorem mtout_any (m r t : Nat) (n : Int) (hm : m < 4294967296 ^ 8) (h1m : 1 < m) (ho : m % 2 = 1) (hn : ∃ q, n * digI m 0 + 1 = 4294967296 * q) (hn0 : 0 ≤ n) (hn1 : n < 4294967296) (a : Nat) (ha : a < 4294967296 ^ 8) (w : World) :
    Calls Try.prog 77 #[.agg (montA m r t n), numV a] w fun e w' => e = .returned (numV (mm m a)) ∧ Below w.heap.size w w' := by
  have HN := hid hn
  clear hn
  go_enter Try.func77, Try.ntmps77
  go_upto_region 1 with fail
  obtain ⟨W, hW⟩ : ∃ W, W = ((w.alloc (.cells (montA m r t n) 72)).alloc (.cells (numA a) 26)).alloc (.cells #[.int .u32 0, .int .u32 0, .int .u32 0, .int .u32 0, .int .u32 0, .int .u32 0, .int .u32 0, .int .u32 0] 26) := ⟨_, rfl⟩
  have qc : Blk W w.heap.size 72 (montA m r t n) := by rw [hW]; exact ((Blk.new w _ _).alloc _).alloc _
  have qa : Num W (w.heap.size + 1) 26 a := by
    have := (Num.new (w.alloc (.cells (montA m r t n) 72)) 26 a).alloc (.cells #[.int .u32 0, .int .u32 0, .int .u32 0, .int .u32 0, .int .u32 0, .int .u32 0, .int .u32 0, .int .u32 0] 26)
    rw [World.size_alloc] at this; rw [hW]; exact this
  have qr : Num W (w.heap.size + 1 + 1) 26 0 := by
    have := Num.new ((w.alloc (.cells (montA m r t n) 72)).alloc (.cells (numA a) 26)) 26 0
    rw [World.size_alloc, World.size_alloc, ← zeroA] at this; rw [hW]; exact this
  have gb : Below w.heap.size w W := by rw [hW]; exact (((Below.refl _ _).alloc (Nat.le_refl _) _).alloc (by simp) _).alloc (by simp; omega) _
  have z1 := gb.size
  have z2 := qr.lt
  rw [← hW]
  clear hW
  refine wp_region_tail (by kernel_rfl) (by kernel_rfl) (by kernel_rfl) (by kernel_rfl) (by kernel_rfl) ?_
  simp only [calm, headOps, tailOps, List.length_cons, List.length_nil, List.drop_succ_cons, List.drop_zero, Nat.zero_add, Nat.reduceAdd]
  refine wpQuiet_load_blk rfl _ (.tmp 2) rfl _ rfl _ _ _ qc Try.underlying72 rfl size_mont ?_
  simp only [Act.put, List.setIfInBounds_toArray, List.set_cons_zero, List.set_cons_succ]
  refine wpQuiet_load_num rfl _ (.tmp 3) rfl _ rfl _ _ _ qa Try.underlying26 rfl size26 ?_
  simp only [Act.put, List.setIfInBounds_toArray, List.set_cons_zero, List.set_cons_succ]
  go_big_quiet_step (exact later_of (from_any 1 (by omega) (by omega) _))
  go_big_quiet_step (exact later_of (mtmul_any m r t n hm ho HN.out hn0 hn1 a 1 ha h1m _))
  refine wpQuiet_nil ?_
  intro X
  have qr1 := qr.step X.h
  rw [Nat.mul_one]
  go_wp2_with (refine wpList_store_num rfl _ (.tmp 4) _ rfl _ rfl _ rfl _ rfl qr1 size26 ?_; intro w2 g2 m2)
  refine bodyPost_ret (results_num rfl rfl m2 Try.underlying26 rfl size26) rfl ⟨rfl, ?_⟩
  have z3 := X.h.size
  exact below_of_grown (below_trans gb X.h z1) g2 (by omega) (by omega)
end Go.Proofs.Ytgccbfkofkohpaa
