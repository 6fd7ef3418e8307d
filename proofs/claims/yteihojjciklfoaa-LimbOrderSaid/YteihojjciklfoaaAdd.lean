/- limb.along at the step Add32, and limb.Add: contracts. -/
import Derived.Test.YteihojjciklfoaaBase
namespace Go.Proofs.Yteihojjciklfoaa
set_option linter.unusedVariables false
set_option linter.unusedSimpArgs false
open Go.ChangeShapes Go.WideShapes Go.ChangeAt Go.RowKit

set_option maxHeartbeats 400000 in
theorem add32_any (x y c : Int) (hx : 0 ≤ x) (hx' : x < 4294967296) (hy : 0 ≤ y) (hy' : y < 4294967296) (hc : 0 ≤ c) (hc' : c < 4294967296) (w : World) :
    Calls Try.prog 39 #[.int .u32 x, .int .u32 y, .int .u32 c] w fun e w' => e = .returned (.tuple #[.int .u32 ((x + y + c) % 4294967296), .int .u32 ((x + y + c) / 4294967296)]) ∧ w = w' := by
  go_enter Try.func39, Try.ntmps39
  go_wp2
  go_ret2
  exact ⟨rfl, rfl⟩

set_option maxHeartbeats 400000 in
theorem along_add (b o n cap b2 o2 m cap2 N : Nat) (T : TypeId) (f : Nat → Value) (x y : Nat → Int) (c : Int) (w : World)
   (hm : m ≤ n) (hn : n ≤ maxLen) (hN : o + n ≤ N) (hb : w.rowIs b T N f) (hf : ∀ k, k < m → f (o + k) = .int .u32 (x k))
   (hy : ∀ k, k < m → w.cell? ⟨b2, o2 + k, none⟩ = some (.int .u32 (y k))) (hne : b2 ≠ b) (hb2 : b2 < w.heap.size)
   (bx : ∀ k, 0 ≤ x k ∧ x k < 4294967296) (by_ : ∀ k, 0 ≤ y k ∧ y k < 4294967296) (hc : 0 ≤ c ∧ c ≤ 1) :
    Calls Try.prog 38 #[.slice (some ⟨b, o, none⟩) n cap, .slice (some ⟨b2, o2, none⟩) m cap2, .int .u32 c, .func (.func 39) #[] #[]] w fun e w' =>
      e = .returned (.int .u32 (cyI x y c m)) ∧ w.grownBy w' (some b) ∧ w'.rowIs b T N (fun j => if o ≤ j ∧ j < o + m then .int .u32 (zI x y c (j - o)) else f j) := by
  unfold maxLen at hn
  go_enter Try.func38, Try.ntmps38
  go_wp2
  go_loopw [2, 13] (fun v i wr => ∃ k : Nat, k ≤ m ∧ i = .int .i64 k ∧ v = .int .u32 (cyI x y c k) ∧ w.grownBy wr (some b) ∧ wr.rowIs b T N (fun j => if o ≤ j ∧ j < o + k then .int .u32 (zI x y c (j - o)) else f j)) (fun _ i _ => m - (intOf i).toNat)
  case atStart => exact ⟨0, Nat.zero_le _, rfl, rfl, World.grownBy.refl _ _, hb.congr (fun i _ => by rw [if_neg (by omega)])⟩
  case round =>
    obtain ⟨k, hk, rfl, rfl, hg, hr⟩ := hrel
    obtain ⟨hcy1, hcy2⟩ := cyI_bd bx by_ hc k
    obtain ⟨hx1, hx2⟩ := bx k
    obtain ⟨hy1, hy2⟩ := by_ k
    have c1 : k < m → wr.cell? ⟨b2, o2 + k, none⟩ = some (.int .u32 (y k)) := fun h => hg.cell (hy k h) (fun e => hne (by simpa using e))
    have c2 : k < m → wr.cell? ⟨b, o + k, none⟩ = some (.int .u32 (x k)) := fun h => by rw [hr.cell (by omega), if_neg (by omega), hf k h]
    have c3 : wr.frozen? ⟨b, o + k, none⟩ = false := hr.frozen _
    clear hf hy bx by_
    go_wp2_with (go_at_call 39; refine (add32_any _ _ _ (by omega) (by omega) (by omega) (by omega) (by omega) (by omega) _).mono ?_; rintro e w' ⟨rfl, rfl⟩)
    · go_roundw
      case rel =>
        refine ⟨k + 1, by omega, by go_num, ?_, grown_set hg rfl _, (hr.set (o + k) _).congr fun j hj => ?_⟩
        · rfl
        · by_cases e : j = o + k
          · subst e
            rw [if_pos rfl, if_pos (by omega), Nat.add_sub_cancel_left, zI]
          · rw [if_neg e]
            by_cases h1 : o ≤ j ∧ j < o + k
            · rw [if_pos h1, if_pos (by omega)]
            · rw [if_neg h1, if_neg (by omega)]
      case measure => simp [intOf]; omega
    · have : k = m := by omega
      subst this
      go_ret
      exact ⟨rfl, hg, hr⟩
/-- limb.Add: the sum of two numbers, and what is carried. -/
def carryI (a b : Nat) : Int := ((a + b) / 4294967296 ^ 8 : Nat)

set_option maxHeartbeats 800000 in
theorem add_any (a b : Nat) (ha : a < 4294967296 ^ 8) (hb : b < 4294967296 ^ 8) (w : World) :
    Calls Try.prog 17 #[numV a, numV b] w fun e w' => e = .returned (.tuple #[numV (a + b), .int .u32 (carryI a b)]) ∧ Below w.heap.size w w' := by
  obtain ⟨hc, hz⟩ := add_digits a b ha hb
  have hC : carryI a b = cyI (digI a) (digI b) 0 8 := by rw [hc]; rfl
  have HZ := hid hz
  rw [hC]
  clear hz hC hc
  go_enter Try.func17, Try.ntmps17
  go_wp2
  go_still_tail 2, (by kernel_rfl)
  change wpList _ _ _ _ _ (World.drew _)
  generalize hW : World.drew _ = W
  have g0 : Num W w.heap.size 26 a := by rw [← hW]; exact ((((Num.new w 26 a).alloc _).alloc _).drew)
  have g1 : Num W (w.heap.size + 1) 26 b := by
    have := ((Num.new (w.alloc (.cells (numA a) 26)) 26 b).alloc (.cells #[Value.int .u32 0, .int .u32 0, .int .u32 0, .int .u32 0, .int .u32 0, .int .u32 0, .int .u32 0, .int .u32 0] 26)).drew
    simp only [World.size_alloc] at this
    rw [← hW]; exact this
  have g2 : W.heap[w.heap.size + 1 + 1]? = some (.cells #[Value.int .u32 0, .int .u32 0, .int .u32 0, .int .u32 0, .int .u32 0, .int .u32 0, .int .u32 0, .int .u32 0] 26 (0, 0)) := by
    rw [← hW]
    have := heap_alloc_new ((w.alloc (.cells (numA a) 26)).alloc (.cells (numA b) 26)) (.cells #[Value.int .u32 0, .int .u32 0, .int .u32 0, .int .u32 0, .int .u32 0, .int .u32 0, .int .u32 0, .int .u32 0] 26)
    simp only [World.size_alloc] at this
    exact this
  have gb : Below w.heap.size w W := by rw [← hW]; exact ((((Below.refl _ _).alloc (Nat.le_refl _) _).alloc (by simp) _).alloc (by simp; omega) _).drew
  have gs : W.heap.size = w.heap.size + 3 := by rw [← hW]; simp
  have hgs : w.heap.size + 2 < W.heap.size := by omega
  have HS := hid gs
  clear gs hW
  go_wp2_with fail
  refine (along_add _ _ _ _ _ _ _ _ 8 26 (numF a) (digI a) (digI b) 0 _ (by omega) (by unfold maxLen; omega) (by omega) g0.row (fun k _ => by simp [numF]) (fun k hk => by simpa using g1.cell hk) (by omega) (by omega) (fun k => ⟨digI_ge _ _, digI_lt _ _⟩) (fun k => ⟨digI_ge _ _, digI_lt _ _⟩) (by omega)).mono ?_
  rintro e w1 ⟨rfl, hg, hr⟩
  have n0 : Num w1 w.heap.size 26 (a + b) := num_of_row hr fun j hj => by rw [if_pos (by omega), numF, ← HZ.out j hj, Nat.sub_zero]
  have n2 := (hg.block _ (by omega) (by simp; omega)).trans g2
  have nb := below_of_grown gb hg (by omega) (Nat.le_refl _)
  have ns := hg.size
  go_wp2_with (first | (refine wpList_load_num rfl _ _ rfl _ rfl _ _ _ n0 Try.underlying26 rfl size26 ?_) | (refine wpList_store_num rfl _ _ _ rfl _ rfl _ rfl _ rfl n2 size26 ?_; intro w2 hg2 m2))
  exact bodyPost_ret (results_num_tmp rfl rfl m2 Try.underlying26 rfl size26) rfl ⟨rfl, below_of_grown nb hg2 (by omega) (by omega)⟩
end Go.Proofs.Yteihojjciklfoaa
