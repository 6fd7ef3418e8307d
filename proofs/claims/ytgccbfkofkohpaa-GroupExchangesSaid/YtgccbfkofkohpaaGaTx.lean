/- group.number. -/
import Derived.Test.YtgccbfkofkohpaaGaSy
import Derived.Test.YtgccbfkofkohpaaGaSz
import Derived.Test.YtgccbfkofkohpaaSRBytes
import Derived.Test.YtgccbfkofkohpaaGaGc
import Derived.Test.YtgccbfkofkohpaaSReg
namespace Go.Proofs.Ytgccbfkofkohpaa
set_option linter.unusedVariables false
set_option maxRecDepth 20000
set_option linter.unusedSimpArgs false
open Go.ChangeShapes Go.WideShapes Go.ChangeAt Go.RowKit
theorem y_sliceSum {a : Act} {w : World} {o : Oper} (x : Operand) (ho : o.op = .slice 61 x none none none) {g : Nat} (hx : a.eval x = .pointer (some ⟨g, 0, none⟩)) : (execOp a.eval o).run Try.prog w = .ok (.value (.slice (some ⟨g, 0, none⟩) 16 16)) w := by
  have h := slice_sum w g
  unfold execOp
  simp only [ho, hx]
  simp only [Option.map_none, Sem.run_bind]
  rw [h]; rfl
theorem arr16_get (y : Nat → Int) {j : Nat} (h : j < 16) : (arr16 y)[j]? = some (.int .u8 (y j)) := by
  have : j = 0 ∨ j = 1 ∨ j = 2 ∨ j = 3 ∨ j = 4 ∨ j = 5 ∨ j = 6 ∨ j = 7 ∨ j = 8 ∨ j = 9 ∨ j = 10 ∨ j = 11 ∨ j = 12 ∨ j = 13 ∨ j = 14 ∨ j = 15 := by omega
  rcases this with rfl | rfl | rfl | rfl | rfl | rfl | rfl | rfl | rfl | rfl | rfl | rfl | rfl | rfl | rfl | rfl <;> rfl
theorem arr16_rd {w : World} {g : Nat} {y : Nat → Int} {t : TypeId} (h : w.heap[g]? = some (.cells (arr16 y) t (0, 0))) (hy : ∀ k, 0 ≤ y k ∧ y k < 256) : Rd w (some ⟨g, 0, none⟩) (sumY y) := fun _ => by
  refine ⟨_, rfl, heap_lt h, fun j b hj => ?_⟩
  have hj16 : j < 16 := by have := (List.getElem?_eq_some_iff.1 hj).1; rwa [sumY_len] at this
  rw [addr_add, Nat.zero_add]
  unfold sumY at hj
  rw [List.getElem?_map, List.getElem?_range hj16] at hj
  obtain rfl := Option.some.inj hj
  have hc : w.cell? ⟨g, j, none⟩ = some (.int .u8 (y j)) := by simp [World.cell?, h, arr16_get y hj16]
  rw [hc]
  unfold bv
  rw [sumY_val (hy j)]
set_option maxRecDepth 100000 in
set_option maxHeartbeats 4000000 in
theorem gnumber_any (y : Nat → Int) (hy : ∀ k, 0 ≤ y k ∧ y k < 256) (w : World) :
    Calls Try.prog 57 #[.agg (arr16 y)] w fun e w' => e = .returned (numV (readN (sumY y))) ∧ Below w.heap.size w w' := by
  have hlen := sumY_len y
  have kR := fun (w : World) (g : Nat) (h : w.heap[g]? = some (.cells (arr16 y) 61 (0, 0))) => read_any (some ⟨g, 0, none⟩) (sumY y) 16 16 hlen (by decide) (by decide) (by unfold maxLen; decide) w (arr16_rd h hy)
  refine calls_fx (args := [.agg (arr16 y)]) 11 Try.func57 rfl rfl rfl ?_
  intro fa F
  have M := Mx.start w
  refine wp_seq_k fun K1 hK1 => ?_
  refine wp_region_lit ?_
  refine wl_alloc (wanted_none rfl) rfl F rfl M 0 (t := 61) (c := arr16 y) (by unfold execOp; simp only [(F.get (t := 0) rfl)]; kernel_rfl) ?_
  intro g2 a2 w2 F2 M2
  clear F M
  refine wl_alloc (wanted_none rfl) rfl F2 rfl M2 1 (t := 26) (c := numA 0) (y_new_num rfl) ?_
  intro g3 a3 w3 F3 M3
  clear F2 M2
  refine hK1 _ _ ?_
  refine wp_seq_k fun K4 hK4 => ?_
  refine wp_region_lit ?_
  refine wl_run (w' := w3) (wanted_none rfl) rfl F3 rfl (.slice (some ⟨g2, 0, none⟩) 16 16) (y_sliceSum _ rfl (F3.get (t := 1) rfl)) fun a5 F5 => ?_
  clear F3
  refine wl_call (wanted_none rfl) rfl F5 rfl rfl (enters_of Try.func90 (by kernel_rfl) rfl) #[.slice (some ⟨g2, 0, none⟩) 16 16] (args1 (F5.get (t := 6) rfl)) (call_ex (kR w3 _ (M3.blk (k := 0) rfl))) ?_
  rintro _ w6 a6 ⟨rfl, b6⟩ F6
  have M6 := M3.step b6
  refine wl_run (w' := w6) (wanted_none rfl) rfl F6 rfl (.tuple #[numV (readN (sumY y)), .bool true]) (run_mv _ (.inl rfl) (F6.get (t := 7) rfl)) fun a7 F7 => ?_
  clear F6
  refine wl_run (w' := w6) (wanted_none rfl) rfl F7 rfl (numV (readN (sumY y))) (y_ext _ _ rfl (F7.get (t := 5) rfl) rfl) fun a8 F8 => ?_
  clear F7
  refine wl_run (w' := w6) (wanted_none rfl) rfl F8 rfl (.bool true) (y_ext _ _ rfl (F8.get (t := 5) rfl) rfl) fun a9 F9 => ?_
  clear F8
  refine wl_alloc (wanted_none rfl) rfl F9 rfl M6 2 (t := 26) (c := numA 0) (y_new_num rfl) ?_
  intro g10 a10 w10 F10 M10
  clear F9 M6
  refine wl_st (wanted_none rfl) rfl F10 M10 (k := 2) rfl _ _ _ rfl (F10.get (t := 3) rfl) (F10.get (t := 8) rfl) (numA (readN (sumY y))) (numA (readN (sumY y))) rfl (Nat.le_of_ble_eq_true rfl) (numA_cells _) (y_put0 rfl) size26 ?_
  intro w11 M11
  clear M10
  refine wl_run (w' := w11) (wanted_none rfl) rfl F10 rfl (.bool true) (run_mv _ (.inr rfl) (F10.get (t := 9) rfl)) fun a12 F12 => ?_
  clear F10
  refine hK4 _ _ ?_
  refine wp_seq_k fun K13 hK13 => ?_
  refine wp_region_lit ?_
  refine wl_run (w' := w11) (wanted_none rfl) rfl F12 rfl (numV (readN (sumY y))) (y_ldN _ _ rfl (F12.get (t := 3) rfl) (M11.blk (k := 2) rfl) (numA (readN (sumY y))) (y_all rfl) Try.underlying26 rfl size26) fun a14 F14 => ?_
  clear F12
  refine wl_st (wanted_none rfl) rfl F14 M11 (k := 1) rfl _ _ _ rfl (F14.get (t := 2) rfl) (F14.get (t := 10) rfl) (numA (readN (sumY y))) (numA (readN (sumY y))) rfl (Nat.le_of_ble_eq_true rfl) (numA_cells _) (y_put0 rfl) size26 ?_
  intro w15 M15
  clear M11
  refine hK13 _ _ ?_
  refine wp_ret ?_
  try simp only [Exit.then, Exit.inBlock, Exit.jump]
  exact bodyPost_ret (results_cell_row rfl _ _ _ _ _ (0, 0) _ (F14.get (t := 2) rfl) (M15.blk (k := 1) rfl) Try.underlying26 rfl size26) F14.defers ⟨rfl, M15.below⟩
end Go.Proofs.Ytgccbfkofkohpaa
namespace Go.Proofs.Ytgccbfkofkohpaa
set_option linter.unusedVariables false
set_option maxRecDepth 20000
set_option linter.unusedSimpArgs false
open Go.ChangeShapes Go.WideShapes Go.ChangeAt Go.RowKit
/-- A text's exponent, by Q. -/
def expN (Q : Nat) (l : List UInt8) : Nat := readN (sumY (outF (macW [] [[101, 120, 112, 111, 110, 101, 110, 116], l]))) % (Q - 1) + 1
set_option maxRecDepth 100000 in
set_option maxHeartbeats 4000000 in
theorem gexp_any (k : Int) (P Q g : Nat) (h2 : 2 < Q) (hQ : Q < 4294967296 ^ 8) (l : List UInt8) (v : Value) (w : World) (hB : IsB w l v) :
    Calls Try.prog 30 #[.agg (groupA k P Q g), v] w fun e w' => e = .returned (numV (expN Q l)) ∧ Below w.heap.size w w' := by
  obtain ⟨N, hN⟩ : ∃ N, readN (sumY (outF (macW [] [[101, 120, 112, 111, 110, 101, 110, 116], l]))) = N := ⟨_, rfl⟩
  have hNl : N < 4294967296 ^ 8 := by
    rw [← hN]
    exact readN_lt_num (by rw [sumY_len]; decide)
  obtain ⟨S, hS⟩ : ∃ S, macW [] [[101, 120, 112, 111, 110, 101, 110, 116], l] = S := ⟨_, rfl⟩
  have kO := fun w => from_any 1 (by decide) (by decide) w
  have kS := fun w => sub_any Q 1 hQ (by decide) w
  rw [show subN Q 1 = Q - 1 by unfold subN; rw [if_pos (by omega)]] at kS
  obtain ⟨u, hu⟩ : ∃ u, lentI Q 1 = u := ⟨_, rfl⟩
  rw [hu] at kS
  have kN := fun w => gnumber_any (outF S) (outF_bd S) w
  rw [hS] at hN
  rw [hN] at kN
  have kR := fun w => rest_pos N 0 (Q - 1) hNl (by decide) (Nat.lt_of_le_of_lt (Nat.sub_le _ _) hQ) (by omega) w
  rw [Nat.zero_mul, Nat.add_zero] at kR
  obtain ⟨r, hr⟩ : ∃ r, N % (Q - 1) = r := ⟨_, rfl⟩
  have hrl : r < 4294967296 ^ 8 := by rw [← hr]; exact Nat.lt_of_le_of_lt (Nat.mod_le _ _) hNl
  rw [hr] at kR
  have kA := fun w => add_any r 1 hrl (by decide) w
  obtain ⟨cc, hcc⟩ : ∃ c, carryI r 1 = c := ⟨_, rfl⟩
  rw [hcc] at kA
  have kM := fun (w : World) (u : Value) (h : IsP w [[101, 120, 112, 111, 110, 101, 110, 116], l] u) => of_b h
  rw [hS] at kM
  rw [show expN Q l = r + 1 by unfold expN; rw [hS, hN, hr]]
  clear hS hN hr
  refine calls_fx (args := [.agg (groupA k P Q g), v]) 39 Try.func30 rfl rfl rfl ?_
  intro fa F
  have M := Mx.start w
  replace M := M.argB 0 hB (fun g e => by cases e)
  refine wp_seq_k fun K1 hK1 => ?_
  refine wp_region_lit ?_
  refine wl_alloc (wanted_none rfl) rfl F rfl M 1 (t := 28) (c := groupA k P Q g) (by unfold execOp; simp only [(F.get (t := 0) rfl)]; kernel_rfl) ?_
  intro g2 a2 w2 F2 M2
  clear F M
  refine wl_alloc (wanted_none rfl) rfl F2 rfl M2 2 (t := 26) (c := numA 0) (y_new_num rfl) ?_
  intro g3 a3 w3 F3 M3
  clear F2 M2
  refine hK1 _ _ ?_
  refine wp_seq_k fun K4 hK4 => ?_
  refine wp_region_lit ?_
  refine wl_call (wanted_none rfl) rfl F3 rfl rfl (enters_of Try.func47 (by kernel_rfl) rfl) #[.int .i64 1] (args1 rfl) (call_ex (kO w3)) ?_
  rintro _ w5 a5 ⟨rfl, b5⟩ F5
  have M5 := M3.step b5
  refine wl_alloc (wanted_none rfl) rfl F5 rfl M5 3 (t := 26) (c := numA 0) (y_new_num rfl) ?_
  intro g6 a6 w6 F6 M6
  clear F5 M5
  refine wl_st (wanted_none rfl) rfl F6 M6 (k := 3) rfl _ _ _ rfl (F6.get (t := 5) rfl) (F6.get (t := 12) rfl) (numA 1) (numA 1) rfl (Nat.le_of_ble_eq_true rfl) (numA_cells _) (y_put0 rfl) size26 ?_
  intro w7 M7
  clear M6
  refine hK4 _ _ ?_
  refine wp_seq_k fun K8 hK8 => ?_
  refine wp_region_lit ?_
  refine wl_run (w' := w7) (wanted_none rfl) rfl F6 rfl (.pointer (some ⟨g2, 9, none⟩)) (by unfold execOp; simp only [(F6.get (t := 2) rfl)]; kernel_rfl) fun a9 F9 => ?_
  clear F6
  refine wl_run (w' := w7) (wanted_none rfl) rfl F9 rfl (numV Q) (y_ldN _ _ rfl (F9.get (t := 14) rfl) (M7.blk (k := 1) rfl) (numA Q) groupA_q Try.underlying26 rfl size26) fun a10 F10 => ?_
  clear F9
  refine wl_run (w' := w7) (wanted_none rfl) rfl F10 rfl (numV 1) (y_ldN _ _ rfl (F10.get (t := 5) rfl) (M7.blk (k := 3) rfl) (numA 1) (y_all rfl) Try.underlying26 rfl size26) fun a11 F11 => ?_
  clear F10
  refine wl_call (wanted_none rfl) rfl F11 rfl rfl (enters_of Try.func56 (by kernel_rfl) rfl) #[numV Q, numV 1] (args2 (F11.get (t := 15) rfl) (F11.get (t := 16) rfl)) (call_ex (kS w7)) ?_
  rintro _ w12 a12 ⟨rfl, b12⟩ F12
  have M12 := M7.step b12
  refine wl_run (w' := w12) (wanted_none rfl) rfl F12 rfl (.tuple #[numV (Q - 1), .int .u32 u]) (run_mv _ (.inl rfl) (F12.get (t := 17) rfl)) fun a13 F13 => ?_
  clear F12
  refine wl_run (w' := w12) (wanted_none rfl) rfl F13 rfl (numV (Q - 1)) (y_ext _ _ rfl (F13.get (t := 13) rfl) rfl) fun a14 F14 => ?_
  clear F13
  refine wl_run (w' := w12) (wanted_none rfl) rfl F14 rfl (.int .u32 u) (y_ext _ _ rfl (F14.get (t := 13) rfl) rfl) fun a15 F15 => ?_
  clear F14
  refine wl_alloc (wanted_none rfl) rfl F15 rfl M12 4 (t := 26) (c := numA 0) (y_new_num rfl) ?_
  intro g16 a16 w16 F16 M16
  clear F15 M12
  refine wl_st (wanted_none rfl) rfl F16 M16 (k := 4) rfl _ _ _ rfl (F16.get (t := 6) rfl) (F16.get (t := 18) rfl) (numA (Q - 1)) (numA (Q - 1)) rfl (Nat.le_of_ble_eq_true rfl) (numA_cells _) (y_put0 rfl) size26 ?_
  intro w17 M17
  clear M16
  refine wl_run (w' := w17) (wanted_none rfl) rfl F16 rfl (.int .u32 u) (run_mv _ (.inr rfl) (F16.get (t := 19) rfl)) fun a18 F18 => ?_
  clear F16
  refine hK8 _ _ ?_
  refine wp_seq_k fun K19 hK19 => ?_
  refine region_fxL F18 [StK.lit w17.heap.size [101, 120, 112, 111, 110, 101, 110, 116], StK.lit w17.heap.size [101, 120, 112, 111, 110, 101, 110, 116], StK.eq (v), StK.parts [[101, 120, 112, 111, 110, 101, 110, 116], l], StK.eq (.agg (arr16 (outF S))), StK.eq (numV N), StK.eq (numV 0), StK.eq (numV (Q - 1)), StK.eq (.tuple #[numV r, .bool true]), StK.eq (.tuple #[numV r, .bool true]), StK.eq (numV r), StK.eq (.bool true), StK.new w17.heap.size (numA 0) 26 (by decide)] 13 11 20 1 9 #[numV r, .bool true] (.bool true) rfl (by kernel_rfl) rfl (by kernel_rfl) (fun _ _ h => h) rfl (fun _ _ => Iff.rfl) rfl ⟨?_, ?_, ?_, ?_, ?_, ?_, ?_, ?_, ?_, ?_, ?_, ?_, ?_, trivial⟩ ?_
  · intro ua uw hb hd
    exact hop_lit (wanted_none rfl) hb.size [101, 120, 112, 111, 110, 101, 110, 116] (by decide) (by decide) _ rfl (by simp only [List.map_toArray, List.map_cons, List.map_nil]; kernel_rfl)
  · intro ua uw hb hd
    have l21 : LitB w17.heap.size uw [101, 120, 112, 111, 110, 101, 110, 116] (ua.eval (.tmp 21)) := hd 21 (by decide)
    have e21 := l21.isB
    exact hop_convK (wanted_none rfl) _ rfl l21
  · intro ua uw hb hd
    have e1 : ua.eval (.tmp 1) = v := (show ua.eval (.tmp 1) = _ from hd 1 (by decide)).trans (F18.get (t := 1) rfl)
    exact hop_runK (F := (StK.eq (v)).F) (wanted_none rfl) (v) (run_mv _ (.inl rfl) e1) rfl
  · intro ua uw hb hd
    have l22 : LitB w17.heap.size uw [101, 120, 112, 111, 110, 101, 110, 116] (ua.eval (.tmp 22)) := hd 22 (by decide)
    have e22 := l22.isB
    have e23 : ua.eval (.tmp 23) = v := hd 23 (by decide)
    exact hop_parts2 (wanted_none rfl) hb.size (.tmp 22) (.tmp 23) rfl e22 (by rw [e23]; exact ((M17.step hb).isb (k := 0) rfl))
  · intro ua uw hb hd
    have e24 : IsP uw [[101, 120, 112, 111, 110, 101, 110, 116], l] (ua.eval (.tmp 24)) := hd 24 (by decide)
    exact hop_callK (F := (StK.eq (.agg (arr16 (outF S)))).F) (wanted_none rfl) hb.size rfl #[(ua.eval (.tmp 24))] (args1 rfl) (enters_of Try.func58 (by kernel_rfl) rfl) (call_eqS (kM _ _ e24))
  · intro ua uw hb hd
    have e25 : ua.eval (.tmp 25) = .agg (arr16 (outF S)) := hd 25 (by decide)
    exact hop_callK (F := (StK.eq (numV N)).F) (wanted_none rfl) hb.size rfl #[.agg (arr16 (outF S))] (args1 e25) (enters_of Try.func57 (by kernel_rfl) rfl) (call_eqS (kN uw))
  · intro ua uw hb hd
    exact hop_runK (F := (StK.eq (numV 0)).F) (wanted_none rfl) (numV 0) (y_zbuild rfl) rfl
  · intro ua uw hb hd
    have e6 : ua.eval (.tmp 6) = .pointer (some ⟨g16, 0, none⟩) := (show ua.eval (.tmp 6) = _ from hd 6 (by decide)).trans (F18.get (t := 6) rfl)
    exact hop_runK (F := (StK.eq (numV (Q - 1))).F) (wanted_none rfl) (numV (Q - 1)) (y_ldN _ _ rfl e6 ((M17.step hb).blk (k := 4) rfl) (numA (Q - 1)) (y_all rfl) Try.underlying26 rfl size26) rfl
  · intro ua uw hb hd
    have e26 : ua.eval (.tmp 26) = numV N := hd 26 (by decide)
    have e27 : ua.eval (.tmp 27) = numV 0 := hd 27 (by decide)
    have e28 : ua.eval (.tmp 28) = numV (Q - 1) := hd 28 (by decide)
    exact hop_callK (F := (StK.eq (.tuple #[numV r, .bool true])).F) (wanted_none rfl) hb.size rfl #[numV N, numV 0, numV (Q - 1)] (args3 e26 e27 e28) (enters_of Try.func54 (by kernel_rfl) rfl) (call_eqS (kR uw))
  · intro ua uw hb hd
    have e29 : ua.eval (.tmp 29) = .tuple #[numV r, .bool true] := hd 29 (by decide)
    exact hop_runK (F := (StK.eq (.tuple #[numV r, .bool true])).F) (wanted_none rfl) (.tuple #[numV r, .bool true]) (run_mv _ (.inl rfl) e29) rfl
  · intro ua uw hb hd
    have e20 : ua.eval (.tmp 20) = .tuple #[numV r, .bool true] := hd 20 (by decide)
    exact hop_runK (F := (StK.eq (numV r)).F) (wanted_none rfl) (numV r) (y_ext _ _ rfl e20 rfl) rfl
  · intro ua uw hb hd
    have e20 : ua.eval (.tmp 20) = .tuple #[numV r, .bool true] := hd 20 (by decide)
    exact hop_runK (F := (StK.eq (.bool true)).F) (wanted_none rfl) (.bool true) (y_ext _ _ rfl e20 rfl) rfl
  · intro ua uw hb hd
    exact hop_new (wanted_none rfl) hb.size hb.size (by decide) (y_new_num rfl)
  intro p20 a20 w20 b20 G20 y20
  obtain ⟨-, -, -, -, -, -, -, -, -, -, q10, q11, q12, -⟩ := y20
  obtain ⟨gn12x19, r12, hg12, hc12⟩ := q12 (by decide)
  replace r12 : p20 12 = .pointer (some ⟨gn12x19, 0, none⟩) := r12
  have r10 : p20 10 = numV r := q10 (by decide)
  have r11 : p20 11 = .bool true := q11 (by decide)
  simp only [List.take_succ_cons, List.take_zero, layV, Nat.zero_add, Nat.reduceAdd, r10, r11, r12] at G20
  have M20 := M17.newb b20.below 5 hg12 hc12
  clear hg12 hc12 r12
  clear F18 M17 r10 q10 r11 q11
  simp only [List.drop_succ_cons, List.drop_zero]
  refine st_ex M20 (k := 5) rfl _ _ _ rfl (G20.get (t := 8) rfl) (G20.get (t := 30) rfl) (numA r) (numA r) rfl (Nat.le_of_ble_eq_true rfl) (numA_cells _) (y_put0 rfl) size26 ?_
  intro w21 M21
  clear M20
  refine wl_run (w' := w21) (wanted_none rfl) rfl G20 rfl (.bool true) (run_mv _ (.inr rfl) (G20.get (t := 31) rfl)) fun a22 F22 => ?_
  clear G20
  refine hK19 _ _ ?_
  refine wp_seq_k fun K23 hK23 => ?_
  refine wp_region_lit ?_
  refine wl_run (w' := w21) (wanted_none rfl) rfl F22 rfl (numV r) (y_ldN _ _ rfl (F22.get (t := 8) rfl) (M21.blk (k := 5) rfl) (numA r) (y_all rfl) Try.underlying26 rfl size26) fun a24 F24 => ?_
  clear F22
  refine wl_run (w' := w21) (wanted_none rfl) rfl F24 rfl (numV 1) (y_ldN _ _ rfl (F24.get (t := 5) rfl) (M21.blk (k := 3) rfl) (numA 1) (y_all rfl) Try.underlying26 rfl size26) fun a25 F25 => ?_
  clear F24
  refine wl_call (wanted_none rfl) rfl F25 rfl rfl (enters_of Try.func59 (by kernel_rfl) rfl) #[numV r, numV 1] (args2 (F25.get (t := 33) rfl) (F25.get (t := 34) rfl)) (call_ex (kA w21)) ?_
  rintro _ w26 a26 ⟨rfl, b26⟩ F26
  have M26 := M21.step b26
  refine wl_run (w' := w26) (wanted_none rfl) rfl F26 rfl (.tuple #[numV (r + 1), .int .u32 cc]) (run_mv _ (.inl rfl) (F26.get (t := 35) rfl)) fun a27 F27 => ?_
  clear F26
  refine wl_run (w' := w26) (wanted_none rfl) rfl F27 rfl (numV (r + 1)) (y_ext _ _ rfl (F27.get (t := 32) rfl) rfl) fun a28 F28 => ?_
  clear F27
  refine wl_run (w' := w26) (wanted_none rfl) rfl F28 rfl (.int .u32 cc) (y_ext _ _ rfl (F28.get (t := 32) rfl) rfl) fun a29 F29 => ?_
  clear F28
  refine wl_alloc (wanted_none rfl) rfl F29 rfl M26 6 (t := 26) (c := numA 0) (y_new_num rfl) ?_
  intro g30 a30 w30 F30 M30
  clear F29 M26
  refine wl_st (wanted_none rfl) rfl F30 M30 (k := 6) rfl _ _ _ rfl (F30.get (t := 10) rfl) (F30.get (t := 36) rfl) (numA (r + 1)) (numA (r + 1)) rfl (Nat.le_of_ble_eq_true rfl) (numA_cells _) (y_put0 rfl) size26 ?_
  intro w31 M31
  clear M30
  refine wl_run (w' := w31) (wanted_none rfl) rfl F30 rfl (.int .u32 cc) (run_mv _ (.inr rfl) (F30.get (t := 37) rfl)) fun a32 F32 => ?_
  clear F30
  refine hK23 _ _ ?_
  refine wp_seq_k fun K33 hK33 => ?_
  refine wp_region_lit ?_
  refine wl_run (w' := w31) (wanted_none rfl) rfl F32 rfl (numV (r + 1)) (y_ldN _ _ rfl (F32.get (t := 10) rfl) (M31.blk (k := 6) rfl) (numA (r + 1)) (y_all rfl) Try.underlying26 rfl size26) fun a34 F34 => ?_
  clear F32
  refine wl_st (wanted_none rfl) rfl F34 M31 (k := 2) rfl _ _ _ rfl (F34.get (t := 4) rfl) (F34.get (t := 38) rfl) (numA (r + 1)) (numA (r + 1)) rfl (Nat.le_of_ble_eq_true rfl) (numA_cells _) (y_put0 rfl) size26 ?_
  intro w35 M35
  clear M31
  refine hK33 _ _ ?_
  refine wp_ret ?_
  try simp only [Exit.then, Exit.inBlock, Exit.jump]
  exact bodyPost_ret (results_cell_row rfl _ _ _ _ _ (0, 0) _ (F34.get (t := 4) rfl) (M35.blk (k := 2) rfl) Try.underlying26 rfl size26) F34.defers ⟨rfl, M35.below⟩
end Go.Proofs.Ytgccbfkofkohpaa
namespace Go.Proofs.Ytgccbfkofkohpaa
set_option linter.unusedVariables false
set_option maxRecDepth 20000
set_option linter.unusedSimpArgs false
open Go.ChangeShapes Go.WideShapes Go.ChangeAt Go.RowKit
/-- The i-th number of a text, squared by P. -/
def intoT (P : Nat) (l : List UInt8) (i : Nat) : Nat := readN (sumY (outF (macW [] [[105, 110, 116, 111], eightL i, l]))) * readN (sumY (outF (macW [] [[105, 110, 116, 111], eightL i, l]))) % P
theorem eight_b (n : Nat) (hn : (n : Int) < 9223372036854775808) (w : World) :
    Calls Try.prog 61 #[.int .i64 (n : Int)] w fun e w' => ∃ u, e = .returned u ∧ Below w.heap.size w w' ∧ (StK.bytes (eightL n)).F w' u :=
  (eight_rd n hn w).mono fun e w' ⟨h1, h2, h3⟩ => ⟨_, h1, h2, h3.isB' (eightL_len n) (Nat.le_refl _) (by unfold maxLen; decide) (fun h => by cases h)⟩
set_option maxRecDepth 100000 in
set_option maxHeartbeats 4000000 in
theorem into1_any (k : Int) (P Q g : Nat) (ho : P % 2 = 1) (h1 : 1 < P) (hP : P < 4294967296 ^ 8) (i : Nat) (hi : (i : Int) < 9223372036854775808) (l : List UInt8) (v : Value) (tb gb : Nat) (w : World) (htb : w.heap[tb]? = some (.cells #[v] 43 (0, 0))) (hgb : w.heap[gb]? = some (.cells (groupA k P Q g) 28 (0, 0))) (hB : IsB w l v) :
    Calls Try.prog 60 #[.int .i64 (i : Int), .pointer (some ⟨tb, 0, none⟩), .pointer (some ⟨gb, 0, none⟩)] w fun e w' => e = .returned (numV (intoT P l i)) ∧ Below w.heap.size w w' := by
  obtain ⟨S, hS⟩ : ∃ S, macW [] [[105, 110, 116, 111], eightL i, l] = S := ⟨_, rfl⟩
  obtain ⟨N, hN⟩ : ∃ N, readN (sumY (outF S)) = N := ⟨_, rfl⟩
  have hNl : N < 4294967296 ^ 8 := by
    rw [← hN]
    exact readN_lt_num (by rw [sumY_len]; decide)
  have kN := fun w => gnumber_any (outF S) (outF_bd S) w
  rw [hN] at kN
  have kM := fun (w : World) (u : Value) (h : IsP w [[105, 110, 116, 111], eightL i, l] u) => of_b h
  rw [hS] at kM
  have kT := fun w => gtimes_any k P Q g ho h1 hP N N hNl hNl w
  rw [show intoT P l i = N * N % P by unfold intoT; rw [hS, hN]]
  obtain ⟨T, hT⟩ : ∃ T, N * N % P = T := ⟨_, rfl⟩
  rw [hT] at kT ⊢
  clear hS hN hT
  refine calls_fx (args := [.int .i64 (i : Int), .pointer (some ⟨tb, 0, none⟩), .pointer (some ⟨gb, 0, none⟩)]) 18 Try.func60 rfl rfl rfl ?_
  intro fa F
  have M := Mx.start w
  replace M := M.argO 0 htb (fun b e => by cases e)
  replace M := M.argO 1 hgb (fun b e => by cases e)
  replace M := M.argB 2 hB (fun g e => by cases e)
  refine wp_seq_k fun K1 hK1 => ?_
  refine wp_region_lit ?_
  refine wl_alloc (wanted_none rfl) rfl F rfl M 3 (t := 26) (c := numA 0) (y_new_num rfl) ?_
  intro g2 a2 w2 F2 M2
  clear F M
  refine hK1 _ _ ?_
  refine wp_seq_k fun K3 hK3 => ?_
  refine region_fx F2 [StK.lit w2.heap.size [105, 110, 116, 111], StK.lit w2.heap.size [105, 110, 116, 111], StK.eq (.int .i64 (i : Int)), StK.bytes (eightL i), StK.eq (v), StK.parts [[105, 110, 116, 111], (eightL i), l], StK.eq (.agg (arr16 (outF S))), StK.eq (numV N), StK.new w2.heap.size (numA 0) 26 (by decide)] 9 rfl (by kernel_rfl) ⟨?_, ?_, ?_, ?_, ?_, ?_, ?_, ?_, ?_, trivial⟩ ?_
  · intro ua uw hb hd
    exact hop_lit (wanted_none rfl) hb.size [105, 110, 116, 111] (by decide) (by decide) _ rfl (by simp only [List.map_toArray, List.map_cons, List.map_nil]; kernel_rfl)
  · intro ua uw hb hd
    have l6 : LitB w2.heap.size uw [105, 110, 116, 111] (ua.eval (.tmp 6)) := hd 6 (by decide)
    have e6 := l6.isB
    exact hop_convK (wanted_none rfl) _ rfl l6
  · intro ua uw hb hd
    have e0 : ua.eval (.tmp 0) = .int .i64 (i : Int) := (show ua.eval (.tmp 0) = _ from hd 0 (by decide)).trans (F2.get (t := 0) rfl)
    exact hop_runK (F := (StK.eq (.int .i64 (i : Int))).F) (wanted_none rfl) (.int .i64 (i : Int)) (run_mv _ (.inl rfl) e0) rfl
  · intro ua uw hb hd
    have e8 : ua.eval (.tmp 8) = .int .i64 (i : Int) := hd 8 (by decide)
    exact hop_callK (F := (StK.bytes (eightL i)).F) (wanted_none rfl) hb.size rfl #[.int .i64 (i : Int)] (args1 e8) (enters_of Try.func61 (by kernel_rfl) rfl) (eight_b i hi uw)
  · intro ua uw hb hd
    have e1 : ua.eval (.tmp 1) = .pointer (some ⟨tb, 0, none⟩) := (show ua.eval (.tmp 1) = _ from hd 1 (by decide)).trans (F2.get (t := 1) rfl)
    exact hop_runK (F := (StK.eq (v)).F) (wanted_none rfl) (v) (y_ld1 _ _ rfl e1 ((M2.step hb).roB (k := 0) rfl) rfl Try.underlying43 rfl) rfl
  · intro ua uw hb hd
    have l7 : LitB w2.heap.size uw [105, 110, 116, 111] (ua.eval (.tmp 7)) := hd 7 (by decide)
    have e7 := l7.isB
    have e9 : IsB uw (eightL i) (ua.eval (.tmp 9)) := hd 9 (by decide)
    have e10 : ua.eval (.tmp 10) = v := hd 10 (by decide)
    exact hop_parts3 (wanted_none rfl) hb.size (.tmp 7) (.tmp 9) (.tmp 10) rfl e7 e9 (by rw [e10]; exact ((M2.step hb).isb (k := 2) rfl))
  · intro ua uw hb hd
    have e11 : IsP uw [[105, 110, 116, 111], (eightL i), l] (ua.eval (.tmp 11)) := hd 11 (by decide)
    exact hop_callK (F := (StK.eq (.agg (arr16 (outF S)))).F) (wanted_none rfl) hb.size rfl #[(ua.eval (.tmp 11))] (args1 rfl) (enters_of Try.func58 (by kernel_rfl) rfl) (call_eqS (kM _ _ e11))
  · intro ua uw hb hd
    have e12 : ua.eval (.tmp 12) = .agg (arr16 (outF S)) := hd 12 (by decide)
    exact hop_callK (F := (StK.eq (numV N)).F) (wanted_none rfl) hb.size rfl #[.agg (arr16 (outF S))] (args1 e12) (enters_of Try.func57 (by kernel_rfl) rfl) (call_eqS (kN uw))
  · intro ua uw hb hd
    exact hop_new (wanted_none rfl) hb.size hb.size (by decide) (y_new_num rfl)
  intro p4 a4 w4 b4 G4 y4
  obtain ⟨-, -, -, -, -, -, -, q7, q8, -⟩ := y4
  obtain ⟨gn8x3, r8, hg8, hc8⟩ := q8 (by decide)
  replace r8 : p4 8 = .pointer (some ⟨gn8x3, 0, none⟩) := r8
  have r7 : p4 7 = numV N := q7 (by decide)
  simp only [List.take_succ_cons, List.take_zero, layV, Nat.zero_add, Nat.reduceAdd, r7, r8] at G4
  have M4 := M2.newb b4.below 4 hg8 hc8
  clear hg8 hc8 r8
  clear F2 M2 r7 q7
  simp only [List.drop_succ_cons, List.drop_zero]
  refine wl_st (wanted_none rfl) rfl G4 M4 (k := 4) rfl _ _ _ rfl (G4.get (t := 5) rfl) (G4.get (t := 13) rfl) (numA N) (numA N) rfl (Nat.le_of_ble_eq_true rfl) (numA_cells _) (y_put0 rfl) size26 ?_
  intro w5 M5
  clear M4
  refine hK3 _ _ ?_
  refine wp_seq_k fun K6 hK6 => ?_
  refine wp_region_lit ?_
  refine wl_run (w' := w5) (wanted_none rfl) rfl G4 rfl (.agg (groupA k P Q g)) (y_ldN _ _ rfl (G4.get (t := 2) rfl) (M5.roB (k := 1) rfl) (groupA k P Q g) (y_all rfl) Try.underlying28 rfl (by kernel_rfl)) fun a7 F7 => ?_
  clear G4
  refine wl_run (w' := w5) (wanted_none rfl) rfl F7 rfl (numV N) (y_ldN _ _ rfl (F7.get (t := 5) rfl) (M5.blk (k := 4) rfl) (numA N) (y_all rfl) Try.underlying26 rfl size26) fun a8 F8 => ?_
  clear F7
  refine wl_run (w' := w5) (wanted_none rfl) rfl F8 rfl (numV N) (y_ldN _ _ rfl (F8.get (t := 5) rfl) (M5.blk (k := 4) rfl) (numA N) (y_all rfl) Try.underlying26 rfl size26) fun a9 F9 => ?_
  clear F8
  refine wl_call (wanted_none rfl) rfl F9 rfl rfl (enters_of Try.func25 (by kernel_rfl) rfl) #[.agg (groupA k P Q g), numV N, numV N] (args3 (F9.get (t := 14) rfl) (F9.get (t := 15) rfl) (F9.get (t := 16) rfl)) (call_ex (kT w5)) ?_
  rintro _ w10 a10 ⟨rfl, b10⟩ F10
  have M10 := M5.step b10
  refine wl_st (wanted_none rfl) rfl F10 M10 (k := 3) rfl _ _ _ rfl (F10.get (t := 4) rfl) (F10.get (t := 17) rfl) (numA T) (numA T) rfl (Nat.le_of_ble_eq_true rfl) (numA_cells _) (y_put0 rfl) size26 ?_
  intro w11 M11
  clear M10
  refine hK6 _ _ ?_
  refine wp_ret ?_
  try simp only [Exit.then, Exit.inBlock, Exit.jump]
  exact bodyPost_ret (results_cell_row rfl _ _ _ _ _ (0, 0) _ (F10.get (t := 4) rfl) (M11.blk (k := 3) rfl) Try.underlying26 rfl size26) F10.defers ⟨rfl, M11.below⟩
set_option maxRecDepth 100000 in
set_option maxHeartbeats 4000000 in
theorem into2_any (n : Nat) (hn : n < 4294967296 ^ 8) (w : World) :
    Calls Try.prog 62 #[numV n] w fun e w' => e = .returned (.bool (decide (1 < n))) ∧ Below w.heap.size w w' := by
  obtain ⟨d, hd⟩ : ∃ d, cmpI n 1 = d := ⟨_, rfl⟩
  have kO := fun w => from_any 1 (by decide) (by decide) w
  have kC := fun w => cmp_any n 1 hn (by decide) w
  rw [hd] at kC
  have hb : decide (1 < n) = decide (0 < d) := by
    rw [← hd]; unfold cmpI
    by_cases h : 1 < n
    · rw [if_neg (by omega), if_pos h, decide_eq_true h]; rfl
    · rw [if_neg h, decide_eq_false h]; split <;> rfl
  rw [hb]
  clear hd hb
  refine calls_fx (args := [numV n]) 7 Try.func62 rfl rfl rfl ?_
  intro fa F
  have M := Mx.start w
  by_cases h0 : 0 < d
  · refine wp_seq_k fun K1 hK1 => ?_
    refine wp_region_lit ?_
    refine wl_alloc (wanted_none rfl) rfl F rfl M 0 (t := 26) (c := numA n) (by unfold execOp; simp only [(F.get (t := 0) rfl)]; kernel_rfl) ?_
    intro g2 a2 w2 F2 M2
    clear F M
    refine wl_run (w' := w2) (wanted_none rfl) rfl F2 rfl (.bool false) (run_mv _ (.inr rfl) rfl) fun a3 F3 => ?_
    clear F2
    refine hK1 _ _ ?_
    refine wp_seq_k fun K4 hK4 => ?_
    refine region_fx F3 [StK.eq (numV n), StK.eq (numV 1), StK.eq (.int .i64 d), StK.eq (.bool true), StK.eq (.bool true)] 5 rfl (by kernel_rfl) ⟨?_, ?_, ?_, ?_, ?_, trivial⟩ ?_
    · intro ua uw hb hd
      have e1 : ua.eval (.tmp 1) = .pointer (some ⟨g2, 0, none⟩) := (show ua.eval (.tmp 1) = _ from hd 1 (by decide)).trans (F3.get (t := 1) rfl)
      exact hop_runK (F := (StK.eq (numV n)).F) (wanted_none rfl) (numV n) (y_ldN _ _ rfl e1 ((M2.step hb).blk (k := 0) rfl) (numA n) (y_all rfl) Try.underlying26 rfl size26) rfl
    · intro ua uw hb hd
      exact hop_callK (F := (StK.eq (numV 1)).F) (wanted_none rfl) hb.size rfl #[.int .i64 1] (args1 rfl) (enters_of Try.func47 (by kernel_rfl) rfl) (call_eqS (kO uw))
    · intro ua uw hb hd
      have e3 : ua.eval (.tmp 3) = numV n := hd 3 (by decide)
      have e4 : ua.eval (.tmp 4) = numV 1 := hd 4 (by decide)
      exact hop_callK (F := (StK.eq (.int .i64 d)).F) (wanted_none rfl) hb.size rfl #[numV n, numV 1] (args2 e3 e4) (enters_of Try.func55 (by kernel_rfl) rfl) (call_eqS (kC uw))
    · intro ua uw hb hd
      have e5 : ua.eval (.tmp 5) = .int .i64 d := hd 5 (by decide)
      exact hop_runK (F := (StK.eq (.bool true)).F) (wanted_none rfl) (.bool true) (y_gtr _ _ _ _ rfl e5 rfl (decide_eq_true h0)) rfl
    · intro ua uw hb hd
      have e6 : ua.eval (.tmp 6) = .bool true := hd 6 (by decide)
      exact hop_runK (F := (StK.eq (.bool true)).F) (wanted_none rfl) (.bool true) (run_mv _ (.inr rfl) e6) rfl
    intro p5 a5 w5 b5 G5 y5
    obtain ⟨-, -, -, -, q4, -⟩ := y5
    have r4 : p5 4 = .bool true := q4 (by decide)
    simp only [List.take_succ_cons, List.take_zero, layV, Nat.zero_add, Nat.reduceAdd, r4] at G5
    have M5 := M2.kc b5
    clear F3 M2 r4 q4
    refine hK4 _ _ ?_
    refine wp_ret ?_
    try simp only [Exit.then, Exit.inBlock, Exit.jump]
    exact bodyPost_ret (res1 rfl (G5.get (t := 2) rfl)) G5.defers ⟨by rw [decide_eq_true h0], M5.below⟩
  · refine wp_seq_k fun K6 hK6 => ?_
    refine wp_region_lit ?_
    refine wl_alloc (wanted_none rfl) rfl F rfl M 0 (t := 26) (c := numA n) (by unfold execOp; simp only [(F.get (t := 0) rfl)]; kernel_rfl) ?_
    intro g7 a7 w7 F7 M7
    clear F M
    refine wl_run (w' := w7) (wanted_none rfl) rfl F7 rfl (.bool false) (run_mv _ (.inr rfl) rfl) fun a8 F8 => ?_
    clear F7
    refine hK6 _ _ ?_
    refine wp_seq_k fun K9 hK9 => ?_
    refine region_fx F8 [StK.eq (numV n), StK.eq (numV 1), StK.eq (.int .i64 d), StK.eq (.bool false), StK.eq (.bool false)] 5 rfl (by kernel_rfl) ⟨?_, ?_, ?_, ?_, ?_, trivial⟩ ?_
    · intro ua uw hb hd
      have e1 : ua.eval (.tmp 1) = .pointer (some ⟨g7, 0, none⟩) := (show ua.eval (.tmp 1) = _ from hd 1 (by decide)).trans (F8.get (t := 1) rfl)
      exact hop_runK (F := (StK.eq (numV n)).F) (wanted_none rfl) (numV n) (y_ldN _ _ rfl e1 ((M7.step hb).blk (k := 0) rfl) (numA n) (y_all rfl) Try.underlying26 rfl size26) rfl
    · intro ua uw hb hd
      exact hop_callK (F := (StK.eq (numV 1)).F) (wanted_none rfl) hb.size rfl #[.int .i64 1] (args1 rfl) (enters_of Try.func47 (by kernel_rfl) rfl) (call_eqS (kO uw))
    · intro ua uw hb hd
      have e3 : ua.eval (.tmp 3) = numV n := hd 3 (by decide)
      have e4 : ua.eval (.tmp 4) = numV 1 := hd 4 (by decide)
      exact hop_callK (F := (StK.eq (.int .i64 d)).F) (wanted_none rfl) hb.size rfl #[numV n, numV 1] (args2 e3 e4) (enters_of Try.func55 (by kernel_rfl) rfl) (call_eqS (kC uw))
    · intro ua uw hb hd
      have e5 : ua.eval (.tmp 5) = .int .i64 d := hd 5 (by decide)
      exact hop_runK (F := (StK.eq (.bool false)).F) (wanted_none rfl) (.bool false) (y_gtr _ _ _ _ rfl e5 rfl (decide_eq_false h0)) rfl
    · intro ua uw hb hd
      have e6 : ua.eval (.tmp 6) = .bool false := hd 6 (by decide)
      exact hop_runK (F := (StK.eq (.bool false)).F) (wanted_none rfl) (.bool false) (run_mv _ (.inr rfl) e6) rfl
    intro p10 a10 w10 b10 G10 y10
    obtain ⟨-, -, -, -, q4, -⟩ := y10
    have r4 : p10 4 = .bool false := q4 (by decide)
    simp only [List.take_succ_cons, List.take_zero, layV, Nat.zero_add, Nat.reduceAdd, r4] at G10
    have M10 := M7.kc b10
    clear F8 M7 r4 q4
    refine hK9 _ _ ?_
    refine wp_ret ?_
    try simp only [Exit.then, Exit.inBlock, Exit.jump]
    exact bodyPost_ret (res1 rfl (G10.get (t := 2) rfl)) G10.defers ⟨by rw [decide_eq_false h0], M10.below⟩
end Go.Proofs.Ytgccbfkofkohpaa
namespace Go.Proofs.Ytgccbfkofkohpaa
set_option linter.unusedVariables false
set_option maxRecDepth 20000
set_option linter.unusedSimpArgs false
open Go.ChangeShapes Go.WideShapes Go.ChangeAt Go.RowKit
/-- The first above 1 of f numbers, from i on; or 0. -/
def huntN (T : Nat → Nat) : Nat → Nat → Nat
  | 0, _ => 0
  | f + 1, i => if 1 < T i then T i else huntN T f (i + 1)
theorem huntN_eq (T : Nat → Nat) (m : Nat) : (∀ i, huntN T 0 i = 0) ∧ ∀ i, i < m → huntN T (m - i) i = if 1 < T i then T i else huntN T (m - (i + 1)) (i + 1) :=
  ⟨fun _ => rfl, fun i hi => by
    rw [show m - i = (m - (i + 1)) + 1 by omega]
    rfl⟩
/-- What Into makes of a text. -/
def intoN (P : Nat) (l : List UInt8) : Nat := huntN (intoT P l) 1000 0
theorem huntN_is (T : Nat → Nat) : ∀ f i, huntN T f i = 0 ∨ ∃ j, huntN T f i = T j ∧ 1 < T j
  | 0, _ => .inl rfl
  | f + 1, i => by
    unfold huntN
    by_cases h : 1 < T i
    · rw [if_pos h]; exact .inr ⟨i, rfl, h⟩
    · rw [if_neg h]; exact huntN_is T f (i + 1)
attribute [irreducible] huntN
set_option maxRecDepth 100000 in
set_option maxHeartbeats 4000000 in
theorem firstN_any (k : Int) (P Q g : Nat) (ho : P % 2 = 1) (h1 : 1 < P) (hP : P < 4294967296 ^ 8) (l : List UInt8) (v : Value) (tb gb : Nat) (w : World) (htb : w.heap[tb]? = some (.cells #[v] 43 (0, 0))) (hgb : w.heap[gb]? = some (.cells (groupA k P Q g) 28 (0, 0))) (hB : IsB w l v) :
    Calls Try.prog 63 #[.agg #[.func (.func 60) #[] #[.pointer (some ⟨tb, 0, none⟩), .pointer (some ⟨gb, 0, none⟩)], .func (.func 62) #[] #[]], .int .i64 1000] w fun e w' => e = .returned (.tuple #[numV (intoN P l), .bool (decide (1 < intoN P l))]) ∧ Below w.heap.size w w' := by
  have hR := huntN_eq (intoT P l) 1000
  obtain ⟨R, hRR⟩ : ∃ R, intoN P l = R := ⟨_, rfl⟩
  have hR0 : huntN (intoT P l) (1000 - 0) 0 = R := hRR
  rw [hRR]
  clear hRR
  refine calls_fx (args := [.agg (#[.func (.func 60) #[] #[.pointer (some ⟨tb, 0, none⟩), .pointer (some ⟨gb, 0, none⟩)], .func (.func 62) #[] #[]]), .int .i64 1000]) 24 Try.func63 rfl rfl rfl ?_
  intro fa F
  have M := Mx.start w
  replace M := M.argO 0 htb (fun b e => by cases e)
  replace M := M.argO 1 hgb (fun b e => by cases e)
  replace M := M.argB 2 hB (fun g e => by cases e)
  refine wp_seq_k fun K1 hK1 => ?_
  refine wp_region_lit ?_
  refine wl_alloc (wanted_none rfl) rfl F rfl M 3 (t := 82) (c := #[.func (.func 60) #[] #[.pointer (some ⟨tb, 0, none⟩), .pointer (some ⟨gb, 0, none⟩)], .func (.func 62) #[] #[]]) (by unfold execOp; simp only [(F.get (t := 0) rfl)]; kernel_rfl) ?_
  intro g2 a2 w2 F2 M2
  clear F M
  refine wl_alloc (wanted_none rfl) rfl F2 rfl M2 4 (t := 26) (c := numA 0) (y_new_num rfl) ?_
  intro g3 a3 w3 F3 M3
  clear F2 M2
  refine wl_run (w' := w3) (wanted_none rfl) rfl F3 rfl (.bool false) (run_mv _ (.inr rfl) rfl) fun a4 F4 => ?_
  clear F3
  refine hK1 _ _ ?_
  refine scope_fx (α := Nat) (n := 24) (G := none) (w0 := w) 0 6 1000 (fun x => (x : Int)) (fun x => [(0, .agg (#[.func (.func 60) #[] #[.pointer (some ⟨tb, 0, none⟩), .pointer (some ⟨gb, 0, none⟩)], .func (.func 62) #[] #[]])), (1, .int .i64 1000), (2, .pointer (some ⟨g2, 0, none⟩)), (4, .pointer (some ⟨g3, 0, none⟩)), (6, .int .i64 (x : Int))]) (fun x => [(0, blkO tb 43 (#[v])), (1, blkO gb 28 (groupA k P Q g)), (2, bytR l v), (3, blkR g2 82 (#[.func (.func 60) #[] #[.pointer (some ⟨tb, 0, none⟩), .pointer (some ⟨gb, 0, none⟩)], .func (.func 62) #[] #[]])), (4, blkR g3 26 (numA 0))]) (fun x => x ≤ 1000 ∧ huntN (intoT P l) (1000 - x) x = R) rfl (fun _ => rfl) ?_ ?_
  · intro KK5 hKK5
    simp only [headWp, findLabel, beq_self_eq_true, if_true]
    refine wp_region_lit ?_
    refine wl_run (w' := w3) (wanted_none rfl) rfl F4 rfl (.int .i64 0) (run_mv _ (.inr rfl) rfl) fun a6 F6 => ?_
    clear F4
    exact hKK5 0 _ _ ⟨by omega, hR0⟩ (F6.sub ⟨rfl, rfl, rfl, rfl, rfl, trivial⟩) (M3.sub ⟨rfl, rfl, rfl, rfl, rfl, trivial⟩)
  · clear F4 M3
    rintro jn a5 w5 K5 I5 F5 M5 hK5
    replace F5 : Fx 24 a5 [(0, .agg (#[.func (.func 60) #[] #[.pointer (some ⟨tb, 0, none⟩), .pointer (some ⟨gb, 0, none⟩)], .func (.func 62) #[] #[]])), (1, .int .i64 1000), (2, .pointer (some ⟨g2, 0, none⟩)), (4, .pointer (some ⟨g3, 0, none⟩)), (6, .int .i64 (jn : Int))] := F5
    replace M5 : Mx _ _ w5 [(0, blkO tb 43 (#[v])), (1, blkO gb 28 (groupA k P Q g)), (2, bytR l v), (3, blkR g2 82 (#[.func (.func 60) #[] #[.pointer (some ⟨tb, 0, none⟩), .pointer (some ⟨gb, 0, none⟩)], .func (.func 62) #[] #[]])), (4, blkR g3 26 (numA 0))] := M5
    replace I5 : jn ≤ 1000 ∧ huntN (intoT P l) (1000 - jn) jn = R := I5
    simp only [restWp, findLabel, beq_self_eq_true, if_true]
    refine (show Code.wp _ _ _ _ _ from ?_)
    by_cases hlt : jn < 1000
    · obtain ⟨T, hT⟩ : ∃ T, intoT P l jn = T := ⟨_, rfl⟩
      have hTl : T < 4294967296 ^ 8 := by rw [← hT]; exact Nat.lt_trans (Nat.mod_lt _ (by omega)) hP
      have k1 := fun (w : World) (a1 : w.heap[tb]? = some (.cells #[v] 43 (0, 0))) (a2 : w.heap[gb]? = some (.cells (groupA k P Q g) 28 (0, 0))) (a3 : IsB w l v) => into1_any k P Q g ho h1 hP jn (by omega) l v tb gb w a1 a2 a3
      rw [hT] at k1
      have k2 := fun w => into2_any T hTl w
      by_cases ht : 1 < T
      · rw [decide_eq_true ht] at k2
        have hres : T = R := by rw [← hT, ← I5.2, hR.2 jn hlt, if_pos (by rw [hT]; exact ht)]
        refine wp_seq_k fun K7 hK7 => ?_
        refine wp_seq_k fun K8 hK8 => ?_
        refine wp_region_lit ?_
        refine wl_run (w' := w5) (wanted_none rfl) rfl F5 rfl (.int .i64 (jn : Int)) (run_mv _ (.inl rfl) (F5.get (t := 6) rfl)) fun a9 F9 => ?_
        clear F5
        refine wl_run (w' := w5) (wanted_none rfl) rfl F9 rfl (.int .i64 1000) (run_mv _ (.inl rfl) (F9.get (t := 1) rfl)) fun a10 F10 => ?_
        clear F9
        refine wl_run (w' := w5) (wanted_none rfl) rfl F10 rfl (.bool false) (y_geq _ _ _ _ rfl (F10.get (t := 9) rfl) (F10.get (t := 10) rfl) (decide_eq_false (show ¬ (1000 : Int) ≤ (jn : Int) by omega))) fun a11 F11 => ?_
        clear F10
        refine hK8 _ _ ?_
        refine wp_cond_false (F11.get (t := 11) rfl) ?_
        refine wp_skip ?_
        refine hK7 _ _ ?_
        refine wp_seq_k fun K12 hK12 => ?_
        refine wp_seq_k fun K13 hK13 => ?_
        refine wp_region_lit ?_
        refine wl_run (w' := w5) (wanted_none rfl) rfl F11 rfl (.pointer (some ⟨g2, 0, none⟩)) (by unfold execOp; simp only [(F11.get (t := 2) rfl)]; kernel_rfl) fun a14 F14 => ?_
        clear F11
        refine wl_run (w' := w5) (wanted_none rfl) rfl F14 rfl (.func (.func 60) #[] #[.pointer (some ⟨tb, 0, none⟩), .pointer (some ⟨gb, 0, none⟩)]) (y_ld1 _ _ rfl (F14.get (t := 13) rfl) (M5.blk (k := 3) rfl) rfl Try.underlying38 rfl) fun a15 F15 => ?_
        clear F14
        refine wl_run (w' := w5) (wanted_none rfl) rfl F15 rfl (.int .i64 (jn : Int)) (run_mv _ (.inl rfl) (F15.get (t := 6) rfl)) fun a16 F16 => ?_
        clear F15
        refine wl_callV (wanted_none rfl) rfl F16 rfl rfl (F16.get (t := 14) rfl) (enters_of Try.func60 (by kernel_rfl) rfl) #[.int .i64 (jn : Int), .pointer (some ⟨tb, 0, none⟩), .pointer (some ⟨gb, 0, none⟩)] (show _ ++ _ = _ from by rw [(args1 (F16.get (t := 15) rfl))]; rfl) (call_ex (k1 w5 (M5.roB (k := 0) rfl) (M5.roB (k := 1) rfl) (M5.isb (k := 2) rfl))) ?_
        rintro _ w17 a17 ⟨rfl, b17⟩ F17
        have M17 := M5.step b17
        refine wl_alloc (wanted_none rfl) rfl F17 rfl M17 5 (t := 26) (c := numA 0) (y_new_num rfl) ?_
        intro g18 a18 w18 F18 M18
        clear F17 M17
        refine wl_st (wanted_none rfl) rfl F18 M18 (k := 5) rfl _ _ _ rfl (F18.get (t := 8) rfl) (F18.get (t := 16) rfl) (numA T) (numA T) rfl (Nat.le_of_ble_eq_true rfl) (numA_cells _) (y_put0 rfl) size26 ?_
        intro w19 M19
        clear M18
        refine hK13 _ _ ?_
        refine wp_seq_k fun K20 hK20 => ?_
        refine wp_region_lit ?_
        refine wl_run (w' := w19) (wanted_none rfl) rfl F18 rfl (.pointer (some ⟨g2, 1, none⟩)) (by unfold execOp; simp only [(F18.get (t := 2) rfl)]; kernel_rfl) fun a21 F21 => ?_
        clear F18
        refine wl_run (w' := w19) (wanted_none rfl) rfl F21 rfl (.func (.func 62) #[] #[]) (y_ld1 _ _ rfl (F21.get (t := 17) rfl) (M19.blk (k := 3) rfl) rfl Try.underlying80 rfl) fun a22 F22 => ?_
        clear F21
        refine wl_run (w' := w19) (wanted_none rfl) rfl F22 rfl (numV T) (y_ldN _ _ rfl (F22.get (t := 8) rfl) (M19.blk (k := 5) rfl) (numA T) (y_all rfl) Try.underlying26 rfl size26) fun a23 F23 => ?_
        clear F22
        refine wl_callV (wanted_none rfl) rfl F23 rfl rfl (F23.get (t := 18) rfl) (enters_of Try.func62 (by kernel_rfl) rfl) #[numV T] (show _ ++ _ = _ from by rw [(args1 (F23.get (t := 19) rfl))]; rfl) (call_ex (k2 w19)) ?_
        rintro _ w24 a24 ⟨rfl, b24⟩ F24
        have M24 := M19.step b24
        refine hK20 _ _ ?_
        refine wp_cond_true (F24.get (t := 20) rfl) ?_
        refine wp_seq_k fun K25 hK25 => ?_
        refine wp_region_lit ?_
        refine wl_run (w' := w24) (wanted_none rfl) rfl F24 rfl (numV T) (y_ldN _ _ rfl (F24.get (t := 8) rfl) (M24.blk (k := 5) rfl) (numA T) (y_all rfl) Try.underlying26 rfl size26) fun a26 F26 => ?_
        clear F24
        refine wl_st (wanted_none rfl) rfl F26 M24 (k := 4) rfl _ _ _ rfl (F26.get (t := 4) rfl) (F26.get (t := 21) rfl) (numA T) (numA T) rfl (Nat.le_of_ble_eq_true rfl) (numA_cells _) (y_put0 rfl) size26 ?_
        intro w27 M27
        clear M24
        refine wl_run (w' := w27) (wanted_none rfl) rfl F26 rfl (.bool true) (run_mv _ (.inr rfl) rfl) fun a28 F28 => ?_
        clear F26
        refine hK25 _ _ ?_
        refine wp_ret ?_
        try simp only [Exit.then, Exit.inBlock, Exit.jump]
        exact bodyPost_ret (resCT rfl (F28.get (t := 4) rfl) (M27.blk (k := 4) rfl) (F28.get (t := 5) rfl) Try.underlying26 rfl size26) F28.defers ⟨by rw [← hres, decide_eq_true ht], M27.below⟩
      · rw [decide_eq_false ht] at k2
        have hnext : huntN (intoT P l) (1000 - (jn + 1)) (jn + 1) = R := by rw [← I5.2, hR.2 jn hlt, if_neg (by rw [hT]; exact ht)]
        refine wp_seq_k fun K29 hK29 => ?_
        refine wp_seq_k fun K30 hK30 => ?_
        refine wp_region_lit ?_
        refine wl_run (w' := w5) (wanted_none rfl) rfl F5 rfl (.int .i64 (jn : Int)) (run_mv _ (.inl rfl) (F5.get (t := 6) rfl)) fun a31 F31 => ?_
        clear F5
        refine wl_run (w' := w5) (wanted_none rfl) rfl F31 rfl (.int .i64 1000) (run_mv _ (.inl rfl) (F31.get (t := 1) rfl)) fun a32 F32 => ?_
        clear F31
        refine wl_run (w' := w5) (wanted_none rfl) rfl F32 rfl (.bool false) (y_geq _ _ _ _ rfl (F32.get (t := 9) rfl) (F32.get (t := 10) rfl) (decide_eq_false (show ¬ (1000 : Int) ≤ (jn : Int) by omega))) fun a33 F33 => ?_
        clear F32
        refine hK30 _ _ ?_
        refine wp_cond_false (F33.get (t := 11) rfl) ?_
        refine wp_skip ?_
        refine hK29 _ _ ?_
        refine wp_seq_k fun K34 hK34 => ?_
        refine wp_seq_k fun K35 hK35 => ?_
        refine wp_region_lit ?_
        refine wl_run (w' := w5) (wanted_none rfl) rfl F33 rfl (.pointer (some ⟨g2, 0, none⟩)) (by unfold execOp; simp only [(F33.get (t := 2) rfl)]; kernel_rfl) fun a36 F36 => ?_
        clear F33
        refine wl_run (w' := w5) (wanted_none rfl) rfl F36 rfl (.func (.func 60) #[] #[.pointer (some ⟨tb, 0, none⟩), .pointer (some ⟨gb, 0, none⟩)]) (y_ld1 _ _ rfl (F36.get (t := 13) rfl) (M5.blk (k := 3) rfl) rfl Try.underlying38 rfl) fun a37 F37 => ?_
        clear F36
        refine wl_run (w' := w5) (wanted_none rfl) rfl F37 rfl (.int .i64 (jn : Int)) (run_mv _ (.inl rfl) (F37.get (t := 6) rfl)) fun a38 F38 => ?_
        clear F37
        refine wl_callV (wanted_none rfl) rfl F38 rfl rfl (F38.get (t := 14) rfl) (enters_of Try.func60 (by kernel_rfl) rfl) #[.int .i64 (jn : Int), .pointer (some ⟨tb, 0, none⟩), .pointer (some ⟨gb, 0, none⟩)] (show _ ++ _ = _ from by rw [(args1 (F38.get (t := 15) rfl))]; rfl) (call_ex (k1 w5 (M5.roB (k := 0) rfl) (M5.roB (k := 1) rfl) (M5.isb (k := 2) rfl))) ?_
        rintro _ w39 a39 ⟨rfl, b39⟩ F39
        have M39 := M5.step b39
        refine wl_alloc (wanted_none rfl) rfl F39 rfl M39 5 (t := 26) (c := numA 0) (y_new_num rfl) ?_
        intro g40 a40 w40 F40 M40
        clear F39 M39
        refine wl_st (wanted_none rfl) rfl F40 M40 (k := 5) rfl _ _ _ rfl (F40.get (t := 8) rfl) (F40.get (t := 16) rfl) (numA T) (numA T) rfl (Nat.le_of_ble_eq_true rfl) (numA_cells _) (y_put0 rfl) size26 ?_
        intro w41 M41
        clear M40
        refine hK35 _ _ ?_
        refine wp_seq_k fun K42 hK42 => ?_
        refine wp_region_lit ?_
        refine wl_run (w' := w41) (wanted_none rfl) rfl F40 rfl (.pointer (some ⟨g2, 1, none⟩)) (by unfold execOp; simp only [(F40.get (t := 2) rfl)]; kernel_rfl) fun a43 F43 => ?_
        clear F40
        refine wl_run (w' := w41) (wanted_none rfl) rfl F43 rfl (.func (.func 62) #[] #[]) (y_ld1 _ _ rfl (F43.get (t := 17) rfl) (M41.blk (k := 3) rfl) rfl Try.underlying80 rfl) fun a44 F44 => ?_
        clear F43
        refine wl_run (w' := w41) (wanted_none rfl) rfl F44 rfl (numV T) (y_ldN _ _ rfl (F44.get (t := 8) rfl) (M41.blk (k := 5) rfl) (numA T) (y_all rfl) Try.underlying26 rfl size26) fun a45 F45 => ?_
        clear F44
        refine wl_callV (wanted_none rfl) rfl F45 rfl rfl (F45.get (t := 18) rfl) (enters_of Try.func62 (by kernel_rfl) rfl) #[numV T] (show _ ++ _ = _ from by rw [(args1 (F45.get (t := 19) rfl))]; rfl) (call_ex (k2 w41)) ?_
        rintro _ w46 a46 ⟨rfl, b46⟩ F46
        have M46 := M41.step b46
        refine hK42 _ _ ?_
        refine wp_cond_false (F46.get (t := 20) rfl) ?_
        refine wp_skip ?_
        refine hK34 _ _ ?_
        refine wp_seq_k fun K47 hK47 => ?_
        refine wp_region_lit ?_
        refine wl_run (w' := w46) (wanted_none rfl) rfl F46 rfl (.int .i64 (jn : Int)) (run_mv _ (.inl rfl) (F46.get (t := 6) rfl)) fun a48 F48 => ?_
        clear F46
        refine wl_run (w' := w46) (wanted_none rfl) rfl F48 rfl (.int .i64 ((jn : Int) + 1)) (y_addI _ _ _ _ rfl (F48.get (t := 22) rfl) rfl rfl (by omega)) fun a49 F49 => ?_
        clear F48
        refine wl_run (w' := w46) (wanted_none rfl) rfl F49 rfl (.int .i64 ((jn : Int) + 1)) (run_mv _ (.inr rfl) (F49.get (t := 23) rfl)) fun a50 F50 => ?_
        clear F49
        refine hK47 _ _ ?_
        refine wp_goto ?_
        refine @id (_ ∧ _) ?_
        exact ⟨rfl, hK5 (jn + 1) _ _ (by omega) ⟨by omega, hnext⟩ (F50.sub ⟨rfl, rfl, rfl, rfl, rfl, trivial⟩) (M46.sub ⟨rfl, rfl, rfl, rfl, rfl, trivial⟩)⟩
    · obtain rfl : jn = 1000 := by omega
      have hres : R = 0 := by rw [← I5.2]; exact hR.1 _
      refine wp_seq_k fun K51 hK51 => ?_
      refine wp_seq_k fun K52 hK52 => ?_
      refine wp_region_lit ?_
      refine wl_run (w' := w5) (wanted_none rfl) rfl F5 rfl (.int .i64 ((1000 : Nat) : Int)) (run_mv _ (.inl rfl) (F5.get (t := 6) rfl)) fun a53 F53 => ?_
      clear F5
      refine wl_run (w' := w5) (wanted_none rfl) rfl F53 rfl (.int .i64 1000) (run_mv _ (.inl rfl) (F53.get (t := 1) rfl)) fun a54 F54 => ?_
      clear F53
      refine wl_run (w' := w5) (wanted_none rfl) rfl F54 rfl (.bool true) (y_geq _ _ _ _ rfl (F54.get (t := 9) rfl) (F54.get (t := 10) rfl) (decide_eq_true (by decide))) fun a55 F55 => ?_
      clear F54
      refine hK52 _ _ ?_
      refine wp_cond_true (F55.get (t := 11) rfl) ?_
      refine wp_seq_k fun K56 hK56 => ?_
      refine wp_region_lit ?_
      refine wl_alloc (wanted_none rfl) rfl F55 rfl M5 5 (t := 26) (c := numA 0) (y_new_num rfl) ?_
      intro g57 a57 w57 F57 M57
      clear F55 M5
      refine hK56 _ _ ?_
      refine wp_seq_k fun K58 hK58 => ?_
      refine wp_region_lit ?_
      refine wl_run (w' := w57) (wanted_none rfl) rfl F57 rfl (numV 0) (y_ldN _ _ rfl (F57.get (t := 7) rfl) (M57.blk (k := 5) rfl) (numA 0) (y_all rfl) Try.underlying26 rfl size26) fun a59 F59 => ?_
      clear F57
      refine wl_st (wanted_none rfl) rfl F59 M57 (k := 4) rfl _ _ _ rfl (F59.get (t := 4) rfl) (F59.get (t := 12) rfl) (numA 0) (numA 0) rfl (Nat.le_of_ble_eq_true rfl) (numA_cells _) (y_put0 rfl) size26 ?_
      intro w60 M60
      clear M57
      refine wl_run (w' := w60) (wanted_none rfl) rfl F59 rfl (.bool false) (run_mv _ (.inr rfl) rfl) fun a61 F61 => ?_
      clear F59
      refine hK58 _ _ ?_
      refine wp_ret ?_
      try simp only [Exit.then, Exit.inBlock, Exit.jump]
      exact bodyPost_ret (resCT rfl (F61.get (t := 4) rfl) (M60.blk (k := 4) rfl) (F61.get (t := 5) rfl) Try.underlying26 rfl size26) F61.defers ⟨by rw [hres]; rfl, M60.below⟩
end Go.Proofs.Ytgccbfkofkohpaa
namespace Go.Proofs.Ytgccbfkofkohpaa
set_option linter.unusedVariables false
set_option maxRecDepth 20000
set_option linter.unusedSimpArgs false
open Go.ChangeShapes Go.WideShapes Go.ChangeAt Go.RowKit
set_option maxRecDepth 100000 in
set_option maxHeartbeats 4000000 in
theorem ginto_any (k : Int) (P Q g : Nat) (ho : P % 2 = 1) (h1 : 1 < P) (hP : P < 4294967296 ^ 8) (l : List UInt8) (v : Value) (w : World) (hB : IsB w l v) :
    Calls Try.prog 31 #[.agg (groupA k P Q g), v] w fun e w' => e = .returned (numV (intoN P l)) ∧ Below w.heap.size w w' := by
  obtain ⟨A, c, ev, _⟩ := id hB
  subst ev
  refine calls_fx (args := [.agg (groupA k P Q g), .slice A l.length c]) 16 Try.func31 rfl rfl rfl ?_
  intro fa F
  have M := Mx.start w
  replace M := M.argB 0 hB (fun g e => by cases e)
  refine wp_seq_k fun K1 hK1 => ?_
  refine wp_region_lit ?_
  refine wl_alloc (wanted_none rfl) rfl F rfl M 1 (t := 28) (c := groupA k P Q g) (by unfold execOp; simp only [(F.get (t := 0) rfl)]; kernel_rfl) ?_
  intro g2 a2 w2 F2 M2
  clear F M
  refine wl_alloc (wanted_none rfl) rfl F2 rfl M2 2 (t := 43) (c := #[.slice A l.length c]) (by unfold execOp; simp only [(F2.get (t := 1) rfl)]; kernel_rfl) ?_
  intro g3 a3 w3 F3 M3
  clear F2 M2
  refine wl_alloc (wanted_none rfl) rfl F3 rfl M3 3 (t := 26) (c := numA 0) (y_new_num rfl) ?_
  intro g4 a4 w4 F4 M4
  clear F3 M3
  refine hK1 _ _ ?_
  refine wp_seq_k fun K5 hK5 => ?_
  refine wp_region_lit ?_
  refine wl_run (w' := w4) (wanted_none rfl) rfl F4 rfl (.func (.func 60) #[] #[.pointer (some ⟨g3, 0, none⟩), .pointer (some ⟨g2, 0, none⟩)]) (by unfold execOp; simp only [List.map_toArray, List.map_cons, List.map_nil, (F4.get (t := 3) rfl), (F4.get (t := 2) rfl)]; kernel_rfl) fun a6 F6 => ?_
  clear F4
  refine wl_run (w' := w4) (wanted_none rfl) rfl F6 rfl (.agg (#[.func (.func 60) #[] #[.pointer (some ⟨g3, 0, none⟩), .pointer (some ⟨g2, 0, none⟩)], .func (.func 62) #[] #[]])) (by unfold execOp; simp only [List.map_toArray, List.map_cons, List.map_nil, (F6.get (t := 8) rfl)]; kernel_rfl) fun a7 F7 => ?_
  clear F6
  refine wl_alloc (wanted_none rfl) rfl F7 rfl M4 4 (t := 82) (c := #[.nilFunc, .nilFunc]) (by unfold execOp; kernel_rfl) ?_
  intro g8 a8 w8 F8 M8
  clear F7 M4
  refine wl_st (wanted_none rfl) rfl F8 M8 (k := 4) rfl _ _ _ rfl (F8.get (t := 5) rfl) (F8.get (t := 9) rfl) (#[.func (.func 60) #[] #[.pointer (some ⟨g3, 0, none⟩), .pointer (some ⟨g2, 0, none⟩)], .func (.func 62) #[] #[]]) (#[.func (.func 60) #[] #[.pointer (some ⟨g3, 0, none⟩), .pointer (some ⟨g2, 0, none⟩)], .func (.func 62) #[] #[]]) rfl (Nat.le_of_ble_eq_true rfl) (by first | rfl | simp [Value.oneCell']) (y_put0 rfl) (by kernel_rfl) ?_
  intro w9 M9
  clear M8
  refine hK5 _ _ ?_
  refine wp_seq_k fun K10 hK10 => ?_
  refine wp_region_lit ?_
  refine wl_run (w' := w9) (wanted_none rfl) rfl F8 rfl (.agg (#[.func (.func 60) #[] #[.pointer (some ⟨g3, 0, none⟩), .pointer (some ⟨g2, 0, none⟩)], .func (.func 62) #[] #[]])) (y_ldN _ _ rfl (F8.get (t := 5) rfl) (M9.blk (k := 4) rfl) (#[.func (.func 60) #[] #[.pointer (some ⟨g3, 0, none⟩), .pointer (some ⟨g2, 0, none⟩)], .func (.func 62) #[] #[]]) (y_all rfl) Try.underlying82 rfl (by kernel_rfl)) fun a11 F11 => ?_
  clear F8
  refine wl_call (wanted_none rfl) rfl F11 rfl rfl (enters_of Try.func63 (by kernel_rfl) rfl) #[.agg (#[.func (.func 60) #[] #[.pointer (some ⟨g3, 0, none⟩), .pointer (some ⟨g2, 0, none⟩)], .func (.func 62) #[] #[]]), .int .i64 1000] (args2 (F11.get (t := 11) rfl) rfl) (call_ex (firstN_any k P Q g ho h1 hP l _ g3 g2 w9 (M9.blk (k := 2) rfl) (M9.blk (k := 1) rfl) (M9.isb (k := 0) rfl))) ?_
  rintro _ w12 a12 ⟨rfl, b12⟩ F12
  have M12 := M9.step b12
  refine wl_run (w' := w12) (wanted_none rfl) rfl F12 rfl (.tuple #[numV (intoN P l), .bool (decide (1 < intoN P l))]) (run_mv _ (.inl rfl) (F12.get (t := 12) rfl)) fun a13 F13 => ?_
  clear F12
  refine wl_run (w' := w12) (wanted_none rfl) rfl F13 rfl (numV (intoN P l)) (y_ext _ _ rfl (F13.get (t := 10) rfl) rfl) fun a14 F14 => ?_
  clear F13
  refine wl_run (w' := w12) (wanted_none rfl) rfl F14 rfl (.bool (decide (1 < intoN P l))) (y_ext _ _ rfl (F14.get (t := 10) rfl) rfl) fun a15 F15 => ?_
  clear F14
  refine wl_alloc (wanted_none rfl) rfl F15 rfl M12 5 (t := 26) (c := numA 0) (y_new_num rfl) ?_
  intro g16 a16 w16 F16 M16
  clear F15 M12
  refine wl_st (wanted_none rfl) rfl F16 M16 (k := 5) rfl _ _ _ rfl (F16.get (t := 6) rfl) (F16.get (t := 13) rfl) (numA (intoN P l)) (numA (intoN P l)) rfl (Nat.le_of_ble_eq_true rfl) (numA_cells _) (y_put0 rfl) size26 ?_
  intro w17 M17
  clear M16
  refine wl_run (w' := w17) (wanted_none rfl) rfl F16 rfl (.bool (decide (1 < intoN P l))) (run_mv _ (.inr rfl) (F16.get (t := 14) rfl)) fun a18 F18 => ?_
  clear F16
  refine hK10 _ _ ?_
  refine wp_seq_k fun K19 hK19 => ?_
  refine wp_region_lit ?_
  refine wl_run (w' := w17) (wanted_none rfl) rfl F18 rfl (numV (intoN P l)) (y_ldN _ _ rfl (F18.get (t := 6) rfl) (M17.blk (k := 5) rfl) (numA (intoN P l)) (y_all rfl) Try.underlying26 rfl size26) fun a20 F20 => ?_
  clear F18
  refine wl_st (wanted_none rfl) rfl F20 M17 (k := 3) rfl _ _ _ rfl (F20.get (t := 4) rfl) (F20.get (t := 15) rfl) (numA (intoN P l)) (numA (intoN P l)) rfl (Nat.le_of_ble_eq_true rfl) (numA_cells _) (y_put0 rfl) size26 ?_
  intro w21 M21
  clear M17
  refine hK19 _ _ ?_
  refine wp_ret ?_
  try simp only [Exit.then, Exit.inBlock, Exit.jump]
  exact bodyPost_ret (results_cell_row rfl _ _ _ _ _ (0, 0) _ (F20.get (t := 4) rfl) (M21.blk (k := 3) rfl) Try.underlying26 rfl size26) F20.defers ⟨rfl, M21.below⟩
theorem intoN_lt {P : Nat} (h : 0 < P) (l : List UInt8) : intoN P l < P := by
  rcases huntN_is (intoT P l) 1000 0 with e | ⟨j, e, _⟩
  · unfold intoN; rw [e]; exact h
  · unfold intoN; rw [e]; exact Nat.mod_lt _ h
/-- It is 0, or a square above 1. -/
theorem intoN_is (P : Nat) (l : List UInt8) : intoN P l = 0 ∨ ∃ n, intoN P l = n * n % P ∧ 1 < n * n % P := by
  rcases huntN_is (intoT P l) 1000 0 with e | ⟨j, e, h⟩
  · exact .inl e
  · refine .inr ⟨_, e, ?_⟩
    exact h
theorem expN_eq (Q : Nat) (l : List UInt8) : expN Q l = readN (sumY (outF (macW [] [[101, 120, 112, 111, 110, 101, 110, 116], l]))) % (Q - 1) + 1 := rfl
end Go.Proofs.Ytgccbfkofkohpaa
