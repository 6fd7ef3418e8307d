/- What WireRows stands on, part 8. -/
import Derived.Test.YtlbkogdmojlpmaaWireRowsP1
import Derived.Test.YtlbkogdmojlpmaaWireRowsP2
import Derived.Test.YtlbkogdmojlpmaaWireRowsP3
import Derived.Test.YtlbkogdmojlpmaaWireRowsP4
import Derived.Test.YtlbkogdmojlpmaaWireRowsP5
import Derived.Test.YtlbkogdmojlpmaaWireRowsP6
import Derived.Test.YtlbkogdmojlpmaaWireRowsP7
set_option maxRecDepth 100000
set_option maxHeartbeats 8000000
set_option linter.unusedVariables false
set_option linter.unusedSimpArgs false
namespace Go.Proofs.Ytlbkogdmojlpmaa
open Go.ChangeShapes Go.WideShapes Go.ChangeAt Go.RowKit
theorem fl_1 (m : MsgN) : (m.p != 0) = zqa m 1 := by
  by_cases h : m.p = 0
  · rw [y_bneF h]; exact (flagB_f.2 (show zt m 1 = [] from octL_nil.2 h)).symm
  · rw [y_bneT h]; exact (flagB_t.2 (show zt m 1 ≠ [] from fun e => h (octL_nil.1 e))).symm
theorem fl_10 (m : MsgN) : (m.c != 0) = zqa m 10 := by
  by_cases h : m.c = 0
  · rw [y_bneF h]; exact (flagB_f.2 (show zt m 10 = [] from eightO_nil.2 h)).symm
  · rw [y_bneT h]; exact (flagB_t.2 (show zt m 10 ≠ [] from fun e => h (eightO_nil.1 e))).symm
theorem fl_11 (m : MsgN) : (m.e != 0) = zqa m 11 := by
  by_cases h : m.e = 0
  · rw [y_bneF h]; exact (flagB_f.2 (show zt m 11 = [] from octL_nil.2 h)).symm
  · rw [y_bneT h]; exact (flagB_t.2 (show zt m 11 ≠ [] from fun e => h (octL_nil.1 e))).symm
theorem fl_2 (m : MsgN) : (!decide (m.s.toList = ({ data := #[] } : ByteArray).toList)) = zqa m 2 := by
  have e : m.s.toList = ({ data := #[] } : ByteArray).toList ↔ sBy m.s = [] := by
    rw [ByteArray.toList_eq, ByteArray.toList_eq]; rfl
  by_cases h : sBy m.s = []
  · rw [decide_eq_true (e.2 h)]; exact (flagB_f.2 (show zt m 2 = [] from h)).symm
  · rw [decide_eq_false (fun q => h (e.1 q))]; exact (flagB_t.2 (show zt m 2 ≠ [] from h)).symm
theorem fl_len (l : List UInt8) : decide ((0 : Int) < (l.length : Int)) = !l.isEmpty := by cases l <;> simp <;> omega
theorem fl_5 (m : MsgN) : decide ((0 : Int) < (m.l5.length : Int)) = zqa m 5 := fl_len _
theorem fl_6 (m : MsgN) : decide ((0 : Int) < (m.l6.length : Int)) = zqa m 6 := fl_len _
theorem fl_7 (m : MsgN) : decide ((0 : Int) < (m.l7.length : Int)) = zqa m 7 := fl_len _
theorem fl_8 (m : MsgN) : decide ((0 : Int) < (m.l8.length : Int)) = zqa m 8 := fl_len _
theorem fl_9 (m : MsgN) : decide ((0 : Int) < (m.l9.length : Int)) = zqa m 9 := fl_len _
theorem fl_3 (m : MsgN) : (!decide (m.a = 0)) = zqa m 3 := by
  by_cases h : m.a = 0
  · rw [decide_eq_true h]; exact (flagB_f.2 (show zt m 3 = [] from fourO_nil.2 h)).symm
  · rw [decide_eq_false h]; exact (flagB_t.2 (show zt m 3 ≠ [] from fun e => h (fourO_nil.1 e))).symm
theorem fl_4 (m : MsgN) : (!decide (m.b = 0)) = zqa m 4 := by
  by_cases h : m.b = 0
  · rw [decide_eq_true h]; exact (flagB_f.2 (show zt m 4 = [] from fourO_nil.2 h)).symm
  · rw [decide_eq_false h]; exact (flagB_t.2 (show zt m 4 ≠ [] from fun e => h (fourO_nil.1 e))).symm
theorem fl_num {a : Act} {w : World} {o : Oper} {x y : Operand} {tz : TypeId} (ho : o.op = .binOp .neq 27 x y tz) {n : Nat} (hx : a.eval x = numV n) (hy : a.eval y = numV 0) (hn : n < 4294967296 ^ 8) {b : Bool} (hb : (!decide (n = 0)) = b) : (execOp a.eval o).run Try.prog w = .ok (.value (.bool b)) w := by
  subst hb
  by_cases h : n = 0
  · subst h
    exact y_neA _ _ _ _ ho hx hy (by kernel_rfl) (eqn_same 0 _)
  · rw [decide_eq_false h]
    exact y_neA _ _ _ _ ho hx hy (by kernel_rfl) (eqn_diff hn (by decide) h _)
def flagsA (m : MsgN) : Array Value := #[.bool false, .bool (zqa m 1), .bool (zqa m 2), .bool (zqa m 3), .bool (zqa m 4), .bool (zqa m 5), .bool (zqa m 6), .bool (zqa m 7), .bool (zqa m 8), .bool (zqa m 9), .bool (zqa m 10), .bool (zqa m 11)]
theorem flags_at (m : MsgN) {j : Nat} (h : j < 12) : (flagsA m)[j]? = some (.bool (zqa m j)) := by
  have : j = 0 ∨ j = 1 ∨ j = 2 ∨ j = 3 ∨ j = 4 ∨ j = 5 ∨ j = 6 ∨ j = 7 ∨ j = 8 ∨ j = 9 ∨ j = 10 ∨ j = 11 := by omega
  rcases this with rfl | rfl | rfl | rfl | rfl | rfl | rfl | rfl | rfl | rfl | rfl | rfl <;> rfl
theorem thN_next (f : Nat → Bool) (k : Nat) (hk : k < 60) : f k = true → bits .or .i64 ((thN f k : Nat) : Int) ((2 ^ k : Nat) : Int) = ((thN f (k + 1) : Nat) : Int) := fun h => by
  rw [orI _ _ (Nat.lt_of_lt_of_le (thN_lt f k) (Nat.pow_le_pow_right (by omega) (by omega))) (Nat.pow_lt_pow_right (by omega) (by omega))]
  rw [show thN f (k + 1) = thN f k ||| 2 ^ k from if_pos h]
theorem one_shl {j : Nat} (h : j < 12) : IntKind.i64.wrap (1 * 2 ^ ((j : Int)).toNat) = ((2 ^ j : Nat) : Int) := by
  have : j = 0 ∨ j = 1 ∨ j = 2 ∨ j = 3 ∨ j = 4 ∨ j = 5 ∨ j = 6 ∨ j = 7 ∨ j = 8 ∨ j = 9 ∨ j = 10 ∨ j = 11 := by omega
  rcases this with rfl | rfl | rfl | rfl | rfl | rfl | rfl | rfl | rfl | rfl | rfl | rfl <;> decide
theorem zcb (m : MsgN) (V : MsgV) (ho : MsgOk m) (w : World) (hm : MsgIs w m V) :
  Calls Try.prog 46 #[.agg (msgA m V)] w fun e w' => e = .returned (.int .i64 ((hasR m : Nat) : Int)) ∧ Below w.heap.size w w' := by
 obtain ⟨bf1, hf1⟩ : ∃ f, zqa m 1 = f := ⟨_, rfl⟩
 obtain ⟨bf2, hf2⟩ : ∃ f, zqa m 2 = f := ⟨_, rfl⟩
 obtain ⟨bf3, hf3⟩ : ∃ f, zqa m 3 = f := ⟨_, rfl⟩
 obtain ⟨bf4, hf4⟩ : ∃ f, zqa m 4 = f := ⟨_, rfl⟩
 obtain ⟨bf5, hf5⟩ : ∃ f, zqa m 5 = f := ⟨_, rfl⟩
 obtain ⟨bf6, hf6⟩ : ∃ f, zqa m 6 = f := ⟨_, rfl⟩
 obtain ⟨bf7, hf7⟩ : ∃ f, zqa m 7 = f := ⟨_, rfl⟩
 obtain ⟨bf8, hf8⟩ : ∃ f, zqa m 8 = f := ⟨_, rfl⟩
 obtain ⟨bf9, hf9⟩ : ∃ f, zqa m 9 = f := ⟨_, rfl⟩
 obtain ⟨bf10, hf10⟩ : ∃ f, zqa m 10 = f := ⟨_, rfl⟩
 obtain ⟨bf11, hf11⟩ : ∃ f, zqa m 11 = f := ⟨_, rfl⟩
 refine zg (args := [.agg (msgA m V)]) 63 Try.func46 rfl rfl rfl ?_
 intro fa F
 have M := Mx.start w
 replace M := M.argB 0 hm.h5 (fun g e => by cases e)
 replace M := M.argB 1 hm.h6 (fun g e => by cases e)
 replace M := M.argB 2 hm.h7 (fun g e => by cases e)
 replace M := M.argB 3 hm.h8 (fun g e => by cases e)
 replace M := M.argB 4 hm.h9 (fun g e => by cases e)
 refine zT fun _ hK1 => ?_
 refine zh (za rfl) rfl F rfl M 5 (t := 29) (c := msgA m V) (by unfold execOp; simp only [(F.get (t := 0) rfl)]; kernel_rfl) ?_
 intro g2 a2 w2 F2 M2
 clear F M
 refine rm rfl F2 fun _ F3 => ?_
 refine hK1 _ _ (zS fun _ hK4 => ?_)
 refine z2b F3 [fun vE => vE = .pointer (some ⟨g2, 1, none⟩), fun vE => vE = .int .i64 m.p, fun vE => vE = .bool bf1, fun vE => vE = .pointer (some ⟨g2, 4, none⟩), fun vE => vE = .string m.s, fun vE => vE = .bool bf2, fun vE => vE = .pointer (some ⟨g2, 5, none⟩), fun vE => vE = numV m.a, fun vE => vE = numV 0, fun vE => vE = .bool bf3, fun vE => vE = .pointer (some ⟨g2, 13, none⟩), fun vE => vE = numV m.b, fun vE => vE = numV 0, fun vE => vE = .bool bf4, fun vE => vE = .pointer (some ⟨g2, 21, none⟩), fun vE => vE = V.v5, fun vE => vE = .int .i64 (m.l5.length : Int), fun vE => vE = .bool bf5, fun vE => vE = .pointer (some ⟨g2, 22, none⟩), fun vE => vE = V.v6, fun vE => vE = .int .i64 (m.l6.length : Int), fun vE => vE = .bool bf6, fun vE => vE = .pointer (some ⟨g2, 23, none⟩), fun vE => vE = V.v7, fun vE => vE = .int .i64 (m.l7.length : Int), fun vE => vE = .bool bf7, fun vE => vE = .pointer (some ⟨g2, 24, none⟩), fun vE => vE = V.v8, fun vE => vE = .int .i64 (m.l8.length : Int), fun vE => vE = .bool bf8, fun vE => vE = .pointer (some ⟨g2, 25, none⟩), fun vE => vE = V.v9, fun vE => vE = .int .i64 (m.l9.length : Int), fun vE => vE = .bool bf9, fun vE => vE = .pointer (some ⟨g2, 2, none⟩), fun vE => vE = .int .i64 m.c, fun vE => vE = .bool bf10, fun vE => vE = .pointer (some ⟨g2, 3, none⟩), fun vE => vE = .int .i64 m.e, fun vE => vE = .bool bf11, fun _ => True] (JM none w fun SV pV => [(0, bytR m.l5 V.v5), (1, bytR m.l6 V.v6), (2, bytR m.l7 V.v7), (3, bytR m.l8 V.v8), (4, bytR m.l9 V.v9), (5, blkR g2 29 (msgA m V)), (6, condR (SV 40) (slcR 4 12 (#[.bool false, .bool bf1, .bool bf2, .bool bf3, .bool bf4, .bool bf5, .bool bf6, .bool bf7, .bool bf8, .bool bf9, .bool bf10, .bool bf11]) (pV 40)))]) 41 rfl (by kernel_rfl) rfl ⟨trivial, trivial, trivial, trivial, trivial, trivial, trivial, trivial, trivial, trivial, trivial, trivial, trivial, trivial, trivial, trivial, trivial, trivial, trivial, trivial, trivial, trivial, trivial, trivial, trivial, trivial, trivial, trivial, trivial, trivial, trivial, trivial, trivial, trivial, trivial, trivial, trivial, trivial, trivial, trivial, trivial, trivial⟩ (fun p => ((M2.step (zbb _)).triv 6).sub ⟨rfl, rfl, rfl, rfl, rfl, rfl, rfl, trivial⟩) ⟨?_, ?_, ?_, ?_, ?_, ?_, ?_, ?_, ?_, ?_, ?_, ?_, ?_, ?_, ?_, ?_, ?_, ?_, ?_, ?_, ?_, ?_, ?_, ?_, ?_, ?_, ?_, ?_, ?_, ?_, ?_, ?_, ?_, ?_, ?_, ?_, ?_, ?_, ?_, ?_, ?_, trivial⟩ ?_
 ·intro ua uw SV pV M0 hk hn hd
  have M : Mx none w uw _ := M0
  clear M0
  have e1 : ua.eval (.tmp 1) = .pointer (some ⟨g2, 0, none⟩) := (show ua.eval (.tmp 1) = _ from hd 1 (by decide)).trans (F3.get (t := 1) rfl)
  exact zp (za rfl) (.pointer (some ⟨g2, 1, none⟩)) (y_fa (off := 1) rfl e1 (by kernel_rfl) rfl) rfl (M.sub ⟨rfl, rfl, rfl, rfl, rfl, rfl, rfl, trivial⟩)
 ·intro ua uw SV pV M0 hk hn hd
  have M : Mx none w uw _ := M0
  clear M0
  obtain ⟨s0, f6, q6⟩ := (show SV 0 = true ∧ ua.eval (.tmp 6) = pV 0 ∧ stE _ 0 (pV 0) from hd 6 (by decide))
  have e6 : ua.eval (.tmp 6) = .pointer (some ⟨g2, 1, none⟩) := f6.trans q6
  exact zp (za rfl) (.int .i64 m.p) (y_ld1 _ _ rfl e6 (M.blk (k := 5) rfl) rfl Try.underlying3 rfl) rfl (M.sub ⟨rfl, rfl, rfl, rfl, rfl, rfl, rfl, trivial⟩)
 ·intro ua uw SV pV M0 hk hn hd
  have M : Mx none w uw _ := M0
  clear M0
  obtain ⟨s1, f7, q7⟩ := (show SV 1 = true ∧ ua.eval (.tmp 7) = pV 1 ∧ stE _ 1 (pV 1) from hd 7 (by decide))
  have e7 : ua.eval (.tmp 7) = .int .i64 m.p := f7.trans q7
  exact zp (za rfl) (.bool bf1) (y_neI _ _ _ _ rfl e7 rfl Try.underlying3 ((fl_1 m).trans hf1)) rfl (M.sub ⟨rfl, rfl, rfl, rfl, rfl, rfl, rfl, trivial⟩)
 ·intro ua uw SV pV M0 hk hn hd
  have M : Mx none w uw _ := M0
  clear M0
  have e1 : ua.eval (.tmp 1) = .pointer (some ⟨g2, 0, none⟩) := (show ua.eval (.tmp 1) = _ from hd 1 (by decide)).trans (F3.get (t := 1) rfl)
  exact zp (za rfl) (.pointer (some ⟨g2, 4, none⟩)) (y_fa (off := 4) rfl e1 (by kernel_rfl) rfl) rfl (M.sub ⟨rfl, rfl, rfl, rfl, rfl, rfl, rfl, trivial⟩)
 ·intro ua uw SV pV M0 hk hn hd
  have M : Mx none w uw _ := M0
  clear M0
  obtain ⟨s3, f9, q9⟩ := (show SV 3 = true ∧ ua.eval (.tmp 9) = pV 3 ∧ stE _ 3 (pV 3) from hd 9 (by decide))
  have e9 : ua.eval (.tmp 9) = .pointer (some ⟨g2, 4, none⟩) := f9.trans q9
  exact zp (za rfl) (.string m.s) (y_ld1 _ _ rfl e9 (M.blk (k := 5) rfl) rfl Try.underlying9 rfl) rfl (M.sub ⟨rfl, rfl, rfl, rfl, rfl, rfl, rfl, trivial⟩)
 ·intro ua uw SV pV M0 hk hn hd
  have M : Mx none w uw _ := M0
  clear M0
  obtain ⟨s4, f10, q10⟩ := (show SV 4 = true ∧ ua.eval (.tmp 10) = pV 4 ∧ stE _ 4 (pV 4) from hd 10 (by decide))
  have e10 : ua.eval (.tmp 10) = .string m.s := f10.trans q10
  exact zp (za rfl) (.bool bf2) (y_neS _ _ _ rfl e10 rfl ((fl_2 m).trans hf2)) rfl (M.sub ⟨rfl, rfl, rfl, rfl, rfl, rfl, rfl, trivial⟩)
 ·intro ua uw SV pV M0 hk hn hd
  have M : Mx none w uw _ := M0
  clear M0
  have e1 : ua.eval (.tmp 1) = .pointer (some ⟨g2, 0, none⟩) := (show ua.eval (.tmp 1) = _ from hd 1 (by decide)).trans (F3.get (t := 1) rfl)
  exact zp (za rfl) (.pointer (some ⟨g2, 5, none⟩)) (y_fa (off := 5) rfl e1 (by kernel_rfl) rfl) rfl (M.sub ⟨rfl, rfl, rfl, rfl, rfl, rfl, rfl, trivial⟩)
 ·intro ua uw SV pV M0 hk hn hd
  have M : Mx none w uw _ := M0
  clear M0
  obtain ⟨s6, f12, q12⟩ := (show SV 6 = true ∧ ua.eval (.tmp 12) = pV 6 ∧ stE _ 6 (pV 6) from hd 12 (by decide))
  have e12 : ua.eval (.tmp 12) = .pointer (some ⟨g2, 5, none⟩) := f12.trans q12
  exact zp (za rfl) (numV m.a) (zpa _ _ rfl e12 (M.blk (k := 5) rfl) (numA m.a) (y_part8 rfl rfl rfl rfl rfl rfl rfl rfl) Try.underlying27 rfl z8) rfl (M.sub ⟨rfl, rfl, rfl, rfl, rfl, rfl, rfl, trivial⟩)
 ·intro ua uw SV pV M0 hk hn hd
  have M : Mx none w uw _ := M0
  clear M0
  exact zp (za rfl) (numV 0) (y_zbuild rfl) rfl (M.sub ⟨rfl, rfl, rfl, rfl, rfl, rfl, rfl, trivial⟩)
 ·intro ua uw SV pV M0 hk hn hd
  have M : Mx none w uw _ := M0
  clear M0
  obtain ⟨s7, f13, q13⟩ := (show SV 7 = true ∧ ua.eval (.tmp 13) = pV 7 ∧ stE _ 7 (pV 7) from hd 13 (by decide))
  have e13 : ua.eval (.tmp 13) = numV m.a := f13.trans q13
  obtain ⟨s8, f14, q14⟩ := (show SV 8 = true ∧ ua.eval (.tmp 14) = pV 8 ∧ stE _ 8 (pV 8) from hd 14 (by decide))
  have e14 : ua.eval (.tmp 14) = numV 0 := f14.trans q14
  exact zp (za rfl) (.bool bf3) (fl_num rfl e13 e14 ho.a ((fl_3 m).trans hf3)) rfl (M.sub ⟨rfl, rfl, rfl, rfl, rfl, rfl, rfl, trivial⟩)
 ·intro ua uw SV pV M0 hk hn hd
  have M : Mx none w uw _ := M0
  clear M0
  have e1 : ua.eval (.tmp 1) = .pointer (some ⟨g2, 0, none⟩) := (show ua.eval (.tmp 1) = _ from hd 1 (by decide)).trans (F3.get (t := 1) rfl)
  exact zp (za rfl) (.pointer (some ⟨g2, 13, none⟩)) (y_fa (off := 13) rfl e1 (by kernel_rfl) rfl) rfl (M.sub ⟨rfl, rfl, rfl, rfl, rfl, rfl, rfl, trivial⟩)
 ·intro ua uw SV pV M0 hk hn hd
  have M : Mx none w uw _ := M0
  clear M0
  obtain ⟨s10, f16, q16⟩ := (show SV 10 = true ∧ ua.eval (.tmp 16) = pV 10 ∧ stE _ 10 (pV 10) from hd 16 (by decide))
  have e16 : ua.eval (.tmp 16) = .pointer (some ⟨g2, 13, none⟩) := f16.trans q16
  exact zp (za rfl) (numV m.b) (zpa _ _ rfl e16 (M.blk (k := 5) rfl) (numA m.b) (y_part8 rfl rfl rfl rfl rfl rfl rfl rfl) Try.underlying27 rfl z8) rfl (M.sub ⟨rfl, rfl, rfl, rfl, rfl, rfl, rfl, trivial⟩)
 ·intro ua uw SV pV M0 hk hn hd
  have M : Mx none w uw _ := M0
  clear M0
  exact zp (za rfl) (numV 0) (y_zbuild rfl) rfl (M.sub ⟨rfl, rfl, rfl, rfl, rfl, rfl, rfl, trivial⟩)
 ·intro ua uw SV pV M0 hk hn hd
  have M : Mx none w uw _ := M0
  clear M0
  obtain ⟨s11, f17, q17⟩ := (show SV 11 = true ∧ ua.eval (.tmp 17) = pV 11 ∧ stE _ 11 (pV 11) from hd 17 (by decide))
  have e17 : ua.eval (.tmp 17) = numV m.b := f17.trans q17
  obtain ⟨s12, f18, q18⟩ := (show SV 12 = true ∧ ua.eval (.tmp 18) = pV 12 ∧ stE _ 12 (pV 12) from hd 18 (by decide))
  have e18 : ua.eval (.tmp 18) = numV 0 := f18.trans q18
  exact zp (za rfl) (.bool bf4) (fl_num rfl e17 e18 ho.b ((fl_4 m).trans hf4)) rfl (M.sub ⟨rfl, rfl, rfl, rfl, rfl, rfl, rfl, trivial⟩)
 ·intro ua uw SV pV M0 hk hn hd
  have M : Mx none w uw _ := M0
  clear M0
  have e1 : ua.eval (.tmp 1) = .pointer (some ⟨g2, 0, none⟩) := (show ua.eval (.tmp 1) = _ from hd 1 (by decide)).trans (F3.get (t := 1) rfl)
  exact zp (za rfl) (.pointer (some ⟨g2, 21, none⟩)) (y_fa (off := 21) rfl e1 (by kernel_rfl) rfl) rfl (M.sub ⟨rfl, rfl, rfl, rfl, rfl, rfl, rfl, trivial⟩)
 ·intro ua uw SV pV M0 hk hn hd
  have M : Mx none w uw _ := M0
  clear M0
  obtain ⟨s14, f20, q20⟩ := (show SV 14 = true ∧ ua.eval (.tmp 20) = pV 14 ∧ stE _ 14 (pV 14) from hd 20 (by decide))
  have e20 : ua.eval (.tmp 20) = .pointer (some ⟨g2, 21, none⟩) := f20.trans q20
  exact zp (za rfl) (V.v5) (y_ld1 _ _ rfl e20 (M.blk (k := 5) rfl) rfl Try.underlying22 rfl) rfl (M.sub ⟨rfl, rfl, rfl, rfl, rfl, rfl, rfl, trivial⟩)
 ·intro ua uw SV pV M0 hk hn hd
  have M : Mx none w uw _ := M0
  clear M0
  obtain ⟨s15, f21, q21⟩ := (show SV 15 = true ∧ ua.eval (.tmp 21) = pV 15 ∧ stE _ 15 (pV 15) from hd 21 (by decide))
  have e21 : ua.eval (.tmp 21) = V.v5 := f21.trans q21
  exact zp (za rfl) (.int .i64 (m.l5.length : Int)) (zca _ rfl e21 (M.isb (k := 0) rfl) rfl) rfl (M.sub ⟨rfl, rfl, rfl, rfl, rfl, rfl, rfl, trivial⟩)
 ·intro ua uw SV pV M0 hk hn hd
  have M : Mx none w uw _ := M0
  clear M0
  obtain ⟨s16, f22, q22⟩ := (show SV 16 = true ∧ ua.eval (.tmp 22) = pV 16 ∧ stE _ 16 (pV 16) from hd 22 (by decide))
  have e22 : ua.eval (.tmp 22) = .int .i64 (m.l5.length : Int) := f22.trans q22
  exact zp (za rfl) (.bool bf5) (z0a _ _ _ _ rfl e22 rfl ((fl_5 m).trans hf5)) rfl (M.sub ⟨rfl, rfl, rfl, rfl, rfl, rfl, rfl, trivial⟩)
 ·intro ua uw SV pV M0 hk hn hd
  have M : Mx none w uw _ := M0
  clear M0
  have e1 : ua.eval (.tmp 1) = .pointer (some ⟨g2, 0, none⟩) := (show ua.eval (.tmp 1) = _ from hd 1 (by decide)).trans (F3.get (t := 1) rfl)
  exact zp (za rfl) (.pointer (some ⟨g2, 22, none⟩)) (y_fa (off := 22) rfl e1 (by kernel_rfl) rfl) rfl (M.sub ⟨rfl, rfl, rfl, rfl, rfl, rfl, rfl, trivial⟩)
 ·intro ua uw SV pV M0 hk hn hd
  have M : Mx none w uw _ := M0
  clear M0
  obtain ⟨s18, f24, q24⟩ := (show SV 18 = true ∧ ua.eval (.tmp 24) = pV 18 ∧ stE _ 18 (pV 18) from hd 24 (by decide))
  have e24 : ua.eval (.tmp 24) = .pointer (some ⟨g2, 22, none⟩) := f24.trans q24
  exact zp (za rfl) (V.v6) (y_ld1 _ _ rfl e24 (M.blk (k := 5) rfl) rfl Try.underlying22 rfl) rfl (M.sub ⟨rfl, rfl, rfl, rfl, rfl, rfl, rfl, trivial⟩)
 ·intro ua uw SV pV M0 hk hn hd
  have M : Mx none w uw _ := M0
  clear M0
  obtain ⟨s19, f25, q25⟩ := (show SV 19 = true ∧ ua.eval (.tmp 25) = pV 19 ∧ stE _ 19 (pV 19) from hd 25 (by decide))
  have e25 : ua.eval (.tmp 25) = V.v6 := f25.trans q25
  exact zp (za rfl) (.int .i64 (m.l6.length : Int)) (zca _ rfl e25 (M.isb (k := 1) rfl) rfl) rfl (M.sub ⟨rfl, rfl, rfl, rfl, rfl, rfl, rfl, trivial⟩)
 ·intro ua uw SV pV M0 hk hn hd
  have M : Mx none w uw _ := M0
  clear M0
  obtain ⟨s20, f26, q26⟩ := (show SV 20 = true ∧ ua.eval (.tmp 26) = pV 20 ∧ stE _ 20 (pV 20) from hd 26 (by decide))
  have e26 : ua.eval (.tmp 26) = .int .i64 (m.l6.length : Int) := f26.trans q26
  exact zp (za rfl) (.bool bf6) (z0a _ _ _ _ rfl e26 rfl ((fl_6 m).trans hf6)) rfl (M.sub ⟨rfl, rfl, rfl, rfl, rfl, rfl, rfl, trivial⟩)
 ·intro ua uw SV pV M0 hk hn hd
  have M : Mx none w uw _ := M0
  clear M0
  have e1 : ua.eval (.tmp 1) = .pointer (some ⟨g2, 0, none⟩) := (show ua.eval (.tmp 1) = _ from hd 1 (by decide)).trans (F3.get (t := 1) rfl)
  exact zp (za rfl) (.pointer (some ⟨g2, 23, none⟩)) (y_fa (off := 23) rfl e1 (by kernel_rfl) rfl) rfl (M.sub ⟨rfl, rfl, rfl, rfl, rfl, rfl, rfl, trivial⟩)
 ·intro ua uw SV pV M0 hk hn hd
  have M : Mx none w uw _ := M0
  clear M0
  obtain ⟨s22, f28, q28⟩ := (show SV 22 = true ∧ ua.eval (.tmp 28) = pV 22 ∧ stE _ 22 (pV 22) from hd 28 (by decide))
  have e28 : ua.eval (.tmp 28) = .pointer (some ⟨g2, 23, none⟩) := f28.trans q28
  exact zp (za rfl) (V.v7) (y_ld1 _ _ rfl e28 (M.blk (k := 5) rfl) rfl Try.underlying22 rfl) rfl (M.sub ⟨rfl, rfl, rfl, rfl, rfl, rfl, rfl, trivial⟩)
 ·intro ua uw SV pV M0 hk hn hd
  have M : Mx none w uw _ := M0
  clear M0
  obtain ⟨s23, f29, q29⟩ := (show SV 23 = true ∧ ua.eval (.tmp 29) = pV 23 ∧ stE _ 23 (pV 23) from hd 29 (by decide))
  have e29 : ua.eval (.tmp 29) = V.v7 := f29.trans q29
  exact zp (za rfl) (.int .i64 (m.l7.length : Int)) (zca _ rfl e29 (M.isb (k := 2) rfl) rfl) rfl (M.sub ⟨rfl, rfl, rfl, rfl, rfl, rfl, rfl, trivial⟩)
 ·intro ua uw SV pV M0 hk hn hd
  have M : Mx none w uw _ := M0
  clear M0
  obtain ⟨s24, f30, q30⟩ := (show SV 24 = true ∧ ua.eval (.tmp 30) = pV 24 ∧ stE _ 24 (pV 24) from hd 30 (by decide))
  have e30 : ua.eval (.tmp 30) = .int .i64 (m.l7.length : Int) := f30.trans q30
  exact zp (za rfl) (.bool bf7) (z0a _ _ _ _ rfl e30 rfl ((fl_7 m).trans hf7)) rfl (M.sub ⟨rfl, rfl, rfl, rfl, rfl, rfl, rfl, trivial⟩)
 ·intro ua uw SV pV M0 hk hn hd
  have M : Mx none w uw _ := M0
  clear M0
  have e1 : ua.eval (.tmp 1) = .pointer (some ⟨g2, 0, none⟩) := (show ua.eval (.tmp 1) = _ from hd 1 (by decide)).trans (F3.get (t := 1) rfl)
  exact zp (za rfl) (.pointer (some ⟨g2, 24, none⟩)) (y_fa (off := 24) rfl e1 (by kernel_rfl) rfl) rfl (M.sub ⟨rfl, rfl, rfl, rfl, rfl, rfl, rfl, trivial⟩)
 ·intro ua uw SV pV M0 hk hn hd
  have M : Mx none w uw _ := M0
  clear M0
  obtain ⟨s26, f32, q32⟩ := (show SV 26 = true ∧ ua.eval (.tmp 32) = pV 26 ∧ stE _ 26 (pV 26) from hd 32 (by decide))
  have e32 : ua.eval (.tmp 32) = .pointer (some ⟨g2, 24, none⟩) := f32.trans q32
  exact zp (za rfl) (V.v8) (y_ld1 _ _ rfl e32 (M.blk (k := 5) rfl) rfl Try.underlying22 rfl) rfl (M.sub ⟨rfl, rfl, rfl, rfl, rfl, rfl, rfl, trivial⟩)
 ·intro ua uw SV pV M0 hk hn hd
  have M : Mx none w uw _ := M0
  clear M0
  obtain ⟨s27, f33, q33⟩ := (show SV 27 = true ∧ ua.eval (.tmp 33) = pV 27 ∧ stE _ 27 (pV 27) from hd 33 (by decide))
  have e33 : ua.eval (.tmp 33) = V.v8 := f33.trans q33
  exact zp (za rfl) (.int .i64 (m.l8.length : Int)) (zca _ rfl e33 (M.isb (k := 3) rfl) rfl) rfl (M.sub ⟨rfl, rfl, rfl, rfl, rfl, rfl, rfl, trivial⟩)
 ·intro ua uw SV pV M0 hk hn hd
  have M : Mx none w uw _ := M0
  clear M0
  obtain ⟨s28, f34, q34⟩ := (show SV 28 = true ∧ ua.eval (.tmp 34) = pV 28 ∧ stE _ 28 (pV 28) from hd 34 (by decide))
  have e34 : ua.eval (.tmp 34) = .int .i64 (m.l8.length : Int) := f34.trans q34
  exact zp (za rfl) (.bool bf8) (z0a _ _ _ _ rfl e34 rfl ((fl_8 m).trans hf8)) rfl (M.sub ⟨rfl, rfl, rfl, rfl, rfl, rfl, rfl, trivial⟩)
 ·intro ua uw SV pV M0 hk hn hd
  have M : Mx none w uw _ := M0
  clear M0
  have e1 : ua.eval (.tmp 1) = .pointer (some ⟨g2, 0, none⟩) := (show ua.eval (.tmp 1) = _ from hd 1 (by decide)).trans (F3.get (t := 1) rfl)
  exact zp (za rfl) (.pointer (some ⟨g2, 25, none⟩)) (y_fa (off := 25) rfl e1 (by kernel_rfl) rfl) rfl (M.sub ⟨rfl, rfl, rfl, rfl, rfl, rfl, rfl, trivial⟩)
 ·intro ua uw SV pV M0 hk hn hd
  have M : Mx none w uw _ := M0
  clear M0
  obtain ⟨s30, f36, q36⟩ := (show SV 30 = true ∧ ua.eval (.tmp 36) = pV 30 ∧ stE _ 30 (pV 30) from hd 36 (by decide))
  have e36 : ua.eval (.tmp 36) = .pointer (some ⟨g2, 25, none⟩) := f36.trans q36
  exact zp (za rfl) (V.v9) (y_ld1 _ _ rfl e36 (M.blk (k := 5) rfl) rfl Try.underlying22 rfl) rfl (M.sub ⟨rfl, rfl, rfl, rfl, rfl, rfl, rfl, trivial⟩)
 ·intro ua uw SV pV M0 hk hn hd
  have M : Mx none w uw _ := M0
  clear M0
  obtain ⟨s31, f37, q37⟩ := (show SV 31 = true ∧ ua.eval (.tmp 37) = pV 31 ∧ stE _ 31 (pV 31) from hd 37 (by decide))
  have e37 : ua.eval (.tmp 37) = V.v9 := f37.trans q37
  exact zp (za rfl) (.int .i64 (m.l9.length : Int)) (zca _ rfl e37 (M.isb (k := 4) rfl) rfl) rfl (M.sub ⟨rfl, rfl, rfl, rfl, rfl, rfl, rfl, trivial⟩)
 ·intro ua uw SV pV M0 hk hn hd
  have M : Mx none w uw _ := M0
  clear M0
  obtain ⟨s32, f38, q38⟩ := (show SV 32 = true ∧ ua.eval (.tmp 38) = pV 32 ∧ stE _ 32 (pV 32) from hd 38 (by decide))
  have e38 : ua.eval (.tmp 38) = .int .i64 (m.l9.length : Int) := f38.trans q38
  exact zp (za rfl) (.bool bf9) (z0a _ _ _ _ rfl e38 rfl ((fl_9 m).trans hf9)) rfl (M.sub ⟨rfl, rfl, rfl, rfl, rfl, rfl, rfl, trivial⟩)
 ·intro ua uw SV pV M0 hk hn hd
  have M : Mx none w uw _ := M0
  clear M0
  have e1 : ua.eval (.tmp 1) = .pointer (some ⟨g2, 0, none⟩) := (show ua.eval (.tmp 1) = _ from hd 1 (by decide)).trans (F3.get (t := 1) rfl)
  exact zp (za rfl) (.pointer (some ⟨g2, 2, none⟩)) (y_fa (off := 2) rfl e1 (by kernel_rfl) rfl) rfl (M.sub ⟨rfl, rfl, rfl, rfl, rfl, rfl, rfl, trivial⟩)
 ·intro ua uw SV pV M0 hk hn hd
  have M : Mx none w uw _ := M0
  clear M0
  obtain ⟨s34, f40, q40⟩ := (show SV 34 = true ∧ ua.eval (.tmp 40) = pV 34 ∧ stE _ 34 (pV 34) from hd 40 (by decide))
  have e40 : ua.eval (.tmp 40) = .pointer (some ⟨g2, 2, none⟩) := f40.trans q40
  exact zp (za rfl) (.int .i64 m.c) (y_ld1 _ _ rfl e40 (M.blk (k := 5) rfl) rfl Try.underlying3 rfl) rfl (M.sub ⟨rfl, rfl, rfl, rfl, rfl, rfl, rfl, trivial⟩)
 ·intro ua uw SV pV M0 hk hn hd
  have M : Mx none w uw _ := M0
  clear M0
  obtain ⟨s35, f41, q41⟩ := (show SV 35 = true ∧ ua.eval (.tmp 41) = pV 35 ∧ stE _ 35 (pV 35) from hd 41 (by decide))
  have e41 : ua.eval (.tmp 41) = .int .i64 m.c := f41.trans q41
  exact zp (za rfl) (.bool bf10) (y_neI _ _ _ _ rfl e41 rfl Try.underlying3 ((fl_10 m).trans hf10)) rfl (M.sub ⟨rfl, rfl, rfl, rfl, rfl, rfl, rfl, trivial⟩)
 ·intro ua uw SV pV M0 hk hn hd
  have M : Mx none w uw _ := M0
  clear M0
  have e1 : ua.eval (.tmp 1) = .pointer (some ⟨g2, 0, none⟩) := (show ua.eval (.tmp 1) = _ from hd 1 (by decide)).trans (F3.get (t := 1) rfl)
  exact zp (za rfl) (.pointer (some ⟨g2, 3, none⟩)) (y_fa (off := 3) rfl e1 (by kernel_rfl) rfl) rfl (M.sub ⟨rfl, rfl, rfl, rfl, rfl, rfl, rfl, trivial⟩)
 ·intro ua uw SV pV M0 hk hn hd
  have M : Mx none w uw _ := M0
  clear M0
  obtain ⟨s37, f43, q43⟩ := (show SV 37 = true ∧ ua.eval (.tmp 43) = pV 37 ∧ stE _ 37 (pV 37) from hd 43 (by decide))
  have e43 : ua.eval (.tmp 43) = .pointer (some ⟨g2, 3, none⟩) := f43.trans q43
  exact zp (za rfl) (.int .i64 m.e) (y_ld1 _ _ rfl e43 (M.blk (k := 5) rfl) rfl Try.underlying24 rfl) rfl (M.sub ⟨rfl, rfl, rfl, rfl, rfl, rfl, rfl, trivial⟩)
 ·intro ua uw SV pV M0 hk hn hd
  have M : Mx none w uw _ := M0
  clear M0
  obtain ⟨s38, f44, q44⟩ := (show SV 38 = true ∧ ua.eval (.tmp 44) = pV 38 ∧ stE _ 38 (pV 38) from hd 44 (by decide))
  have e44 : ua.eval (.tmp 44) = .int .i64 m.e := f44.trans q44
  exact zp (za rfl) (.bool bf11) (y_neI _ _ _ _ rfl e44 rfl Try.underlying24 ((fl_11 m).trans hf11)) rfl (M.sub ⟨rfl, rfl, rfl, rfl, rfl, rfl, rfl, trivial⟩)
 ·intro ua uw SV pV M0 hk hn hd
  have M : Mx none w uw _ := M0
  clear M0
  obtain ⟨s2, f8, q8⟩ := (show SV 2 = true ∧ ua.eval (.tmp 8) = pV 2 ∧ stE _ 2 (pV 2) from hd 8 (by decide))
  have e8 : ua.eval (.tmp 8) = .bool bf1 := f8.trans q8
  obtain ⟨s5, f11, q11⟩ := (show SV 5 = true ∧ ua.eval (.tmp 11) = pV 5 ∧ stE _ 5 (pV 5) from hd 11 (by decide))
  have e11 : ua.eval (.tmp 11) = .bool bf2 := f11.trans q11
  obtain ⟨s9, f15, q15⟩ := (show SV 9 = true ∧ ua.eval (.tmp 15) = pV 9 ∧ stE _ 9 (pV 9) from hd 15 (by decide))
  have e15 : ua.eval (.tmp 15) = .bool bf3 := f15.trans q15
  obtain ⟨s13, f19, q19⟩ := (show SV 13 = true ∧ ua.eval (.tmp 19) = pV 13 ∧ stE _ 13 (pV 13) from hd 19 (by decide))
  have e19 : ua.eval (.tmp 19) = .bool bf4 := f19.trans q19
  obtain ⟨s17, f23, q23⟩ := (show SV 17 = true ∧ ua.eval (.tmp 23) = pV 17 ∧ stE _ 17 (pV 17) from hd 23 (by decide))
  have e23 : ua.eval (.tmp 23) = .bool bf5 := f23.trans q23
  obtain ⟨s21, f27, q27⟩ := (show SV 21 = true ∧ ua.eval (.tmp 27) = pV 21 ∧ stE _ 21 (pV 21) from hd 27 (by decide))
  have e27 : ua.eval (.tmp 27) = .bool bf6 := f27.trans q27
  obtain ⟨s25, f31, q31⟩ := (show SV 25 = true ∧ ua.eval (.tmp 31) = pV 25 ∧ stE _ 25 (pV 25) from hd 31 (by decide))
  have e31 : ua.eval (.tmp 31) = .bool bf7 := f31.trans q31
  obtain ⟨s29, f35, q35⟩ := (show SV 29 = true ∧ ua.eval (.tmp 35) = pV 29 ∧ stE _ 29 (pV 29) from hd 35 (by decide))
  have e35 : ua.eval (.tmp 35) = .bool bf8 := f35.trans q35
  obtain ⟨s33, f39, q39⟩ := (show SV 33 = true ∧ ua.eval (.tmp 39) = pV 33 ∧ stE _ 33 (pV 33) from hd 39 (by decide))
  have e39 : ua.eval (.tmp 39) = .bool bf9 := f39.trans q39
  obtain ⟨s36, f42, q42⟩ := (show SV 36 = true ∧ ua.eval (.tmp 42) = pV 36 ∧ stE _ 36 (pV 36) from hd 42 (by decide))
  have e42 : ua.eval (.tmp 42) = .bool bf10 := f42.trans q42
  obtain ⟨s39, f45, q45⟩ := (show SV 39 = true ∧ ua.eval (.tmp 45) = pV 39 ∧ stE _ 39 (pV 39) from hd 45 (by decide))
  have e45 : ua.eval (.tmp 45) = .bool bf11 := f45.trans q45
  exact zp (za rfl) _ (y_litG 110 4 (s := 1) (zv := .bool false) Try.underlying110 (by kernel_rfl) (by kernel_rfl) rfl (#[.bool false, .bool bf1, .bool bf2, .bool bf3, .bool bf4, .bool bf5, .bool bf6, .bool bf7, .bool bf8, .bool bf9, .bool bf10, .bool bf11]) (by decide) (by decide) (by simp only [List.map_toArray, List.map_cons, List.map_nil, e8, e11, e15, e19, e23, e27, e31, e35, e39, e42, e45]; kernel_rfl)) trivial ((M.allocS 6 4 12 (#[.bool false, .bool bf1, .bool bf2, .bool bf3, .bool bf4, .bool bf5, .bool bf6, .bool bf7, .bool bf8, .bool bf9, .bool bf10, .bool bf11])).sub ⟨rfl, rfl, rfl, rfl, rfl, rfl, rfl, trivial⟩)
 intro p5 a5 w5 M5 G5 y5
 obtain ⟨-, -, -, -, -, -, -, -, -, -, -, -, -, -, -, -, -, -, -, -, -, -, -, -, -, -, -, -, -, -, -, -, -, -, -, -, -, -, -, -, q40, -⟩ := y5
 replace M5 : Mx _ _ w5 [(0, bytR m.l5 V.v5), (1, bytR m.l6 V.v6), (2, bytR m.l7 V.v7), (3, bytR m.l8 V.v8), (4, bytR m.l9 V.v9), (5, blkR g2 29 (msgA m V)), (6, condR true (slcR 4 12 (#[.bool false, .bool bf1, .bool bf2, .bool bf3, .bool bf4, .bool bf5, .bool bf6, .bool bf7, .bool bf8, .bool bf9, .bool bf10, .bool bf11]) (p5 40)))] := M5
 simp only [List.take_succ_cons, List.take_zero, layV, Nat.zero_add, Nat.reduceAdd] at G5
 obtain ⟨gs6x5, rs6⟩ := (show ∃ g, p5 40 = .slice (some ⟨g, 0, none⟩) 12 12 from (M5.at_ 6 _ rfl).elim fun g h => ⟨g, h.1⟩)
 have M5_6 := M5.slcB (k := 6) (g := gs6x5) rfl rs6
 clear M5
 rw [rs6] at G5
 refine rm rfl G5 fun _ F6 => ?_
 refine hK4 _ _ (zS fun _ hK7 => ?_)
 refine zR ?_
 refine rm rfl F6 fun _ F8 => ?_
 refine hK7 _ _ (zS fun _ hK9 => ?_)
 refine zT fun _ hK10 => ?_
 refine rm rfl F8 fun _ F11 => ?_
 refine hK10 _ _ (wp_block ?_)
 replace M5_6 : Mx none w w5 [(6, blkR gs6x5 4 (flagsA m))] := (by rw [show flagsA m = #[.bool false, .bool bf1, .bool bf2, .bool bf3, .bool bf4, .bool bf5, .bool bf6, .bool bf7, .bool bf8, .bool bf9, .bool bf10, .bool bf11] by rw [flagsA, hf1, hf2, hf3, hf4, hf5, hf6, hf7, hf8, hf9, hf10, hf11]]; exact M5_6.sub ⟨rfl, trivial⟩)
 refine zzb (α := Nat) (n := 63) (G := none) (w0 := w) (fun x => [(0, .agg (msgA m V)), (1, .pointer (some ⟨g2, 0, none⟩)), (2, .int .i64 0), (46, .slice (some ⟨gs6x5, 0, none⟩) 12 12), (3, .slice (some ⟨gs6x5, 0, none⟩) 12 12), (5, .int .i64 (x : Int)), (4, .int .i64 ((thN (zqa m) x : Nat) : Int))]) (fun x => [(6, blkR gs6x5 4 (flagsA m))]) (fun k x => k = 12 - x ∧ (x ≤ 12)) _ 0 ⟨rfl, (by omega)⟩ (F11.sub ⟨rfl, rfl, rfl, rfl, rfl, rfl, rfl, trivial⟩) (M5_6.sub ⟨rfl, trivial⟩) ?_
 clear F11 M5_6
 rintro k13 jn a13 w13 K13 ⟨ek13, I13⟩ F13 M13 hK13
 replace F13 : Fx 63 a13 [(0, .agg (msgA m V)), (1, .pointer (some ⟨g2, 0, none⟩)), (2, .int .i64 0), (46, .slice (some ⟨gs6x5, 0, none⟩) 12 12), (3, .slice (some ⟨gs6x5, 0, none⟩) 12 12), (5, .int .i64 (jn : Int)), (4, .int .i64 ((thN (zqa m) jn : Nat) : Int))] := F13
 replace M13 : Mx _ _ w13 [(6, blkR gs6x5 4 (flagsA m))] := M13
 replace I13 : jn ≤ 12 := I13
 replace ek13 : k13 = 12 - jn := ek13
 by_cases hlt : jn < 12
 rotate_left
 ·obtain rfl : jn = 12 := by omega
  refine zS fun _ hK38 => zS fun _ hK39 => ?_
  refine zR ?_
  refine rm rfl F13 fun _ F40 => ?_
  refine rm rfl F40 fun _ F41 => ?_
  refine rn rfl rfl F41 rfl (.int .i64 12) (y_lnG 110 Try.underlying110 _ rfl (F41.get rfl) rfl) fun _ F42 => ?_
  refine rn rfl rfl F42 rfl (.bool false) (zva _ _ _ _ rfl (F42.get rfl) (F42.get rfl) (decide_eq_false (by decide))) fun _ F43 => ?_
  refine hK39 _ _ (wp_cond_false (F43.get rfl) ?_)
  refine wp_exit ?_
  simp only [Exit.then, Exit.inBlock, ↓reduceIte, Nat.reduceEqDiff]
  refine hK9 _ _ (zS fun _ hK44 => ?_)
  refine zR ?_
  refine rm rfl F43 fun _ F45 => ?_
  refine rm rfl F45 fun _ F46 => ?_
  refine hK44 _ _ (wp_ret ?_)
  try simp only [Exit.then, Exit.inBlock, Exit.jump]
  exact bodyPost_ret (res1 rfl (F46.get rfl)) F46.defers ⟨rfl, M13.below⟩
 obtain ⟨bj, hbj⟩ : ∃ b, zqa m jn = b := ⟨_, rfl⟩
 have hcell := flags_at m hlt
 rw [hbj] at hcell
 have hth := thN_next (zqa m) jn (by omega)
 rw [hbj] at hth
 refine zS fun _ hK14 => zS fun _ hK15 => ?_
 refine zR ?_
 refine rm rfl F13 fun _ F16 => ?_
 refine rm rfl F16 fun _ F17 => ?_
 refine rn rfl rfl F17 rfl (.int .i64 12) (y_lnG 110 Try.underlying110 _ rfl (F17.get rfl) rfl) fun _ F18 => ?_
 refine rn rfl rfl F18 rfl (.bool true) (zva _ _ _ _ rfl (F18.get rfl) (F18.get rfl) (decide_eq_true (show (jn : Int) < 12 by omega))) fun _ F19 => ?_
 refine hK15 _ _ (wp_cond_true (F19.get rfl) ?_)
 refine wp_skip ?_
 refine hK14 _ _ (zS fun _ hK20 => ?_)
 refine wp_block ?_
 refine zT fun _ hK21 => ?_
 refine rm rfl F19 fun _ F22 => ?_
 refine rm rfl F22 fun _ F23 => ?_
 refine rn rfl rfl F23 rfl (.pointer (some ⟨gs6x5, (0 + jn * 1), none⟩)) (y_ixG 110 (s := 1) Try.underlying110 (by kernel_rfl) _ _ rfl (F23.get rfl) (F23.get rfl) rfl hlt rfl) fun _ F24 => ?_
 refine rn rfl rfl F24 rfl (.bool bj) (y_ld1 _ _ rfl (F24.get rfl) (M13.blk (k := 6) rfl) (by rw [Nat.zero_add, Nat.mul_one]; exact hcell) Try.underlying4 rfl) fun _ F25 => ?_
 refine hK21 _ _ ?_
 cases bj
 ·refine wp_cond_false (F25.get (t := 56) rfl) ?_
  refine wp_skip ?_
  refine hK20 _ _ (zR ?_)
  refine rm rfl F25 fun _ F26 => ?_
  refine rn rfl rfl F26 rfl (.int .i64 ((jn + 1 : Nat) : Int)) (z4 _ _ _ _ rfl (F26.get rfl) rfl (by omega) (by omega)) fun _ F27 => ?_
  refine rm rfl F27 fun _ F28 => ?_
  have hno : thN (zqa m) (jn + 1) = thN (zqa m) jn := if_neg (by rw [hbj]; exact Bool.false_ne_true)
  subst ek13
  exact hK13 _ (jn + 1) _ _ (by omega) ⟨rfl, (by omega)⟩ (F28.sub ⟨rfl, rfl, rfl, rfl, rfl, rfl, (by rw [hno]; rfl), trivial⟩) (M13.sub ⟨rfl, trivial⟩)
 refine wp_cond_true (F25.get (t := 56) rfl) ?_
 refine zR ?_
 refine rm rfl F25 fun _ F29 => ?_
 refine rm rfl F29 fun _ F30 => ?_
 refine rn rfl rfl F30 rfl (.int .u64 (jn : Int)) (z9a _ _ _ rfl (F30.get rfl) Try.underlying3 Try.underlying40 (by rw [IntKind.wrap_u64]; omega)) fun _ F31 => ?_
 refine rn rfl rfl F31 rfl (.int .i64 ((2 ^ jn : Nat) : Int)) (y_shlI _ _ _ _ rfl rfl (F31.get rfl) (by show (0 : Int) ≤ (jn : Int) ∧ (jn : Int) < 64; omega) (one_shl hlt)) fun _ F32 => ?_
 refine rn rfl rfl F32 rfl (.int .i64 ((thN (zqa m) (jn + 1) : Nat) : Int)) (y_orU _ _ _ _ rfl (F32.get rfl) (F32.get rfl) (hth rfl)) fun _ F33 => ?_
 refine rm rfl F33 fun _ F34 => ?_
 refine hK20 _ _ (zR ?_)
 refine rm rfl F34 fun _ F35 => ?_
 refine rn rfl rfl F35 rfl (.int .i64 ((jn + 1 : Nat) : Int)) (z4 _ _ _ _ rfl (F35.get rfl) rfl (by omega) (by omega)) fun _ F36 => ?_
 refine rm rfl F36 fun _ F37 => ?_
 subst ek13
 exact hK13 _ (jn + 1) _ _ (by omega) ⟨rfl, (by omega)⟩ (F37.sub ⟨rfl, rfl, rfl, rfl, rfl, rfl, rfl, trivial⟩) (M13.sub ⟨rfl, trivial⟩)
end Go.Proofs.Ytlbkogdmojlpmaa
namespace Go.Proofs.Ytlbkogdmojlpmaa
open Go.ChangeShapes Go.WideShapes Go.ChangeAt Go.RowKit
def orR (L : List Nat) : Int := L.foldl (fun s n => bits .or .i64 s ((2 ^ n : Nat) : Int)) 0
theorem orR_zero (L : List Nat) : orR (L.take 0) = 0 := rfl
theorem orR_all (L : List Nat) : orR (L.take L.length) = orR L := by rw [List.take_length]
theorem orR_succ {L : List Nat} {j x : Nat} (h : L[j]? = some x) : bits .or .i64 (orR (L.take j)) ((2 ^ x : Nat) : Int) = orR (L.take (j + 1)) := by
  unfold orR
  rw [List.take_add_one, h]
  simp
theorem rofI_any (g : Nat) (L : List Nat) (hL : ∀ x ∈ L, x < 12) (hm : L.length ≤ 1000) (w : World) (hg : w.heap[g]? = some (.cells (L.map ivN).toArray 3 (0, 0))) :
  Calls Try.prog 84 #[.slice (some ⟨g, 0, none⟩) L.length L.length] w fun e w' => e = .returned (.int .i64 (orR L)) ∧ Below w.heap.size w w' := by
 have h0 := orR_zero L
 have hall := orR_all L
 refine zg (args := [.slice (some ⟨g, 0, none⟩) L.length L.length]) 20 Try.func84 rfl rfl rfl ?_
 intro fa F
 have M := Mx.start w
 replace M := M.argO 0 hg (fun b e => by cases e)
 refine zT fun _ hK1 => ?_
 refine rm rfl F fun _ F2 => ?_
 refine hK1 _ _ (zS fun _ hK3 => ?_)
 refine zR ?_
 refine rm rfl F2 fun _ F4 => ?_
 refine hK3 _ _ (zS fun _ hK5 => ?_)
 refine zT fun _ hK6 => ?_
 refine rm rfl F4 fun _ F7 => ?_
 refine hK6 _ _ (wp_block ?_)
 refine zzb (α := Nat) (n := 20) (G := none) (w0 := w) (fun x => [(0, .slice (some ⟨g, 0, none⟩) L.length L.length), (2, .int .i64 0), (4, .int .i64 (x : Int)), (3, .int .i64 (orR (L.take x)))]) (fun x => [(0, blkO g 3 ((L.map ivN).toArray))]) (fun k x => k = L.length - x ∧ (x ≤ L.length)) _ 0 ⟨rfl, (Nat.zero_le _)⟩ (F7.sub ⟨rfl, rfl, rfl, (by rw [h0]; rfl), trivial⟩) (M.sub ⟨rfl, trivial⟩) ?_
 clear F7 M
 rintro k8 jn a8 w8 K8 ⟨ek8, I8⟩ F8 M8 hK8
 replace F8 : Fx 20 a8 [(0, .slice (some ⟨g, 0, none⟩) L.length L.length), (2, .int .i64 0), (4, .int .i64 (jn : Int)), (3, .int .i64 (orR (L.take jn)))] := F8
 replace M8 : Mx _ _ w8 [(0, blkO g 3 ((L.map ivN).toArray))] := M8
 replace I8 : jn ≤ L.length := I8
 replace ek8 : k8 = L.length - jn := ek8
 by_cases hlt : jn < L.length
 rotate_left
 ·obtain rfl : jn = L.length := by omega
  refine zS fun _ hK28 => zS fun _ hK29 => ?_
  refine zR ?_
  refine rm rfl F8 fun _ F30 => ?_
  refine rm rfl F30 fun _ F31 => ?_
  refine rn rfl rfl F31 rfl (.int .i64 (L.length : Int)) (y_lnG 38 Try.underlying38 _ rfl (F31.get rfl) rfl) fun _ F32 => ?_
  refine rn rfl rfl F32 rfl (.bool false) (zva _ _ _ _ rfl (F32.get rfl) (F32.get rfl) (decide_eq_false (Int.lt_irrefl _))) fun _ F33 => ?_
  refine hK29 _ _ (wp_cond_false (F33.get rfl) ?_)
  refine wp_exit ?_
  simp only [Exit.then, Exit.inBlock, ↓reduceIte, Nat.reduceEqDiff]
  refine hK5 _ _ (zS fun _ hK34 => ?_)
  refine zR ?_
  refine rm rfl F33 fun _ F35 => ?_
  refine rm rfl F35 fun _ F36 => ?_
  refine hK34 _ _ (wp_ret ?_)
  try simp only [Exit.then, Exit.inBlock, Exit.jump]
  exact bodyPost_ret (res1 rfl (F36.get rfl)) F36.defers ⟨by rw [hall], M8.below⟩
 obtain ⟨x, hx⟩ : ∃ x, L[jn]? = some x := ⟨_, List.getElem?_eq_getElem hlt⟩
 have hx64 : x < 12 := hL x (List.mem_of_getElem? hx)
 have hor := orR_succ hx
 refine zS fun _ hK9 => zS fun _ hK10 => ?_
 refine zR ?_
 refine rm rfl F8 fun _ F11 => ?_
 refine rm rfl F11 fun _ F12 => ?_
 refine rn rfl rfl F12 rfl (.int .i64 (L.length : Int)) (y_lnG 38 Try.underlying38 _ rfl (F12.get rfl) rfl) fun _ F13 => ?_
 refine rn rfl rfl F13 rfl (.bool true) (zva _ _ _ _ rfl (F13.get rfl) (F13.get rfl) (decide_eq_true (show (jn : Int) < (L.length : Int) by omega))) fun _ F14 => ?_
 refine hK10 _ _ (wp_cond_true (F14.get rfl) ?_)
 refine wp_skip ?_
 refine hK9 _ _ (zS fun _ hK15 => ?_)
 refine wp_block ?_
 refine zR ?_
 refine rm rfl F14 fun _ F16 => ?_
 refine rm rfl F16 fun _ F17 => ?_
 refine rm rfl F17 fun _ F18 => ?_
 refine rn rfl rfl F18 rfl (.pointer (some ⟨g, (0 + jn * 1), none⟩)) (y_ixG 38 (s := 1) Try.underlying38 (by kernel_rfl) _ _ rfl (F18.get rfl) (F18.get rfl) rfl hlt rfl) fun _ F19 => ?_
 refine rn rfl rfl F19 rfl (.int .i64 (x : Int)) (y_ld1 _ _ rfl (F19.get rfl) (M8.roB (k := 0) rfl) (by rw [Nat.zero_add, Nat.mul_one]; exact ivN_at hx) Try.underlying3 rfl) fun _ F20 => ?_
 refine rn rfl rfl F20 rfl (.int .u64 (x : Int)) (z9a _ _ _ rfl (F20.get rfl) Try.underlying3 Try.underlying40 (by rw [IntKind.wrap_u64]; omega)) fun _ F21 => ?_
 refine rn rfl rfl F21 rfl (.int .i64 ((2 ^ x : Nat) : Int)) (y_shlI _ _ _ _ rfl rfl (F21.get rfl) (by show (0 : Int) ≤ (x : Int) ∧ (x : Int) < 64; omega) (one_shl hx64)) fun _ F22 => ?_
 refine rn rfl rfl F22 rfl (.int .i64 (orR (L.take (jn + 1)))) (y_orU _ _ _ _ rfl (F22.get rfl) (F22.get rfl) hor) fun _ F23 => ?_
 refine rm rfl F23 fun _ F24 => ?_
 refine hK15 _ _ (zR ?_)
 refine rm rfl F24 fun _ F25 => ?_
 refine rn rfl rfl F25 rfl (.int .i64 ((jn + 1 : Nat) : Int)) (z4 _ _ _ _ rfl (F25.get rfl) rfl (by omega) (by omega)) fun _ F26 => ?_
 refine rm rfl F26 fun _ F27 => ?_
 subst ek8
 exact hK8 _ (jn + 1) _ _ (by omega) ⟨rfl, (by omega)⟩ (F27.sub ⟨rfl, rfl, rfl, rfl, trivial⟩) (M8.sub ⟨rfl, trivial⟩)
theorem zxb (g : Nat) (L : List Nat) (z : Int) (hL : ∀ x ∈ L, x < 12) (hm : L.length ≤ 1000) (hz : orR L = z) {n : Nat} (hn : L.length = n) {c : Array Value} (hc : (L.map ivN).toArray = c) (w : World) (hg : w.heap[g]? = some (.cells c 3 (0, 0))) : Calls Try.prog 84 #[.slice (some ⟨g, 0, none⟩) n n] w fun e w' => e = .returned (.int .i64 z) ∧ Below w.heap.size w w' := by
  subst hz hn hc
  exact rofI_any g L hL hm w hg
theorem zhb (m : MsgN) (V : MsgV) (w : World) (hm : MsgIs w m V) :
  Calls Try.prog 58 #[.agg (msgA m V)] w fun e w' => e = .returned (.int .i64 (zha m)) ∧ Below w.heap.size w w' := by
 refine zg (args := [.agg (msgA m V)]) 61 Try.func58 rfl rfl rfl ?_
 intro fa F
 have M := Mx.start w
 replace M := M.argB 0 hm.h5 (fun g e => by cases e)
 replace M := M.argB 1 hm.h6 (fun g e => by cases e)
 replace M := M.argB 2 hm.h7 (fun g e => by cases e)
 replace M := M.argB 3 hm.h8 (fun g e => by cases e)
 replace M := M.argB 4 hm.h9 (fun g e => by cases e)
 refine zT fun _ hK1 => ?_
 refine zh (za rfl) rfl F rfl M 5 (t := 29) (c := msgA m V) (by unfold execOp; simp only [(F.get (t := 0) rfl)]; kernel_rfl) ?_
 intro g2 a2 w2 F2 M2
 clear F M
 refine rm rfl F2 fun _ F3 => ?_
 refine hK1 _ _ (zS fun _ hK4 => ?_)
 refine zT fun _ hK5 => ?_
 refine zB 2 [(1, .pointer (some ⟨g2, 0, none⟩)), (2, .int .i64 0), (4, .int .i64 m.k)] [0] (zi (M2.blk (k := 5) rfl) dnil) [g2] F3 fun _ F6 => ?_
 refine hK5 _ _ (wp_block ?_)
 refine zT fun _ hK7 => ?_
 by_cases h8 : m.k = 1
 ·refine rn rfl rfl F6 rfl (.bool true) (zl _ _ _ _ rfl (F6.get rfl) rfl Try.underlying3 (zia h8)) fun _ F9 => ?_
  refine rm rfl F9 fun _ F10 => ?_
  refine hK7 _ _ (wp_cond_true (F10.get rfl) ?_)
  refine zS fun _ hK11 => zS fun _ hK12 => ?_
  refine zR ?_
  refine zB 2 [(2, .int .i64 0), (8, .int .i64 m.p)] [0] (zi (M2.blk (k := 5) rfl) dnil) [g2] F10 fun _ F13 => ?_
  by_cases h14 : m.p = 2
  ·refine rn rfl rfl F13 rfl (.bool true) (zl _ _ _ _ rfl (F13.get rfl) rfl Try.underlying3 (zia h14)) fun _ F15 => ?_
   refine hK12 _ _ (wp_cond_true (F15.get rfl) ?_)
   refine zT fun _ hK16 => ?_
   refine zja (za rfl) rfl F15 rfl M2 6 (t := 3) (c := #[.int .i64 1, .int .i64 2, .int .i64 3, .int .i64 4]) (k := 4) (m := 4) (z5a rfl #[.int .i64 1, .int .i64 2, .int .i64 3, .int .i64 4] rfl (by decide) (by decide) (by simp only [List.map_toArray, List.map_cons, List.map_nil]; kernel_rfl)) ?_
   intro g17 a17 w17 F17 M17
   clear F15 M2
   refine zd (za rfl) rfl F17 rfl rfl (zE Try.func84 rfl) #[.slice (some ⟨g17, 0, none⟩) 4 4] (zk (F17.get rfl)) (zf (zxb g17 [1, 2, 3, 4] 30 (by decide) (by decide) (by decide) rfl rfl w17 (M17.blk (k := 6) rfl))) ?_
   rintro _ w18 a18 ⟨rfl, b18⟩ F18
   have M18 := M17.step b18
   refine rm rfl F18 fun _ F19 => ?_
   refine hK16 _ _ (wp_ret ?_)
   try simp only [Exit.then, Exit.inBlock, Exit.jump]
   exact bodyPost_ret (res1 rfl (F19.get rfl)) F19.defers ⟨by rw [show zha m = 30 from by unfold zha; simp only [h8, h14, if_true, if_false, or_self, or_false, false_or, or_true, true_or, Int.reduceEq, if_pos, if_neg, ↓reduceIte]], M18.below⟩
  refine rn rfl rfl F13 rfl (.bool false) (zl _ _ _ _ rfl (F13.get rfl) rfl Try.underlying3 (zn h14)) fun _ F20 => ?_
  refine hK12 _ _ (wp_cond_false (F20.get rfl) ?_)
  refine wp_skip ?_
  refine hK11 _ _ (zS fun _ hK21 => ?_)
  refine zR ?_
  refine zja (za rfl) rfl F20 rfl M2 6 (t := 3) (c := #[.int .i64 1, .int .i64 2, .int .i64 3]) (k := 3) (m := 3) (z5a rfl #[.int .i64 1, .int .i64 2, .int .i64 3] rfl (by decide) (by decide) (by simp only [List.map_toArray, List.map_cons, List.map_nil]; kernel_rfl)) ?_
  intro g22 a22 w22 F22 M22
  clear F20 M2
  refine zd (za rfl) rfl F22 rfl rfl (zE Try.func84 rfl) #[.slice (some ⟨g22, 0, none⟩) 3 3] (zk (F22.get rfl)) (zf (zxb g22 [1, 2, 3] 14 (by decide) (by decide) (by decide) rfl rfl w22 (M22.blk (k := 6) rfl))) ?_
  rintro _ w23 a23 ⟨rfl, b23⟩ F23
  have M23 := M22.step b23
  refine rm rfl F23 fun _ F24 => ?_
  refine hK21 _ _ (wp_ret ?_)
  try simp only [Exit.then, Exit.inBlock, Exit.jump]
  exact bodyPost_ret (res1 rfl (F24.get rfl)) F24.defers ⟨by rw [show zha m = 14 from by unfold zha; simp only [h8, h14, if_true, if_false, or_self, or_false, false_or, or_true, true_or, Int.reduceEq, if_pos, if_neg, ↓reduceIte]], M23.below⟩
 refine rn rfl rfl F6 rfl (.bool false) (zl _ _ _ _ rfl (F6.get rfl) rfl Try.underlying3 (zn h8)) fun _ F25 => ?_
 refine rm rfl F25 fun _ F26 => ?_
 refine hK7 _ _ (wp_cond_false (F26.get rfl) ?_)
 refine zT fun _ hK27 => ?_
 by_cases h28 : m.k = 2
 ·refine rn rfl rfl F26 rfl (.bool true) (zl _ _ _ _ rfl (F26.get rfl) rfl Try.underlying3 (zia h28)) fun _ F29 => ?_
  refine rm rfl F29 fun _ F30 => ?_
  refine hK27 _ _ (wp_cond_true (F30.get rfl) ?_)
  refine zS fun _ hK31 => zS fun _ hK32 => ?_
  refine zR ?_
  refine zB 2 [(2, .int .i64 0), (17, .int .i64 m.p)] [0] (zi (M2.blk (k := 5) rfl) dnil) [g2] F30 fun _ F33 => ?_
  by_cases h34 : m.p = 2
  ·refine rn rfl rfl F33 rfl (.bool true) (zl _ _ _ _ rfl (F33.get rfl) rfl Try.underlying3 (zia h34)) fun _ F35 => ?_
   refine hK32 _ _ (wp_cond_true (F35.get rfl) ?_)
   refine zT fun _ hK36 => ?_
   refine zja (za rfl) rfl F35 rfl M2 6 (t := 3) (c := #[.int .i64 1, .int .i64 3, .int .i64 4, .int .i64 6]) (k := 4) (m := 4) (z5a rfl #[.int .i64 1, .int .i64 3, .int .i64 4, .int .i64 6] rfl (by decide) (by decide) (by simp only [List.map_toArray, List.map_cons, List.map_nil]; kernel_rfl)) ?_
   intro g37 a37 w37 F37 M37
   clear F35 M2
   refine zd (za rfl) rfl F37 rfl rfl (zE Try.func84 rfl) #[.slice (some ⟨g37, 0, none⟩) 4 4] (zk (F37.get rfl)) (zf (zxb g37 [1, 3, 4, 6] 90 (by decide) (by decide) (by decide) rfl rfl w37 (M37.blk (k := 6) rfl))) ?_
   rintro _ w38 a38 ⟨rfl, b38⟩ F38
   have M38 := M37.step b38
   refine rm rfl F38 fun _ F39 => ?_
   refine hK36 _ _ (wp_ret ?_)
   try simp only [Exit.then, Exit.inBlock, Exit.jump]
   exact bodyPost_ret (res1 rfl (F39.get rfl)) F39.defers ⟨by rw [show zha m = 90 from by unfold zha; simp only [h8, h28, h34, if_true, if_false, or_self, or_false, false_or, or_true, true_or, Int.reduceEq, if_pos, if_neg, ↓reduceIte]], M38.below⟩
  refine rn rfl rfl F33 rfl (.bool false) (zl _ _ _ _ rfl (F33.get rfl) rfl Try.underlying3 (zn h34)) fun _ F40 => ?_
  refine hK32 _ _ (wp_cond_false (F40.get rfl) ?_)
  refine wp_skip ?_
  refine hK31 _ _ (zS fun _ hK41 => ?_)
  refine zR ?_
  refine zja (za rfl) rfl F40 rfl M2 6 (t := 3) (c := #[.int .i64 1, .int .i64 4, .int .i64 5]) (k := 3) (m := 3) (z5a rfl #[.int .i64 1, .int .i64 4, .int .i64 5] rfl (by decide) (by decide) (by simp only [List.map_toArray, List.map_cons, List.map_nil]; kernel_rfl)) ?_
  intro g42 a42 w42 F42 M42
  clear F40 M2
  refine zd (za rfl) rfl F42 rfl rfl (zE Try.func84 rfl) #[.slice (some ⟨g42, 0, none⟩) 3 3] (zk (F42.get rfl)) (zf (zxb g42 [1, 4, 5] 50 (by decide) (by decide) (by decide) rfl rfl w42 (M42.blk (k := 6) rfl))) ?_
  rintro _ w43 a43 ⟨rfl, b43⟩ F43
  have M43 := M42.step b43
  refine rm rfl F43 fun _ F44 => ?_
  refine hK41 _ _ (wp_ret ?_)
  try simp only [Exit.then, Exit.inBlock, Exit.jump]
  exact bodyPost_ret (res1 rfl (F44.get rfl)) F44.defers ⟨by rw [show zha m = 50 from by unfold zha; simp only [h8, h28, h34, if_true, if_false, or_self, or_false, false_or, or_true, true_or, Int.reduceEq, if_pos, if_neg, ↓reduceIte]], M43.below⟩
 refine rn rfl rfl F26 rfl (.bool false) (zl _ _ _ _ rfl (F26.get rfl) rfl Try.underlying3 (zn h28)) fun _ F45 => ?_
 refine rm rfl F45 fun _ F46 => ?_
 refine hK27 _ _ (wp_cond_false (F46.get rfl) ?_)
 refine zT fun _ hK47 => ?_
 by_cases h48 : m.k = 3
 ·refine rn rfl rfl F46 rfl (.bool true) (zl _ _ _ _ rfl (F46.get rfl) rfl Try.underlying3 (zia h48)) fun _ F49 => ?_
  refine rm rfl F49 fun _ F50 => ?_
  refine hK47 _ _ (wp_cond_true (F50.get rfl) ?_)
  refine zT fun _ hK51 => ?_
  refine zja (za rfl) rfl F50 rfl M2 6 (t := 3) (c := #[.int .i64 7]) (k := 1) (m := 1) (z5a rfl #[.int .i64 7] rfl (by decide) (by decide) (by simp only [List.map_toArray, List.map_cons, List.map_nil]; kernel_rfl)) ?_
  intro g52 a52 w52 F52 M52
  clear F50 M2
  refine zd (za rfl) rfl F52 rfl rfl (zE Try.func84 rfl) #[.slice (some ⟨g52, 0, none⟩) 1 1] (zk (F52.get rfl)) (zf (zxb g52 [7] 128 (by decide) (by decide) (by decide) rfl rfl w52 (M52.blk (k := 6) rfl))) ?_
  rintro _ w53 a53 ⟨rfl, b53⟩ F53
  have M53 := M52.step b53
  refine rm rfl F53 fun _ F54 => ?_
  refine hK51 _ _ (wp_ret ?_)
  try simp only [Exit.then, Exit.inBlock, Exit.jump]
  exact bodyPost_ret (res1 rfl (F54.get rfl)) F54.defers ⟨by rw [show zha m = 128 from by unfold zha; simp only [h8, h28, h48, if_true, if_false, or_self, or_false, false_or, or_true, true_or, Int.reduceEq, if_pos, if_neg, ↓reduceIte]], M53.below⟩
 refine rn rfl rfl F46 rfl (.bool false) (zl _ _ _ _ rfl (F46.get rfl) rfl Try.underlying3 (zn h48)) fun _ F55 => ?_
 refine rm rfl F55 fun _ F56 => ?_
 refine hK47 _ _ (wp_cond_false (F56.get rfl) ?_)
 refine zT fun _ hK57 => ?_
 by_cases h58 : m.k = 4
 ·refine rn rfl rfl F56 rfl (.bool true) (zl _ _ _ _ rfl (F56.get rfl) rfl Try.underlying3 (zia h58)) fun _ F59 => ?_
  refine rm rfl F59 fun _ F60 => ?_
  refine hK57 _ _ (wp_cond_true (F60.get rfl) ?_)
  refine zS fun _ hK61 => zS fun _ hK62 => ?_
  refine zR ?_
  refine zB 2 [(2, .int .i64 0), (30, V.v7)] [0] (zi (M2.blk (k := 5) rfl) dnil) [g2] F60 fun _ F63 => ?_
  refine rn rfl rfl F63 rfl (.int .i64 (m.l7.length : Int)) (zca _ rfl (F63.get rfl) (M2.isb (k := 2) rfl) rfl) fun _ F64 => ?_
  by_cases h65 : 0 < (m.l7.length : Int)
  ·refine rn rfl rfl F64 rfl (.bool true) (z0a _ _ _ _ rfl (F64.get rfl) rfl (decide_eq_true h65)) fun _ F66 => ?_
   refine hK62 _ _ (wp_cond_true (F66.get rfl) ?_)
   refine zT fun _ hK67 => ?_
   refine zja (za rfl) rfl F66 rfl M2 6 (t := 3) (c := #[.int .i64 7, .int .i64 8]) (k := 2) (m := 2) (z5a rfl #[.int .i64 7, .int .i64 8] rfl (by decide) (by decide) (by simp only [List.map_toArray, List.map_cons, List.map_nil]; kernel_rfl)) ?_
   intro g68 a68 w68 F68 M68
   clear F66 M2
   refine zd (za rfl) rfl F68 rfl rfl (zE Try.func84 rfl) #[.slice (some ⟨g68, 0, none⟩) 2 2] (zk (F68.get rfl)) (zf (zxb g68 [7, 8] 384 (by decide) (by decide) (by decide) rfl rfl w68 (M68.blk (k := 6) rfl))) ?_
   rintro _ w69 a69 ⟨rfl, b69⟩ F69
   have M69 := M68.step b69
   refine rm rfl F69 fun _ F70 => ?_
   refine hK67 _ _ (wp_ret ?_)
   try simp only [Exit.then, Exit.inBlock, Exit.jump]
   exact bodyPost_ret (res1 rfl (F70.get rfl)) F70.defers ⟨by rw [show zha m = 384 from by unfold zha; simp only [h8, h28, h48, h58, h65, if_true, if_false, or_self, or_false, false_or, or_true, true_or, Int.reduceEq, if_pos, if_neg, ↓reduceIte]], M69.below⟩
  refine rn rfl rfl F64 rfl (.bool false) (z0a _ _ _ _ rfl (F64.get rfl) rfl (decide_eq_false h65)) fun _ F71 => ?_
  refine hK62 _ _ (wp_cond_false (F71.get rfl) ?_)
  refine wp_skip ?_
  refine hK61 _ _ (zS fun _ hK72 => ?_)
  refine zR ?_
  refine zja (za rfl) rfl F71 rfl M2 6 (t := 3) (c := #[.int .i64 8]) (k := 1) (m := 1) (z5a rfl #[.int .i64 8] rfl (by decide) (by decide) (by simp only [List.map_toArray, List.map_cons, List.map_nil]; kernel_rfl)) ?_
  intro g73 a73 w73 F73 M73
  clear F71 M2
  refine zd (za rfl) rfl F73 rfl rfl (zE Try.func84 rfl) #[.slice (some ⟨g73, 0, none⟩) 1 1] (zk (F73.get rfl)) (zf (zxb g73 [8] 256 (by decide) (by decide) (by decide) rfl rfl w73 (M73.blk (k := 6) rfl))) ?_
  rintro _ w74 a74 ⟨rfl, b74⟩ F74
  have M74 := M73.step b74
  refine rm rfl F74 fun _ F75 => ?_
  refine hK72 _ _ (wp_ret ?_)
  try simp only [Exit.then, Exit.inBlock, Exit.jump]
  exact bodyPost_ret (res1 rfl (F75.get rfl)) F75.defers ⟨by rw [show zha m = 256 from by unfold zha; simp only [h8, h28, h48, h58, h65, if_true, if_false, or_self, or_false, false_or, or_true, true_or, Int.reduceEq, if_pos, if_neg, ↓reduceIte]], M74.below⟩
 refine rn rfl rfl F56 rfl (.bool false) (zl _ _ _ _ rfl (F56.get rfl) rfl Try.underlying3 (zn h58)) fun _ F76 => ?_
 refine rm rfl F76 fun _ F77 => ?_
 refine hK57 _ _ (wp_cond_false (F77.get rfl) ?_)
 refine zT fun _ hK78 => ?_
 by_cases h79 : m.k = 5
 ·refine rn rfl rfl F77 rfl (.bool true) (zl _ _ _ _ rfl (F77.get rfl) rfl Try.underlying3 (zia h79)) fun _ F80 => ?_
  refine rm rfl F80 fun _ F81 => ?_
  refine hK78 _ _ (wp_cond_true (F81.get rfl) ?_)
  refine zT fun _ hK82 => ?_
  refine zja (za rfl) rfl F81 rfl M2 6 (t := 3) (c := #[.int .i64 11]) (k := 1) (m := 1) (z5a rfl #[.int .i64 11] rfl (by decide) (by decide) (by simp only [List.map_toArray, List.map_cons, List.map_nil]; kernel_rfl)) ?_
  intro g83 a83 w83 F83 M83
  clear F81 M2
  refine zd (za rfl) rfl F83 rfl rfl (zE Try.func84 rfl) #[.slice (some ⟨g83, 0, none⟩) 1 1] (zk (F83.get rfl)) (zf (zxb g83 [11] 2048 (by decide) (by decide) (by decide) rfl rfl w83 (M83.blk (k := 6) rfl))) ?_
  rintro _ w84 a84 ⟨rfl, b84⟩ F84
  have M84 := M83.step b84
  refine rm rfl F84 fun _ F85 => ?_
  refine hK82 _ _ (wp_ret ?_)
  try simp only [Exit.then, Exit.inBlock, Exit.jump]
  exact bodyPost_ret (res1 rfl (F85.get rfl)) F85.defers ⟨by rw [show zha m = 2048 from by unfold zha; simp only [h8, h28, h48, h58, h79, if_true, if_false, or_self, or_false, false_or, or_true, true_or, Int.reduceEq, if_pos, if_neg, ↓reduceIte]], M84.below⟩
 refine rn rfl rfl F77 rfl (.bool false) (zl _ _ _ _ rfl (F77.get rfl) rfl Try.underlying3 (zn h79)) fun _ F86 => ?_
 refine rm rfl F86 fun _ F87 => ?_
 refine hK78 _ _ (wp_cond_false (F87.get rfl) ?_)
 refine zT fun _ hK88 => ?_
 by_cases h89 : m.k = 6
 ·refine rn rfl rfl F87 rfl (.bool true) (zl _ _ _ _ rfl (F87.get rfl) rfl Try.underlying3 (zia h89)) fun _ F90 => ?_
  refine rm rfl F90 fun _ F91 => ?_
  refine hK88 _ _ (wp_cond_true (F91.get rfl) ?_)
  refine zT fun _ hK92 => ?_
  refine zja (za rfl) rfl F91 rfl M2 6 (t := 3) (c := #[.int .i64 1, .int .i64 2, .int .i64 9]) (k := 3) (m := 3) (z5a rfl #[.int .i64 1, .int .i64 2, .int .i64 9] rfl (by decide) (by decide) (by simp only [List.map_toArray, List.map_cons, List.map_nil]; kernel_rfl)) ?_
  intro g93 a93 w93 F93 M93
  clear F91 M2
  refine zd (za rfl) rfl F93 rfl rfl (zE Try.func84 rfl) #[.slice (some ⟨g93, 0, none⟩) 3 3] (zk (F93.get rfl)) (zf (zxb g93 [1, 2, 9] 518 (by decide) (by decide) (by decide) rfl rfl w93 (M93.blk (k := 6) rfl))) ?_
  rintro _ w94 a94 ⟨rfl, b94⟩ F94
  have M94 := M93.step b94
  refine rm rfl F94 fun _ F95 => ?_
  refine hK92 _ _ (wp_ret ?_)
  try simp only [Exit.then, Exit.inBlock, Exit.jump]
  exact bodyPost_ret (res1 rfl (F95.get rfl)) F95.defers ⟨by rw [show zha m = 518 from by unfold zha; simp only [h8, h28, h48, h58, h79, h89, if_true, if_false, or_self, or_false, false_or, or_true, true_or, Int.reduceEq, if_pos, if_neg, ↓reduceIte]], M94.below⟩
 refine rn rfl rfl F87 rfl (.bool false) (zl _ _ _ _ rfl (F87.get rfl) rfl Try.underlying3 (zn h89)) fun _ F96 => ?_
 refine rm rfl F96 fun _ F97 => ?_
 refine hK88 _ _ (wp_cond_false (F97.get rfl) ?_)
 refine zT fun _ hK98 => ?_
 by_cases h99 : m.k = 7
 ·refine rn rfl rfl F97 rfl (.bool true) (zl _ _ _ _ rfl (F97.get rfl) rfl Try.underlying3 (zia h99)) fun _ F100 => ?_
  refine rm rfl F100 fun _ F101 => ?_
  refine hK98 _ _ (wp_cond_true (F101.get rfl) ?_)
  refine zT fun _ hK102 => ?_
  refine rm rfl F101 fun _ F103 => ?_
  refine hK102 _ _ (wp_ret ?_)
  try simp only [Exit.then, Exit.inBlock, Exit.jump]
  exact bodyPost_ret (res1 rfl (F103.get rfl)) F103.defers ⟨by rw [show zha m = 0 from by unfold zha; simp only [h8, h28, h48, h58, h79, h89, h99, if_true, if_false, or_self, or_false, false_or, or_true, true_or, Int.reduceEq, if_pos, if_neg, ↓reduceIte]], M2.below⟩
 refine rn rfl rfl F97 rfl (.bool false) (zl _ _ _ _ rfl (F97.get rfl) rfl Try.underlying3 (zn h99)) fun _ F104 => ?_
 refine rm rfl F104 fun _ F105 => ?_
 refine hK98 _ _ (wp_cond_false (F105.get rfl) ?_)
 refine zS fun _ hK106 => zS fun _ hK107 => ?_
 refine zR ?_
 by_cases h108 : m.k = 8
 ·refine rn rfl rfl F105 rfl (.bool true) (zl _ _ _ _ rfl (F105.get rfl) rfl Try.underlying3 (zia h108)) fun _ F109 => ?_
  refine rm rfl F109 fun _ F110 => ?_
  refine hK107 _ _ (wp_cond_true (F110.get rfl) ?_)
  refine wp_skip ?_
  refine hK106 _ _ (wp_cond_true (F110.get rfl) ?_)
  refine zT fun _ hK111 => ?_
  refine zja (za rfl) rfl F110 rfl M2 6 (t := 3) (c := #[.int .i64 8, .int .i64 10]) (k := 2) (m := 2) (z5a rfl #[.int .i64 8, .int .i64 10] rfl (by decide) (by decide) (by simp only [List.map_toArray, List.map_cons, List.map_nil]; kernel_rfl)) ?_
  intro g112 a112 w112 F112 M112
  clear F110 M2
  refine zd (za rfl) rfl F112 rfl rfl (zE Try.func84 rfl) #[.slice (some ⟨g112, 0, none⟩) 2 2] (zk (F112.get rfl)) (zf (zxb g112 [8, 10] 1280 (by decide) (by decide) (by decide) rfl rfl w112 (M112.blk (k := 6) rfl))) ?_
  rintro _ w113 a113 ⟨rfl, b113⟩ F113
  have M113 := M112.step b113
  refine rm rfl F113 fun _ F114 => ?_
  refine hK111 _ _ (wp_ret ?_)
  try simp only [Exit.then, Exit.inBlock, Exit.jump]
  exact bodyPost_ret (res1 rfl (F114.get rfl)) F114.defers ⟨by rw [show zha m = 1280 from by unfold zha; simp only [h8, h28, h48, h58, h79, h89, h99, h108, if_true, if_false, or_self, or_false, false_or, or_true, true_or, Int.reduceEq, if_pos, if_neg, ↓reduceIte]], M113.below⟩
 refine rn rfl rfl F105 rfl (.bool false) (zl _ _ _ _ rfl (F105.get rfl) rfl Try.underlying3 (zn h108)) fun _ F115 => ?_
 refine rm rfl F115 fun _ F116 => ?_
 refine hK107 _ _ (wp_cond_false (F116.get rfl) ?_)
 refine zR ?_
 by_cases h117 : m.k = 12
 ·refine rn rfl rfl F116 rfl (.bool true) (zl _ _ _ _ rfl (F116.get rfl) rfl Try.underlying3 (zia h117)) fun _ F118 => ?_
  refine rm rfl F118 fun _ F119 => ?_
  refine hK106 _ _ (wp_cond_true (F119.get rfl) ?_)
  refine zT fun _ hK120 => ?_
  refine zja (za rfl) rfl F119 rfl M2 6 (t := 3) (c := #[.int .i64 8, .int .i64 10]) (k := 2) (m := 2) (z5a rfl #[.int .i64 8, .int .i64 10] rfl (by decide) (by decide) (by simp only [List.map_toArray, List.map_cons, List.map_nil]; kernel_rfl)) ?_
  intro g121 a121 w121 F121 M121
  clear F119 M2
  refine zd (za rfl) rfl F121 rfl rfl (zE Try.func84 rfl) #[.slice (some ⟨g121, 0, none⟩) 2 2] (zk (F121.get rfl)) (zf (zxb g121 [8, 10] 1280 (by decide) (by decide) (by decide) rfl rfl w121 (M121.blk (k := 6) rfl))) ?_
  rintro _ w122 a122 ⟨rfl, b122⟩ F122
  have M122 := M121.step b122
  refine rm rfl F122 fun _ F123 => ?_
  refine hK120 _ _ (wp_ret ?_)
  try simp only [Exit.then, Exit.inBlock, Exit.jump]
  exact bodyPost_ret (res1 rfl (F123.get rfl)) F123.defers ⟨by rw [show zha m = 1280 from by unfold zha; simp only [h8, h28, h48, h58, h79, h89, h99, h108, h117, if_true, if_false, or_self, or_false, false_or, or_true, true_or, Int.reduceEq, if_pos, if_neg, ↓reduceIte]], M122.below⟩
 refine rn rfl rfl F116 rfl (.bool false) (zl _ _ _ _ rfl (F116.get rfl) rfl Try.underlying3 (zn h117)) fun _ F124 => ?_
 refine rm rfl F124 fun _ F125 => ?_
 refine hK106 _ _ (wp_cond_false (F125.get rfl) ?_)
 refine zS fun _ hK126 => zS fun _ hK127 => ?_
 refine zR ?_
 by_cases h128 : m.k = 9
 ·refine rn rfl rfl F125 rfl (.bool true) (zl _ _ _ _ rfl (F125.get rfl) rfl Try.underlying3 (zia h128)) fun _ F129 => ?_
  refine rm rfl F129 fun _ F130 => ?_
  refine hK127 _ _ (wp_cond_true (F130.get rfl) ?_)
  refine wp_skip ?_
  refine hK126 _ _ (wp_cond_true (F130.get rfl) ?_)
  refine zT fun _ hK131 => ?_
  refine zja (za rfl) rfl F130 rfl M2 6 (t := 3) (c := #[.int .i64 8]) (k := 1) (m := 1) (z5a rfl #[.int .i64 8] rfl (by decide) (by decide) (by simp only [List.map_toArray, List.map_cons, List.map_nil]; kernel_rfl)) ?_
  intro g132 a132 w132 F132 M132
  clear F130 M2
  refine zd (za rfl) rfl F132 rfl rfl (zE Try.func84 rfl) #[.slice (some ⟨g132, 0, none⟩) 1 1] (zk (F132.get rfl)) (zf (zxb g132 [8] 256 (by decide) (by decide) (by decide) rfl rfl w132 (M132.blk (k := 6) rfl))) ?_
  rintro _ w133 a133 ⟨rfl, b133⟩ F133
  have M133 := M132.step b133
  refine rm rfl F133 fun _ F134 => ?_
  refine hK131 _ _ (wp_ret ?_)
  try simp only [Exit.then, Exit.inBlock, Exit.jump]
  exact bodyPost_ret (res1 rfl (F134.get rfl)) F134.defers ⟨by rw [show zha m = 256 from by unfold zha; simp only [h8, h28, h48, h58, h79, h89, h99, h108, h117, h128, if_true, if_false, or_self, or_false, false_or, or_true, true_or, Int.reduceEq, if_pos, if_neg, ↓reduceIte]], M133.below⟩
 refine rn rfl rfl F125 rfl (.bool false) (zl _ _ _ _ rfl (F125.get rfl) rfl Try.underlying3 (zn h128)) fun _ F135 => ?_
 refine rm rfl F135 fun _ F136 => ?_
 refine hK127 _ _ (wp_cond_false (F136.get rfl) ?_)
 refine zR ?_
 by_cases h137 : m.k = 10
 ·refine rn rfl rfl F136 rfl (.bool true) (zl _ _ _ _ rfl (F136.get rfl) rfl Try.underlying3 (zia h137)) fun _ F138 => ?_
  refine rm rfl F138 fun _ F139 => ?_
  refine hK126 _ _ (wp_cond_true (F139.get rfl) ?_)
  refine zT fun _ hK140 => ?_
  refine zja (za rfl) rfl F139 rfl M2 6 (t := 3) (c := #[.int .i64 8]) (k := 1) (m := 1) (z5a rfl #[.int .i64 8] rfl (by decide) (by decide) (by simp only [List.map_toArray, List.map_cons, List.map_nil]; kernel_rfl)) ?_
  intro g141 a141 w141 F141 M141
  clear F139 M2
  refine zd (za rfl) rfl F141 rfl rfl (zE Try.func84 rfl) #[.slice (some ⟨g141, 0, none⟩) 1 1] (zk (F141.get rfl)) (zf (zxb g141 [8] 256 (by decide) (by decide) (by decide) rfl rfl w141 (M141.blk (k := 6) rfl))) ?_
  rintro _ w142 a142 ⟨rfl, b142⟩ F142
  have M142 := M141.step b142
  refine rm rfl F142 fun _ F143 => ?_
  refine hK140 _ _ (wp_ret ?_)
  try simp only [Exit.then, Exit.inBlock, Exit.jump]
  exact bodyPost_ret (res1 rfl (F143.get rfl)) F143.defers ⟨by rw [show zha m = 256 from by unfold zha; simp only [h8, h28, h48, h58, h79, h89, h99, h108, h117, h128, h137, if_true, if_false, or_self, or_false, false_or, or_true, true_or, Int.reduceEq, if_pos, if_neg, ↓reduceIte]], M142.below⟩
 refine rn rfl rfl F136 rfl (.bool false) (zl _ _ _ _ rfl (F136.get rfl) rfl Try.underlying3 (zn h137)) fun _ F144 => ?_
 refine rm rfl F144 fun _ F145 => ?_
 refine hK126 _ _ (wp_cond_false (F145.get rfl) ?_)
 refine zT fun _ hK146 => ?_
 by_cases h147 : m.k = 11
 rotate_left
 ·refine rn rfl rfl F145 rfl (.bool false) (zl _ _ _ _ rfl (F145.get rfl) rfl Try.underlying3 (zn h147)) fun _ F154 => ?_
  refine rm rfl F154 fun _ F155 => ?_
  refine hK146 _ _ (wp_cond_false (F155.get rfl) ?_)
  refine wp_skip ?_
  refine hK4 _ _ (zS fun _ hK156 => ?_)
  refine zR ?_
  refine rm rfl F155 fun _ F157 => ?_
  refine hK156 _ _ (wp_ret ?_)
  try simp only [Exit.then, Exit.inBlock, Exit.jump]
  exact bodyPost_ret (res1 rfl (F157.get rfl)) F157.defers ⟨by rw [show zha m = -1 from by unfold zha; simp only [h8, h28, h48, h58, h79, h89, h99, h108, h117, h128, h137, h147, if_true, if_false, or_self, or_false, false_or, or_true, true_or, Int.reduceEq, if_pos, if_neg, ↓reduceIte]], M2.below⟩
 refine rn rfl rfl F145 rfl (.bool true) (zl _ _ _ _ rfl (F145.get rfl) rfl Try.underlying3 (zia h147)) fun _ F148 => ?_
 refine rm rfl F148 fun _ F149 => ?_
 refine hK146 _ _ (wp_cond_true (F149.get rfl) ?_)
 refine zT fun _ hK150 => ?_
 refine zja (za rfl) rfl F149 rfl M2 6 (t := 3) (c := #[.int .i64 1, .int .i64 8, .int .i64 9]) (k := 3) (m := 3) (z5a rfl #[.int .i64 1, .int .i64 8, .int .i64 9] rfl (by decide) (by decide) (by simp only [List.map_toArray, List.map_cons, List.map_nil]; kernel_rfl)) ?_
 intro g151 a151 w151 F151 M151
 clear F149 M2
 refine zd (za rfl) rfl F151 rfl rfl (zE Try.func84 rfl) #[.slice (some ⟨g151, 0, none⟩) 3 3] (zk (F151.get rfl)) (zf (zxb g151 [1, 8, 9] 770 (by decide) (by decide) (by decide) rfl rfl w151 (M151.blk (k := 6) rfl))) ?_
 rintro _ w152 a152 ⟨rfl, b152⟩ F152
 have M152 := M151.step b152
 refine rm rfl F152 fun _ F153 => ?_
 refine hK150 _ _ (wp_ret ?_)
 try simp only [Exit.then, Exit.inBlock, Exit.jump]
 exact bodyPost_ret (res1 rfl (F153.get rfl)) F153.defers ⟨by rw [show zha m = 770 from by unfold zha; simp only [h8, h28, h48, h58, h79, h89, h99, h108, h117, h128, h137, h147, if_true, if_false, or_self, or_false, false_or, or_true, true_or, Int.reduceEq, if_pos, if_neg, ↓reduceIte]], M152.below⟩
end Go.Proofs.Ytlbkogdmojlpmaa
namespace Go.Proofs.Ytlbkogdmojlpmaa
open Go.ChangeShapes Go.WideShapes Go.ChangeAt Go.RowKit
theorem take4 (a : Nat) {k : Nat} (hk : k < 8) : (zta a).take (32 - 4 * k) = (zta a).take (28 - 4 * k) ++ [zza a (28 - 4 * k), zza a (29 - 4 * k), zza a (30 - 4 * k), zza a (31 - 4 * k)] := by
  have h : k = 0 ∨ k = 1 ∨ k = 2 ∨ k = 3 ∨ k = 4 ∨ k = 5 ∨ k = 6 ∨ k = 7 := by omega
  rcases h with rfl | rfl | rfl | rfl | rfl | rfl | rfl | rfl <;> rfl
theorem four_bytes (a : Nat) {k : Nat} (hk : k < 8) : #[Value.int .u8 (IntKind.u8.wrap (digI a k / 16777216)), .int .u8 (IntKind.u8.wrap (digI a k / 65536)), .int .u8 (IntKind.u8.wrap (digI a k / 256)), .int .u8 (IntKind.u8.wrap (digI a k))] = bvs [zza a (28 - 4 * k), zza a (29 - 4 * k), zza a (30 - 4 * k), zza a (31 - 4 * k)] := by
  have h0 := dig_byte a k 0 (by omega)
  have h1 := dig_byte a k 1 (by omega)
  have h2 := dig_byte a k 2 (by omega)
  have h3 := dig_byte a k 3 (by omega)
  have hl := dig_lt a k
  simp only [bvs, List.map_cons, List.map_nil, bv, byteN_toNat, digI, IntKind.wrap_u8]
  rw [show 31 - (28 - 4 * k) = 4 * k + 3 by omega, show 31 - (29 - 4 * k) = 4 * k + 2 by omega, show 31 - (30 - 4 * k) = 4 * k + 1 by omega, show 31 - (31 - 4 * k) = 4 * k + 0 by omega, ← h0, ← h1, ← h2, ← h3]
  generalize dig a k = d at *
  simp
/-! Read. -/
end Go.Proofs.Ytlbkogdmojlpmaa
namespace Go.Proofs.Ytlbkogdmojlpmaa
open Go.ChangeShapes Go.WideShapes Go.ChangeAt Go.RowKit
theorem rbytes_own (a : Nat) (w : World) :
    Calls Try.prog 86 #[numV a] w fun e w' => ∃ v, e = .returned v ∧ Byt w' w.heap.size v (zta a) ∧ Below w.heap.size w w' := by
  have g0 := Num.new w 27 a
  have gb := zjb w (.cells (numA a) 27)
  have T4 := hid (fun k hk => @take4 a k hk)
  have F4 := hid (fun k hk => @four_bytes a k hk)
  have TF := hid (List.take_of_length_le (Nat.le_of_eq (zua a)))
  have LN := hid (zua a)
  go_enter Try.func86, Try.ntmps86
  go_wp2
  have hW1 : (w.alloc (.cells (numA a) 27)).heap.size = w.heap.size + 1 := by simp
  generalize World.alloc _ _ = W at *
  have HW := hid hW1
  clear hW1
  go_loopw [3, 4] (fun v i wr => ∃ q : Int, -1 ≤ q ∧ q ≤ 7 ∧ i = .int .i64 q ∧ Byt wr (w.heap.size + 1) v ((zta a).take (28 - 4 * q).toNat) ∧ Below (w.heap.size + 1) W wr) (fun _ i _ => (intOf i + 1).toNat)
  case atStart => exact ⟨7, by omega, by omega, rfl, Byt.nil _ _, Below.refl _ _⟩
  case round =>
    obtain ⟨q, hq1, hq2, rfl, hv, hB⟩ := hrel
    have n0 := g0.below hB (by omega)
    have hsz : w.heap.size + 1 ≤ wr.heap.size := by have := hB.size; have := HW.out; omega
    by_cases hq : 0 ≤ q
    · obtain ⟨k, rfl⟩ := Int.eq_ofNat_of_zero_le hq
      have hc := n0.cell (k := k) (by omega)
      have hk : k < 8 := by omega
      have t4 := T4.out k hk
      have hd0 := digI_ge a k
      have hd1 := digI_lt a k
      have e1 : (28 - 4 * (k : Int)).toNat = 28 - 4 * k := by omega
      have hv' : Byt wr (w.heap.size + 1) u3 ((zta a).take (28 - 4 * k)) := by rw [← e1]; exact hv
      have H4 := hid t4
      clear hv e1 t4
      have hrd : Rd (wr.alloc (.cells #[Value.int .u8 (IntKind.u8.wrap (digI a k / 16777216)), .int .u8 (IntKind.u8.wrap (digI a k / 65536)), .int .u8 (IntKind.u8.wrap (digI a k / 256)), .int .u8 (IntKind.u8.wrap (digI a k))] 5)).drew (some ⟨wr.heap.size, 0, none⟩) [zza a (28 - 4 * k), zza a (29 - 4 * k), zza a (30 - 4 * k), zza a (31 - 4 * k)] := by
        rw [F4.out k hk]
        exact Bts.rd (t := 5) (heap_alloc_new wr _)
      have hle : ((zta a).take (28 - 4 * k)).length ≤ 32 := by rw [List.length_take, LN.out]; omega
      have hk8 : (k : Int) < 8 := by omega
      obtain ⟨L, hL⟩ : ∃ L, L = (zta a).take (28 - 4 * k) := ⟨_, rfl⟩
      rw [← hL] at hv' hle
      have HL := hid hL
      clear hL
      clear LN hq1 hq2 hq F4
      go_wp2_with fail
      go_region_held3 (fun w' => w'.cell? ⟨w.heap.size, k, none⟩ = some (.int .u32 (digI a k))) (first | go_keep | (go_split_ands; rw [h2.cell (p := ⟨w.heap.size, k, none⟩) (by show w.heap.size < w.heap.size + 1; omega)]; assumption))
        ((refine step_append_bytes (by rfl) _ _ (by rfl) (w.heap.size + 1) u3 L [zza a (28 - 4 * k), zza a (29 - 4 * k), zza a (30 - 4 * k), zza a (31 - 4 * k)] (by rfl) (show Byt _ _ _ _ from Byt.alloc hv' _) _ 4 4 (by rfl) (by rfl) (by omega) hrd (by simp <;> omega) (by simp <;> omega) ?_; intro g cap w' h1 h2 h3 h4 h5))
      have eL : L ++ [zza a (28 - 4 * k), zza a (29 - 4 * k), zza a (30 - 4 * k), zza a (31 - 4 * k)] = (zta a).take (32 - 4 * k) := by rw [HL.out, ← H4.out]
      rw [eL] at h1
      have hB2 : Below (w.heap.size + 1) wr w' := ((zjb wr _).mono (by omega)).trans (show Below _ (wr.alloc _) w' from ⟨h2.os, h2.tape, h2.output, h2.size, h2.block⟩)
      clear eL h2
      have H1 := hid h1
      clear h1
      go_wp2
      go_roundw
      case rel => exact ⟨(k : Int) - 1, by omega, by omega, by go_num, by rw [show (28 - 4 * ((k : Int) - 1)).toNat = 32 - 4 * k by omega]; exact H1.out, hB.trans hB2⟩
      case measure => simp [intOf] <;> omega
    · have hq' : q = -1 := by omega
      subst hq'
      have hv' : Byt wr (w.heap.size + 1) u3 (zta a) := by have := hv; rw [show (28 - 4 * (-1 : Int)).toNat = 32 from rfl, TF.out] at this; exact this
      clear hv
      have H1 := hid hv'
      clear hv'
      go_wp2
      go_ret
      exact ⟨_, rfl, H1.out.rebase fun k hk => (by have := (H1.out.lt k hk).1; omega), gb.trans (hB.mono (by omega))⟩
end Go.Proofs.Ytlbkogdmojlpmaa
