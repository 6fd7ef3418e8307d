/- A part of a block that is known whole (a field that is an array), loaded and stored. -/
import Derived.Test.YtgccbfkofkohpaaMake
import Derived.Test.YtgccbfkofkohpaaMul
import Derived.Test.YtgccbfkofkohpaaGaByte
import Derived.Test.YtgccbfkofkohpaaGaBk
import Derived.Test.YtgccbfkofkohpaaGaSb
import Derived.Laws.CopyRow
namespace Go.Proofs.Ytgccbfkofkohpaa
set_option linter.unusedVariables false
set_option maxRecDepth 20000
set_option linter.unusedSimpArgs false
open Go.ChangeShapes Go.WideShapes Go.ChangeAt Go.RowKit
section
variable {P : Program}
/-- Loaded, stored, in a walk. -/
theorem wpList_load_sub {ops : Array Oper} {rest : List Oper} {o : Oper} {a : Act} {w : World} {Q : Exit → Act → World → Prop} (hw : Region.wanted o (yielded ops a.tmps) = true) (ty : TypeId) (x : Operand) (ho : o.op = .load ty x)
    (g k : Nat) (hx : a.eval x = .pointer (some ⟨g, k, none⟩)) (t : TypeId) (c : Array Value) (hg : Blk w g t c) (s : Array Value) (hs : ∀ (j : Nat) (v : Value), s[j]? = some v → c[k + j]? = some v) (d : TypeDesc) (hu : P.underlying ty = some d)
    (hd : (match d with | .struct _ | .array _ _ => true | _ => false) = true) (hi : (P.info? ty).map (·.size) = some s.size)
    (h : wpList P ops Q rest (a.put o.dst (.agg s)) w) : wpList P ops Q (o :: rest) a w :=
  wpList_want hw fun K hK => by
    unfold Oper.wp execOp
    simp only [ho, hx, Sem.run_bind, run_load_sub w ty g k t c s d hg hs hu hd hi, Result.andThen_ok, Sem.run_pure]
    exact hK _ _ h
theorem wpList_store_sub {ops : Array Oper} {rest : List Oper} {o : Oper} {a : Act} {w : World} {Q : Exit → Act → World → Prop} (hgd : o.guard = none) (ty : TypeId) (x y : Operand) (ho : o.op = .store ty x y)
    (g k : Nat) (hx : a.eval x = .pointer (some ⟨g, k, none⟩)) (s : Array Value) (hy : a.eval y = .agg s) (h1 : s.all (·.oneCell') = true) (t : TypeId) (c : Array Value) (hg : Blk w g t c) (hos : k + s.size ≤ c.size) (c' : Array Value)
    (hc' : (c.toList.take k ++ s.toList ++ c.toList.drop (k + s.size)).toArray = c') (hi : (P.info? ty).map (·.size) = some s.size)
    (h : ∀ w', w.grownBy w' (some g) → Blk w' g t c' → wpList P ops Q rest (a.put o.dst undef) w') : wpList P ops Q (o :: rest) a w :=
  wpList_plain hgd fun K hK => by
    unfold Oper.wp execOp
    simp only [ho, hx, hy, Sem.run_bind, run_store_sub w ty g k t c s c' hg hos h1 hc' hi, Result.andThen_ok, Sem.run_pure]
    exact hK _ _ (h _ (grown_setRow _ _ _) (setRow_heap w g c c' t (0, 0) hg))
end
end Go.Proofs.Ytgccbfkofkohpaa
namespace Go.Proofs.Ytgccbfkofkohpaa
set_option linter.unusedVariables false
set_option maxRecDepth 20000
set_option linter.unusedSimpArgs false
open Go.ChangeShapes Go.WideShapes Go.ChangeAt Go.RowKit

def arr16 (z : Nat → Int) : Array Value := #[Value.int .u8 (z 0), .int .u8 (z 1), .int .u8 (z 2), .int .u8 (z 3), .int .u8 (z 4), .int .u8 (z 5), .int .u8 (z 6), .int .u8 (z 7), .int .u8 (z 8), .int .u8 (z 9), .int .u8 (z 10), .int .u8 (z 11), .int .u8 (z 12), .int .u8 (z 13), .int .u8 (z 14), .int .u8 (z 15)]
def arrS (s : W8) (y : Nat → Int) (h : Int) : Array Value := #[Value.int .u32 s.x0, .int .u32 s.x1, .int .u32 s.x2, .int .u32 s.x3, .int .u32 s.x4, .int .u32 s.x5, .int .u32 s.x6, .int .u32 s.x7, .int .u8 (y 0), .int .u8 (y 1), .int .u8 (y 2), .int .u8 (y 3), .int .u8 (y 4), .int .u8 (y 5), .int .u8 (y 6), .int .u8 (y 7), .int .u8 (y 8), .int .u8 (y 9), .int .u8 (y 10), .int .u8 (y 11), .int .u8 (y 12), .int .u8 (y 13), .int .u8 (y 14), .int .u8 (y 15), .int .i64 h]
theorem xor_fold (x v : Int) : bits .xor .u32 x v = xorW x v := by unfold xorW; rfl
def W8.xat (s : W8) (i : Nat) (v : Int) : W8 := match i with
  | 0 => { s with x0 := xorW s.x0 v }
  | 1 => { s with x1 := xorW s.x1 v }
  | 2 => { s with x2 := xorW s.x2 v }
  | _ => { s with x3 := xorW s.x3 v }
def mulF (r : Nat) (v : Int) : Int := match r with | 0 => v | 1 => v * 256 | 2 => v * 65536 | _ => v * 16777216
def absN (z : Nat → Int) (s : W8) : Nat → W8
  | 0 => s
  | k + 1 => (absN z s k).xat (k / 4) (mulF (k % 4) (z k))
theorem ok_xat {s : W8} (h : s.ok) (i : Nat) (v : Int) : (s.xat i v).ok := by
  obtain ⟨h0, h1, h2, h3, h4, h5, h6, h7⟩ := h
  unfold W8.xat
  split
  · exact ⟨xorW_bd _ _, h1, h2, h3, h4, h5, h6, h7⟩
  · exact ⟨h0, xorW_bd _ _, h2, h3, h4, h5, h6, h7⟩
  · exact ⟨h0, h1, xorW_bd _ _, h3, h4, h5, h6, h7⟩
  · exact ⟨h0, h1, h2, xorW_bd _ _, h4, h5, h6, h7⟩
theorem ok_absN {z : Nat → Int} {s : W8} (h : s.ok) : ∀ k, (absN z s k).ok
  | 0 => h
  | k + 1 => ok_xat (ok_absN h k) _ _
def takeW (z : Nat → Int) (s : W8) : W8 := mixW (absN z s 16)
theorem ok_takeW {z : Nat → Int} {s : W8} (h : s.ok) : (takeW z s).ok := ok_mixW (ok_absN h 16)
theorem arrS_sub (s : W8) (y : Nat → Int) (h : Int) : ∀ (j : Nat) (v : Value), (arrW s)[j]? = some v → (arrS s y h)[0 + j]? = some v := by
  intro j v hv
  have hj : j < 8 := (Array.getElem?_eq_some_iff.1 hv).1
  have : j = 0 ∨ j = 1 ∨ j = 2 ∨ j = 3 ∨ j = 4 ∨ j = 5 ∨ j = 6 ∨ j = 7 := by omega
  rcases this with rfl | rfl | rfl | rfl | rfl | rfl | rfl | rfl <;> exact hv
theorem grownBy_of_below {a b : World} (h : Below a.heap.size a b) (row : Option Nat) : a.grownBy b row := ⟨h.os, h.tape, h.output, h.size, fun i hi _ => h.block i hi⟩
theorem size16 : (Try.prog.info? 60).map (·.size) = some 16 := by kernel_rfl
set_option maxHeartbeats 4000000 in
set_option maxRecDepth 100000 in
theorem take_any (s : W8) (hs : s.ok) (y z : Nat → Int) (hz : ∀ k, 0 ≤ z k ∧ z k < 256) (h : Int) (b : Nat) (w : World) (hb : Blk w b 138 (arrS s y h)) :
    Calls Try.prog 115 #[.pointer (some ⟨b, 0, none⟩), .agg (arr16 z)] w fun e w' => e = .returned (.tuple #[]) ∧ w.grownBy w' (some b) ∧ Blk w' b 138 (arrS (takeW z s) y h) := by
  have OK := hid (ok_absN (z := z) hs)
  have HZ := hid hz
  clear hs hz
  have hl := hb.lt
  have n16 := Blk.new w 60 (arr16 z)
  have b1 := hb.alloc (.cells (arr16 z) 60)
  have g1 : w.grownBy (w.alloc (.cells (arr16 z) 60)) (some b) := World.grownBy_alloc w _ _
  go_enter Try.func115, Try.ntmps115
  go_wp2_with (refine wpList_load_blk rfl _ (.tmp 3) rfl _ rfl _ _ _ n16 Try.underlying60 rfl size16 ?_)
  generalize World.alloc _ _ = W at *
  clear n16 hb
  go_loopw [7] (fun i wr => ∃ k : Nat, k ≤ 16 ∧ i = .int .i64 k ∧ Blk wr b 138 (arrS (absN z s k) y h) ∧ w.grownBy wr (some b)) (fun i _ => 16 - (intOf i).toNat)
  case atStart => exact ⟨0, by omega, rfl, b1, g1⟩
  case round =>
    obtain ⟨k, hk, rfl, hb, hg⟩ := hrel
    clear b1 g1
    by_cases hlt : k < 16
    · obtain ⟨A, hA⟩ : ∃ A, A = absN z s k := ⟨_, rfl⟩
      have hS : absN z s (k + 1) = A.xat (k / 4) (mulF (k % 4) (z k)) := by rw [hA]; rfl
      have HS := hid hS
      rw [← hA] at hb
      clear hA hS
      have hkk : k = 0 ∨ k = 1 ∨ k = 2 ∨ k = 3 ∨ k = 4 ∨ k = 5 ∨ k = 6 ∨ k = 7 ∨ k = 8 ∨ k = 9 ∨ k = 10 ∨ k = 11 ∨ k = 12 ∨ k = 13 ∨ k = 14 ∨ k = 15 := by omega
      clear hlt hk
      rcases hkk with rfl | rfl | rfl | rfl | rfl | rfl | rfl | rfl | rfl | rfl | rfl | rfl | rfl | rfl | rfl | rfl
      · obtain ⟨z0, z1⟩ := HZ.out 0
        have k1 := (hb.drew).cell (k := 0) (v := .int .u32 A.x0) rfl
        have k3 := (hb.drew).frozen 0
        have hix : ∀ w, (Instr.index 60 (.agg (arr16 z)) (.int .i64 0)).run Try.prog w = .ok (.int .u8 (z 0)) w := fun w => by kernel_rfl
        have e0 := Go.IntWalk.u32_in (z 0) (by omega)
        have e1 := Go.IntWalk.u32_in (z 0 * 1) (by omega)
        have e2 : bits .xor .u32 A.x0 (z 0) = (A.xat (0 / 4) (mulF (0 % 4) (z 0))).x0 := xor_fold _ _
        go_wp2
        clear hix
        have hw0 : IntKind.i64.wrap 0 = 0 := by decide
        have hw1 : IntKind.i64.wrap 1 = 1 := by decide
        have hw2 : IntKind.i64.wrap 2 = 2 := by decide
        have hw3 : IntKind.i64.wrap 3 = 3 := by decide
        have hw8 : IntKind.i64.wrap 8 = 8 := by decide
        have hw16 : IntKind.i64.wrap 16 = 16 := by decide
        have hw24 : IntKind.i64.wrap 24 = 24 := by decide
        refine wp_region_still_tail 17 (by kernel_rfl) (by kernel_rfl) ?_
        simp only [List.take_succ_cons, List.take_zero, List.drop_succ_cons, List.drop_zero]
        change wpStill _ _ (World.drew _) _ _ _
        repeat still_step
        refine wpStill_nil ?_
        change wpList _ _ _ _ _ (World.drew _)
        clear hw0 hw1 hw2 hw3 hw8 hw16 hw24
        go_wp2
        have hb2 := (hb.set 0 (.int .u32 (A.xat (0 / 4) (mulF (0 % 4) (z 0))).x0) (c' := arrS (A.xat (0 / 4) (mulF (0 % 4) (z 0))) y h) rfl).drew
        have hg2 := drewR (grown_set (p := ⟨b, 0, none⟩) hg rfl (.int .u32 (A.xat (0 / 4) (mulF (0 % 4) (z 0))).x0))
        go_roundw
        case rel => exact ⟨1, by omega, rfl, by rw [HS.out]; exact hb2, hg2⟩
        case measure => simp [intOf]
      · obtain ⟨z0, z1⟩ := HZ.out 1
        have k1 := (hb.drew).cell (k := 0) (v := .int .u32 A.x0) rfl
        have k3 := (hb.drew).frozen 0
        have hix : ∀ w, (Instr.index 60 (.agg (arr16 z)) (.int .i64 1)).run Try.prog w = .ok (.int .u8 (z 1)) w := fun w => by kernel_rfl
        have e0 := Go.IntWalk.u32_in (z 1) (by omega)
        have e1 := Go.IntWalk.u32_in (z 1 * 256) (by omega)
        have e2 : bits .xor .u32 A.x0 (z 1 * 256) = (A.xat (1 / 4) (mulF (1 % 4) (z 1))).x0 := xor_fold _ _
        go_wp2
        clear hix
        have hw0 : IntKind.i64.wrap 0 = 0 := by decide
        have hw1 : IntKind.i64.wrap 1 = 1 := by decide
        have hw2 : IntKind.i64.wrap 2 = 2 := by decide
        have hw3 : IntKind.i64.wrap 3 = 3 := by decide
        have hw8 : IntKind.i64.wrap 8 = 8 := by decide
        have hw16 : IntKind.i64.wrap 16 = 16 := by decide
        have hw24 : IntKind.i64.wrap 24 = 24 := by decide
        refine wp_region_still_tail 17 (by kernel_rfl) (by kernel_rfl) ?_
        simp only [List.take_succ_cons, List.take_zero, List.drop_succ_cons, List.drop_zero]
        change wpStill _ _ (World.drew _) _ _ _
        repeat still_step
        refine wpStill_nil ?_
        change wpList _ _ _ _ _ (World.drew _)
        clear hw0 hw1 hw2 hw3 hw8 hw16 hw24
        go_wp2
        have hb2 := (hb.set 0 (.int .u32 (A.xat (1 / 4) (mulF (1 % 4) (z 1))).x0) (c' := arrS (A.xat (1 / 4) (mulF (1 % 4) (z 1))) y h) rfl).drew
        have hg2 := drewR (grown_set (p := ⟨b, 0, none⟩) hg rfl (.int .u32 (A.xat (1 / 4) (mulF (1 % 4) (z 1))).x0))
        go_roundw
        case rel => exact ⟨2, by omega, rfl, by rw [HS.out]; exact hb2, hg2⟩
        case measure => simp [intOf]
      · obtain ⟨z0, z1⟩ := HZ.out 2
        have k1 := (hb.drew).cell (k := 0) (v := .int .u32 A.x0) rfl
        have k3 := (hb.drew).frozen 0
        have hix : ∀ w, (Instr.index 60 (.agg (arr16 z)) (.int .i64 2)).run Try.prog w = .ok (.int .u8 (z 2)) w := fun w => by kernel_rfl
        have e0 := Go.IntWalk.u32_in (z 2) (by omega)
        have e1 := Go.IntWalk.u32_in (z 2 * 65536) (by omega)
        have e2 : bits .xor .u32 A.x0 (z 2 * 65536) = (A.xat (2 / 4) (mulF (2 % 4) (z 2))).x0 := xor_fold _ _
        go_wp2
        clear hix
        have hw0 : IntKind.i64.wrap 0 = 0 := by decide
        have hw1 : IntKind.i64.wrap 1 = 1 := by decide
        have hw2 : IntKind.i64.wrap 2 = 2 := by decide
        have hw3 : IntKind.i64.wrap 3 = 3 := by decide
        have hw8 : IntKind.i64.wrap 8 = 8 := by decide
        have hw16 : IntKind.i64.wrap 16 = 16 := by decide
        have hw24 : IntKind.i64.wrap 24 = 24 := by decide
        refine wp_region_still_tail 17 (by kernel_rfl) (by kernel_rfl) ?_
        simp only [List.take_succ_cons, List.take_zero, List.drop_succ_cons, List.drop_zero]
        change wpStill _ _ (World.drew _) _ _ _
        repeat still_step
        refine wpStill_nil ?_
        change wpList _ _ _ _ _ (World.drew _)
        clear hw0 hw1 hw2 hw3 hw8 hw16 hw24
        go_wp2
        have hb2 := (hb.set 0 (.int .u32 (A.xat (2 / 4) (mulF (2 % 4) (z 2))).x0) (c' := arrS (A.xat (2 / 4) (mulF (2 % 4) (z 2))) y h) rfl).drew
        have hg2 := drewR (grown_set (p := ⟨b, 0, none⟩) hg rfl (.int .u32 (A.xat (2 / 4) (mulF (2 % 4) (z 2))).x0))
        go_roundw
        case rel => exact ⟨3, by omega, rfl, by rw [HS.out]; exact hb2, hg2⟩
        case measure => simp [intOf]
      · obtain ⟨z0, z1⟩ := HZ.out 3
        have k1 := (hb.drew).cell (k := 0) (v := .int .u32 A.x0) rfl
        have k3 := (hb.drew).frozen 0
        have hix : ∀ w, (Instr.index 60 (.agg (arr16 z)) (.int .i64 3)).run Try.prog w = .ok (.int .u8 (z 3)) w := fun w => by kernel_rfl
        have e0 := Go.IntWalk.u32_in (z 3) (by omega)
        have e1 := Go.IntWalk.u32_in (z 3 * 16777216) (by omega)
        have e2 : bits .xor .u32 A.x0 (z 3 * 16777216) = (A.xat (3 / 4) (mulF (3 % 4) (z 3))).x0 := xor_fold _ _
        go_wp2
        clear hix
        have hw0 : IntKind.i64.wrap 0 = 0 := by decide
        have hw1 : IntKind.i64.wrap 1 = 1 := by decide
        have hw2 : IntKind.i64.wrap 2 = 2 := by decide
        have hw3 : IntKind.i64.wrap 3 = 3 := by decide
        have hw8 : IntKind.i64.wrap 8 = 8 := by decide
        have hw16 : IntKind.i64.wrap 16 = 16 := by decide
        have hw24 : IntKind.i64.wrap 24 = 24 := by decide
        refine wp_region_still_tail 17 (by kernel_rfl) (by kernel_rfl) ?_
        simp only [List.take_succ_cons, List.take_zero, List.drop_succ_cons, List.drop_zero]
        change wpStill _ _ (World.drew _) _ _ _
        repeat still_step
        refine wpStill_nil ?_
        change wpList _ _ _ _ _ (World.drew _)
        clear hw0 hw1 hw2 hw3 hw8 hw16 hw24
        go_wp2
        have hb2 := (hb.set 0 (.int .u32 (A.xat (3 / 4) (mulF (3 % 4) (z 3))).x0) (c' := arrS (A.xat (3 / 4) (mulF (3 % 4) (z 3))) y h) rfl).drew
        have hg2 := drewR (grown_set (p := ⟨b, 0, none⟩) hg rfl (.int .u32 (A.xat (3 / 4) (mulF (3 % 4) (z 3))).x0))
        go_roundw
        case rel => exact ⟨4, by omega, rfl, by rw [HS.out]; exact hb2, hg2⟩
        case measure => simp [intOf]
      · obtain ⟨z0, z1⟩ := HZ.out 4
        have k1 := (hb.drew).cell (k := 1) (v := .int .u32 A.x1) rfl
        have k3 := (hb.drew).frozen 1
        have hix : ∀ w, (Instr.index 60 (.agg (arr16 z)) (.int .i64 4)).run Try.prog w = .ok (.int .u8 (z 4)) w := fun w => by kernel_rfl
        have e0 := Go.IntWalk.u32_in (z 4) (by omega)
        have e1 := Go.IntWalk.u32_in (z 4 * 1) (by omega)
        have e2 : bits .xor .u32 A.x1 (z 4) = (A.xat (4 / 4) (mulF (4 % 4) (z 4))).x1 := xor_fold _ _
        go_wp2
        clear hix
        have hw0 : IntKind.i64.wrap 0 = 0 := by decide
        have hw1 : IntKind.i64.wrap 1 = 1 := by decide
        have hw2 : IntKind.i64.wrap 2 = 2 := by decide
        have hw3 : IntKind.i64.wrap 3 = 3 := by decide
        have hw8 : IntKind.i64.wrap 8 = 8 := by decide
        have hw16 : IntKind.i64.wrap 16 = 16 := by decide
        have hw24 : IntKind.i64.wrap 24 = 24 := by decide
        refine wp_region_still_tail 17 (by kernel_rfl) (by kernel_rfl) ?_
        simp only [List.take_succ_cons, List.take_zero, List.drop_succ_cons, List.drop_zero]
        change wpStill _ _ (World.drew _) _ _ _
        repeat still_step
        refine wpStill_nil ?_
        change wpList _ _ _ _ _ (World.drew _)
        clear hw0 hw1 hw2 hw3 hw8 hw16 hw24
        go_wp2
        have hb2 := (hb.set 1 (.int .u32 (A.xat (4 / 4) (mulF (4 % 4) (z 4))).x1) (c' := arrS (A.xat (4 / 4) (mulF (4 % 4) (z 4))) y h) rfl).drew
        have hg2 := drewR (grown_set (p := ⟨b, 1, none⟩) hg rfl (.int .u32 (A.xat (4 / 4) (mulF (4 % 4) (z 4))).x1))
        go_roundw
        case rel => exact ⟨5, by omega, rfl, by rw [HS.out]; exact hb2, hg2⟩
        case measure => simp [intOf]
      · obtain ⟨z0, z1⟩ := HZ.out 5
        have k1 := (hb.drew).cell (k := 1) (v := .int .u32 A.x1) rfl
        have k3 := (hb.drew).frozen 1
        have hix : ∀ w, (Instr.index 60 (.agg (arr16 z)) (.int .i64 5)).run Try.prog w = .ok (.int .u8 (z 5)) w := fun w => by kernel_rfl
        have e0 := Go.IntWalk.u32_in (z 5) (by omega)
        have e1 := Go.IntWalk.u32_in (z 5 * 256) (by omega)
        have e2 : bits .xor .u32 A.x1 (z 5 * 256) = (A.xat (5 / 4) (mulF (5 % 4) (z 5))).x1 := xor_fold _ _
        go_wp2
        clear hix
        have hw0 : IntKind.i64.wrap 0 = 0 := by decide
        have hw1 : IntKind.i64.wrap 1 = 1 := by decide
        have hw2 : IntKind.i64.wrap 2 = 2 := by decide
        have hw3 : IntKind.i64.wrap 3 = 3 := by decide
        have hw8 : IntKind.i64.wrap 8 = 8 := by decide
        have hw16 : IntKind.i64.wrap 16 = 16 := by decide
        have hw24 : IntKind.i64.wrap 24 = 24 := by decide
        refine wp_region_still_tail 17 (by kernel_rfl) (by kernel_rfl) ?_
        simp only [List.take_succ_cons, List.take_zero, List.drop_succ_cons, List.drop_zero]
        change wpStill _ _ (World.drew _) _ _ _
        repeat still_step
        refine wpStill_nil ?_
        change wpList _ _ _ _ _ (World.drew _)
        clear hw0 hw1 hw2 hw3 hw8 hw16 hw24
        go_wp2
        have hb2 := (hb.set 1 (.int .u32 (A.xat (5 / 4) (mulF (5 % 4) (z 5))).x1) (c' := arrS (A.xat (5 / 4) (mulF (5 % 4) (z 5))) y h) rfl).drew
        have hg2 := drewR (grown_set (p := ⟨b, 1, none⟩) hg rfl (.int .u32 (A.xat (5 / 4) (mulF (5 % 4) (z 5))).x1))
        go_roundw
        case rel => exact ⟨6, by omega, rfl, by rw [HS.out]; exact hb2, hg2⟩
        case measure => simp [intOf]
      · obtain ⟨z0, z1⟩ := HZ.out 6
        have k1 := (hb.drew).cell (k := 1) (v := .int .u32 A.x1) rfl
        have k3 := (hb.drew).frozen 1
        have hix : ∀ w, (Instr.index 60 (.agg (arr16 z)) (.int .i64 6)).run Try.prog w = .ok (.int .u8 (z 6)) w := fun w => by kernel_rfl
        have e0 := Go.IntWalk.u32_in (z 6) (by omega)
        have e1 := Go.IntWalk.u32_in (z 6 * 65536) (by omega)
        have e2 : bits .xor .u32 A.x1 (z 6 * 65536) = (A.xat (6 / 4) (mulF (6 % 4) (z 6))).x1 := xor_fold _ _
        go_wp2
        clear hix
        have hw0 : IntKind.i64.wrap 0 = 0 := by decide
        have hw1 : IntKind.i64.wrap 1 = 1 := by decide
        have hw2 : IntKind.i64.wrap 2 = 2 := by decide
        have hw3 : IntKind.i64.wrap 3 = 3 := by decide
        have hw8 : IntKind.i64.wrap 8 = 8 := by decide
        have hw16 : IntKind.i64.wrap 16 = 16 := by decide
        have hw24 : IntKind.i64.wrap 24 = 24 := by decide
        refine wp_region_still_tail 17 (by kernel_rfl) (by kernel_rfl) ?_
        simp only [List.take_succ_cons, List.take_zero, List.drop_succ_cons, List.drop_zero]
        change wpStill _ _ (World.drew _) _ _ _
        repeat still_step
        refine wpStill_nil ?_
        change wpList _ _ _ _ _ (World.drew _)
        clear hw0 hw1 hw2 hw3 hw8 hw16 hw24
        go_wp2
        have hb2 := (hb.set 1 (.int .u32 (A.xat (6 / 4) (mulF (6 % 4) (z 6))).x1) (c' := arrS (A.xat (6 / 4) (mulF (6 % 4) (z 6))) y h) rfl).drew
        have hg2 := drewR (grown_set (p := ⟨b, 1, none⟩) hg rfl (.int .u32 (A.xat (6 / 4) (mulF (6 % 4) (z 6))).x1))
        go_roundw
        case rel => exact ⟨7, by omega, rfl, by rw [HS.out]; exact hb2, hg2⟩
        case measure => simp [intOf]
      · obtain ⟨z0, z1⟩ := HZ.out 7
        have k1 := (hb.drew).cell (k := 1) (v := .int .u32 A.x1) rfl
        have k3 := (hb.drew).frozen 1
        have hix : ∀ w, (Instr.index 60 (.agg (arr16 z)) (.int .i64 7)).run Try.prog w = .ok (.int .u8 (z 7)) w := fun w => by kernel_rfl
        have e0 := Go.IntWalk.u32_in (z 7) (by omega)
        have e1 := Go.IntWalk.u32_in (z 7 * 16777216) (by omega)
        have e2 : bits .xor .u32 A.x1 (z 7 * 16777216) = (A.xat (7 / 4) (mulF (7 % 4) (z 7))).x1 := xor_fold _ _
        go_wp2
        clear hix
        have hw0 : IntKind.i64.wrap 0 = 0 := by decide
        have hw1 : IntKind.i64.wrap 1 = 1 := by decide
        have hw2 : IntKind.i64.wrap 2 = 2 := by decide
        have hw3 : IntKind.i64.wrap 3 = 3 := by decide
        have hw8 : IntKind.i64.wrap 8 = 8 := by decide
        have hw16 : IntKind.i64.wrap 16 = 16 := by decide
        have hw24 : IntKind.i64.wrap 24 = 24 := by decide
        refine wp_region_still_tail 17 (by kernel_rfl) (by kernel_rfl) ?_
        simp only [List.take_succ_cons, List.take_zero, List.drop_succ_cons, List.drop_zero]
        change wpStill _ _ (World.drew _) _ _ _
        repeat still_step
        refine wpStill_nil ?_
        change wpList _ _ _ _ _ (World.drew _)
        clear hw0 hw1 hw2 hw3 hw8 hw16 hw24
        go_wp2
        have hb2 := (hb.set 1 (.int .u32 (A.xat (7 / 4) (mulF (7 % 4) (z 7))).x1) (c' := arrS (A.xat (7 / 4) (mulF (7 % 4) (z 7))) y h) rfl).drew
        have hg2 := drewR (grown_set (p := ⟨b, 1, none⟩) hg rfl (.int .u32 (A.xat (7 / 4) (mulF (7 % 4) (z 7))).x1))
        go_roundw
        case rel => exact ⟨8, by omega, rfl, by rw [HS.out]; exact hb2, hg2⟩
        case measure => simp [intOf]
      · obtain ⟨z0, z1⟩ := HZ.out 8
        have k1 := (hb.drew).cell (k := 2) (v := .int .u32 A.x2) rfl
        have k3 := (hb.drew).frozen 2
        have hix : ∀ w, (Instr.index 60 (.agg (arr16 z)) (.int .i64 8)).run Try.prog w = .ok (.int .u8 (z 8)) w := fun w => by kernel_rfl
        have e0 := Go.IntWalk.u32_in (z 8) (by omega)
        have e1 := Go.IntWalk.u32_in (z 8 * 1) (by omega)
        have e2 : bits .xor .u32 A.x2 (z 8) = (A.xat (8 / 4) (mulF (8 % 4) (z 8))).x2 := xor_fold _ _
        go_wp2
        clear hix
        have hw0 : IntKind.i64.wrap 0 = 0 := by decide
        have hw1 : IntKind.i64.wrap 1 = 1 := by decide
        have hw2 : IntKind.i64.wrap 2 = 2 := by decide
        have hw3 : IntKind.i64.wrap 3 = 3 := by decide
        have hw8 : IntKind.i64.wrap 8 = 8 := by decide
        have hw16 : IntKind.i64.wrap 16 = 16 := by decide
        have hw24 : IntKind.i64.wrap 24 = 24 := by decide
        refine wp_region_still_tail 17 (by kernel_rfl) (by kernel_rfl) ?_
        simp only [List.take_succ_cons, List.take_zero, List.drop_succ_cons, List.drop_zero]
        change wpStill _ _ (World.drew _) _ _ _
        repeat still_step
        refine wpStill_nil ?_
        change wpList _ _ _ _ _ (World.drew _)
        clear hw0 hw1 hw2 hw3 hw8 hw16 hw24
        go_wp2
        have hb2 := (hb.set 2 (.int .u32 (A.xat (8 / 4) (mulF (8 % 4) (z 8))).x2) (c' := arrS (A.xat (8 / 4) (mulF (8 % 4) (z 8))) y h) rfl).drew
        have hg2 := drewR (grown_set (p := ⟨b, 2, none⟩) hg rfl (.int .u32 (A.xat (8 / 4) (mulF (8 % 4) (z 8))).x2))
        go_roundw
        case rel => exact ⟨9, by omega, rfl, by rw [HS.out]; exact hb2, hg2⟩
        case measure => simp [intOf]
      · obtain ⟨z0, z1⟩ := HZ.out 9
        have k1 := (hb.drew).cell (k := 2) (v := .int .u32 A.x2) rfl
        have k3 := (hb.drew).frozen 2
        have hix : ∀ w, (Instr.index 60 (.agg (arr16 z)) (.int .i64 9)).run Try.prog w = .ok (.int .u8 (z 9)) w := fun w => by kernel_rfl
        have e0 := Go.IntWalk.u32_in (z 9) (by omega)
        have e1 := Go.IntWalk.u32_in (z 9 * 256) (by omega)
        have e2 : bits .xor .u32 A.x2 (z 9 * 256) = (A.xat (9 / 4) (mulF (9 % 4) (z 9))).x2 := xor_fold _ _
        go_wp2
        clear hix
        have hw0 : IntKind.i64.wrap 0 = 0 := by decide
        have hw1 : IntKind.i64.wrap 1 = 1 := by decide
        have hw2 : IntKind.i64.wrap 2 = 2 := by decide
        have hw3 : IntKind.i64.wrap 3 = 3 := by decide
        have hw8 : IntKind.i64.wrap 8 = 8 := by decide
        have hw16 : IntKind.i64.wrap 16 = 16 := by decide
        have hw24 : IntKind.i64.wrap 24 = 24 := by decide
        refine wp_region_still_tail 17 (by kernel_rfl) (by kernel_rfl) ?_
        simp only [List.take_succ_cons, List.take_zero, List.drop_succ_cons, List.drop_zero]
        change wpStill _ _ (World.drew _) _ _ _
        repeat still_step
        refine wpStill_nil ?_
        change wpList _ _ _ _ _ (World.drew _)
        clear hw0 hw1 hw2 hw3 hw8 hw16 hw24
        go_wp2
        have hb2 := (hb.set 2 (.int .u32 (A.xat (9 / 4) (mulF (9 % 4) (z 9))).x2) (c' := arrS (A.xat (9 / 4) (mulF (9 % 4) (z 9))) y h) rfl).drew
        have hg2 := drewR (grown_set (p := ⟨b, 2, none⟩) hg rfl (.int .u32 (A.xat (9 / 4) (mulF (9 % 4) (z 9))).x2))
        go_roundw
        case rel => exact ⟨10, by omega, rfl, by rw [HS.out]; exact hb2, hg2⟩
        case measure => simp [intOf]
      · obtain ⟨z0, z1⟩ := HZ.out 10
        have k1 := (hb.drew).cell (k := 2) (v := .int .u32 A.x2) rfl
        have k3 := (hb.drew).frozen 2
        have hix : ∀ w, (Instr.index 60 (.agg (arr16 z)) (.int .i64 10)).run Try.prog w = .ok (.int .u8 (z 10)) w := fun w => by kernel_rfl
        have e0 := Go.IntWalk.u32_in (z 10) (by omega)
        have e1 := Go.IntWalk.u32_in (z 10 * 65536) (by omega)
        have e2 : bits .xor .u32 A.x2 (z 10 * 65536) = (A.xat (10 / 4) (mulF (10 % 4) (z 10))).x2 := xor_fold _ _
        go_wp2
        clear hix
        have hw0 : IntKind.i64.wrap 0 = 0 := by decide
        have hw1 : IntKind.i64.wrap 1 = 1 := by decide
        have hw2 : IntKind.i64.wrap 2 = 2 := by decide
        have hw3 : IntKind.i64.wrap 3 = 3 := by decide
        have hw8 : IntKind.i64.wrap 8 = 8 := by decide
        have hw16 : IntKind.i64.wrap 16 = 16 := by decide
        have hw24 : IntKind.i64.wrap 24 = 24 := by decide
        refine wp_region_still_tail 17 (by kernel_rfl) (by kernel_rfl) ?_
        simp only [List.take_succ_cons, List.take_zero, List.drop_succ_cons, List.drop_zero]
        change wpStill _ _ (World.drew _) _ _ _
        repeat still_step
        refine wpStill_nil ?_
        change wpList _ _ _ _ _ (World.drew _)
        clear hw0 hw1 hw2 hw3 hw8 hw16 hw24
        go_wp2
        have hb2 := (hb.set 2 (.int .u32 (A.xat (10 / 4) (mulF (10 % 4) (z 10))).x2) (c' := arrS (A.xat (10 / 4) (mulF (10 % 4) (z 10))) y h) rfl).drew
        have hg2 := drewR (grown_set (p := ⟨b, 2, none⟩) hg rfl (.int .u32 (A.xat (10 / 4) (mulF (10 % 4) (z 10))).x2))
        go_roundw
        case rel => exact ⟨11, by omega, rfl, by rw [HS.out]; exact hb2, hg2⟩
        case measure => simp [intOf]
      · obtain ⟨z0, z1⟩ := HZ.out 11
        have k1 := (hb.drew).cell (k := 2) (v := .int .u32 A.x2) rfl
        have k3 := (hb.drew).frozen 2
        have hix : ∀ w, (Instr.index 60 (.agg (arr16 z)) (.int .i64 11)).run Try.prog w = .ok (.int .u8 (z 11)) w := fun w => by kernel_rfl
        have e0 := Go.IntWalk.u32_in (z 11) (by omega)
        have e1 := Go.IntWalk.u32_in (z 11 * 16777216) (by omega)
        have e2 : bits .xor .u32 A.x2 (z 11 * 16777216) = (A.xat (11 / 4) (mulF (11 % 4) (z 11))).x2 := xor_fold _ _
        go_wp2
        clear hix
        have hw0 : IntKind.i64.wrap 0 = 0 := by decide
        have hw1 : IntKind.i64.wrap 1 = 1 := by decide
        have hw2 : IntKind.i64.wrap 2 = 2 := by decide
        have hw3 : IntKind.i64.wrap 3 = 3 := by decide
        have hw8 : IntKind.i64.wrap 8 = 8 := by decide
        have hw16 : IntKind.i64.wrap 16 = 16 := by decide
        have hw24 : IntKind.i64.wrap 24 = 24 := by decide
        refine wp_region_still_tail 17 (by kernel_rfl) (by kernel_rfl) ?_
        simp only [List.take_succ_cons, List.take_zero, List.drop_succ_cons, List.drop_zero]
        change wpStill _ _ (World.drew _) _ _ _
        repeat still_step
        refine wpStill_nil ?_
        change wpList _ _ _ _ _ (World.drew _)
        clear hw0 hw1 hw2 hw3 hw8 hw16 hw24
        go_wp2
        have hb2 := (hb.set 2 (.int .u32 (A.xat (11 / 4) (mulF (11 % 4) (z 11))).x2) (c' := arrS (A.xat (11 / 4) (mulF (11 % 4) (z 11))) y h) rfl).drew
        have hg2 := drewR (grown_set (p := ⟨b, 2, none⟩) hg rfl (.int .u32 (A.xat (11 / 4) (mulF (11 % 4) (z 11))).x2))
        go_roundw
        case rel => exact ⟨12, by omega, rfl, by rw [HS.out]; exact hb2, hg2⟩
        case measure => simp [intOf]
      · obtain ⟨z0, z1⟩ := HZ.out 12
        have k1 := (hb.drew).cell (k := 3) (v := .int .u32 A.x3) rfl
        have k3 := (hb.drew).frozen 3
        have hix : ∀ w, (Instr.index 60 (.agg (arr16 z)) (.int .i64 12)).run Try.prog w = .ok (.int .u8 (z 12)) w := fun w => by kernel_rfl
        have e0 := Go.IntWalk.u32_in (z 12) (by omega)
        have e1 := Go.IntWalk.u32_in (z 12 * 1) (by omega)
        have e2 : bits .xor .u32 A.x3 (z 12) = (A.xat (12 / 4) (mulF (12 % 4) (z 12))).x3 := xor_fold _ _
        go_wp2
        clear hix
        have hw0 : IntKind.i64.wrap 0 = 0 := by decide
        have hw1 : IntKind.i64.wrap 1 = 1 := by decide
        have hw2 : IntKind.i64.wrap 2 = 2 := by decide
        have hw3 : IntKind.i64.wrap 3 = 3 := by decide
        have hw8 : IntKind.i64.wrap 8 = 8 := by decide
        have hw16 : IntKind.i64.wrap 16 = 16 := by decide
        have hw24 : IntKind.i64.wrap 24 = 24 := by decide
        refine wp_region_still_tail 17 (by kernel_rfl) (by kernel_rfl) ?_
        simp only [List.take_succ_cons, List.take_zero, List.drop_succ_cons, List.drop_zero]
        change wpStill _ _ (World.drew _) _ _ _
        repeat still_step
        refine wpStill_nil ?_
        change wpList _ _ _ _ _ (World.drew _)
        clear hw0 hw1 hw2 hw3 hw8 hw16 hw24
        go_wp2
        have hb2 := (hb.set 3 (.int .u32 (A.xat (12 / 4) (mulF (12 % 4) (z 12))).x3) (c' := arrS (A.xat (12 / 4) (mulF (12 % 4) (z 12))) y h) rfl).drew
        have hg2 := drewR (grown_set (p := ⟨b, 3, none⟩) hg rfl (.int .u32 (A.xat (12 / 4) (mulF (12 % 4) (z 12))).x3))
        go_roundw
        case rel => exact ⟨13, by omega, rfl, by rw [HS.out]; exact hb2, hg2⟩
        case measure => simp [intOf]
      · obtain ⟨z0, z1⟩ := HZ.out 13
        have k1 := (hb.drew).cell (k := 3) (v := .int .u32 A.x3) rfl
        have k3 := (hb.drew).frozen 3
        have hix : ∀ w, (Instr.index 60 (.agg (arr16 z)) (.int .i64 13)).run Try.prog w = .ok (.int .u8 (z 13)) w := fun w => by kernel_rfl
        have e0 := Go.IntWalk.u32_in (z 13) (by omega)
        have e1 := Go.IntWalk.u32_in (z 13 * 256) (by omega)
        have e2 : bits .xor .u32 A.x3 (z 13 * 256) = (A.xat (13 / 4) (mulF (13 % 4) (z 13))).x3 := xor_fold _ _
        go_wp2
        clear hix
        have hw0 : IntKind.i64.wrap 0 = 0 := by decide
        have hw1 : IntKind.i64.wrap 1 = 1 := by decide
        have hw2 : IntKind.i64.wrap 2 = 2 := by decide
        have hw3 : IntKind.i64.wrap 3 = 3 := by decide
        have hw8 : IntKind.i64.wrap 8 = 8 := by decide
        have hw16 : IntKind.i64.wrap 16 = 16 := by decide
        have hw24 : IntKind.i64.wrap 24 = 24 := by decide
        refine wp_region_still_tail 17 (by kernel_rfl) (by kernel_rfl) ?_
        simp only [List.take_succ_cons, List.take_zero, List.drop_succ_cons, List.drop_zero]
        change wpStill _ _ (World.drew _) _ _ _
        repeat still_step
        refine wpStill_nil ?_
        change wpList _ _ _ _ _ (World.drew _)
        clear hw0 hw1 hw2 hw3 hw8 hw16 hw24
        go_wp2
        have hb2 := (hb.set 3 (.int .u32 (A.xat (13 / 4) (mulF (13 % 4) (z 13))).x3) (c' := arrS (A.xat (13 / 4) (mulF (13 % 4) (z 13))) y h) rfl).drew
        have hg2 := drewR (grown_set (p := ⟨b, 3, none⟩) hg rfl (.int .u32 (A.xat (13 / 4) (mulF (13 % 4) (z 13))).x3))
        go_roundw
        case rel => exact ⟨14, by omega, rfl, by rw [HS.out]; exact hb2, hg2⟩
        case measure => simp [intOf]
      · obtain ⟨z0, z1⟩ := HZ.out 14
        have k1 := (hb.drew).cell (k := 3) (v := .int .u32 A.x3) rfl
        have k3 := (hb.drew).frozen 3
        have hix : ∀ w, (Instr.index 60 (.agg (arr16 z)) (.int .i64 14)).run Try.prog w = .ok (.int .u8 (z 14)) w := fun w => by kernel_rfl
        have e0 := Go.IntWalk.u32_in (z 14) (by omega)
        have e1 := Go.IntWalk.u32_in (z 14 * 65536) (by omega)
        have e2 : bits .xor .u32 A.x3 (z 14 * 65536) = (A.xat (14 / 4) (mulF (14 % 4) (z 14))).x3 := xor_fold _ _
        go_wp2
        clear hix
        have hw0 : IntKind.i64.wrap 0 = 0 := by decide
        have hw1 : IntKind.i64.wrap 1 = 1 := by decide
        have hw2 : IntKind.i64.wrap 2 = 2 := by decide
        have hw3 : IntKind.i64.wrap 3 = 3 := by decide
        have hw8 : IntKind.i64.wrap 8 = 8 := by decide
        have hw16 : IntKind.i64.wrap 16 = 16 := by decide
        have hw24 : IntKind.i64.wrap 24 = 24 := by decide
        refine wp_region_still_tail 17 (by kernel_rfl) (by kernel_rfl) ?_
        simp only [List.take_succ_cons, List.take_zero, List.drop_succ_cons, List.drop_zero]
        change wpStill _ _ (World.drew _) _ _ _
        repeat still_step
        refine wpStill_nil ?_
        change wpList _ _ _ _ _ (World.drew _)
        clear hw0 hw1 hw2 hw3 hw8 hw16 hw24
        go_wp2
        have hb2 := (hb.set 3 (.int .u32 (A.xat (14 / 4) (mulF (14 % 4) (z 14))).x3) (c' := arrS (A.xat (14 / 4) (mulF (14 % 4) (z 14))) y h) rfl).drew
        have hg2 := drewR (grown_set (p := ⟨b, 3, none⟩) hg rfl (.int .u32 (A.xat (14 / 4) (mulF (14 % 4) (z 14))).x3))
        go_roundw
        case rel => exact ⟨15, by omega, rfl, by rw [HS.out]; exact hb2, hg2⟩
        case measure => simp [intOf]
      · obtain ⟨z0, z1⟩ := HZ.out 15
        have k1 := (hb.drew).cell (k := 3) (v := .int .u32 A.x3) rfl
        have k3 := (hb.drew).frozen 3
        have hix : ∀ w, (Instr.index 60 (.agg (arr16 z)) (.int .i64 15)).run Try.prog w = .ok (.int .u8 (z 15)) w := fun w => by kernel_rfl
        have e0 := Go.IntWalk.u32_in (z 15) (by omega)
        have e1 := Go.IntWalk.u32_in (z 15 * 16777216) (by omega)
        have e2 : bits .xor .u32 A.x3 (z 15 * 16777216) = (A.xat (15 / 4) (mulF (15 % 4) (z 15))).x3 := xor_fold _ _
        go_wp2
        clear hix
        have hw0 : IntKind.i64.wrap 0 = 0 := by decide
        have hw1 : IntKind.i64.wrap 1 = 1 := by decide
        have hw2 : IntKind.i64.wrap 2 = 2 := by decide
        have hw3 : IntKind.i64.wrap 3 = 3 := by decide
        have hw8 : IntKind.i64.wrap 8 = 8 := by decide
        have hw16 : IntKind.i64.wrap 16 = 16 := by decide
        have hw24 : IntKind.i64.wrap 24 = 24 := by decide
        refine wp_region_still_tail 17 (by kernel_rfl) (by kernel_rfl) ?_
        simp only [List.take_succ_cons, List.take_zero, List.drop_succ_cons, List.drop_zero]
        change wpStill _ _ (World.drew _) _ _ _
        repeat still_step
        refine wpStill_nil ?_
        change wpList _ _ _ _ _ (World.drew _)
        clear hw0 hw1 hw2 hw3 hw8 hw16 hw24
        go_wp2
        have hb2 := (hb.set 3 (.int .u32 (A.xat (15 / 4) (mulF (15 % 4) (z 15))).x3) (c' := arrS (A.xat (15 / 4) (mulF (15 % 4) (z 15))) y h) rfl).drew
        have hg2 := drewR (grown_set (p := ⟨b, 3, none⟩) hg rfl (.int .u32 (A.xat (15 / 4) (mulF (15 % 4) (z 15))).x3))
        go_roundw
        case rel => exact ⟨16, by omega, rfl, by rw [HS.out]; exact hb2, hg2⟩
        case measure => simp [intOf]
    · obtain rfl : k = 16 := by omega
      have ok := OK.out 16
      have OKK := hid ok
      clear ok
      go_wp2_with (refine wpList_load_sub rfl _ (.tmp 32) rfl _ _ rfl _ _ hb (arrW (absN z s 16)) (arrS_sub _ _ _) _ Try.underlying25 rfl (sizeW _) ?_)
      refine (mix_any _ OKK.out _).mono ?_
      rintro e v2 ⟨rfl, bM⟩
      have hb2 := hb.step bM
      have hgm := grownBy_of_below bM (some b)
      go_wp2_with (refine wpList_store_sub rfl _ (.tmp 36) _ rfl _ _ rfl (arrW (mixW (absN z s 16))) rfl (arrW_one _) _ _ hb2 (by simp [arrW, arrS]) (arrS (mixW (absN z s 16)) y h) rfl (sizeW _) ?_; intro v3 g3 b3)
      exact ⟨rfl, .tuple #[], (by kernel_rfl), rfl, grown_trans' (grown_trans' hg hgm) g3, b3⟩
end Go.Proofs.Ytgccbfkofkohpaa
namespace Go.Proofs.Ytgccbfkofkohpaa
set_option linter.unusedVariables false
set_option maxRecDepth 20000
set_option linter.unusedSimpArgs false
open Go.ChangeShapes Go.WideShapes Go.ChangeAt Go.RowKit

/-- Byte j of eight. -/
def byt (n : Int) (j : Nat) : Int := n / 256 ^ (7 - j) % 256
theorem byt_bd (n : Int) (j : Nat) : 0 ≤ byt n j ∧ byt n j < 256 := by unfold byt; omega
theorem make8 (w : World) : (Instr.makeSlice 43 (.int .i64 8) (.int .i64 8)).run Try.prog w = .ok (.slice (some ⟨w.heap.size, 0, none⟩) 8 8) (w.alloc (.cells (madeCells #[.int .u8 0] 8) 5)) := by kernel_rfl
set_option maxHeartbeats 4000000 in
set_option maxRecDepth 100000 in
theorem eight_any (n : Int) (h0 : 0 ≤ n) (h1 : n < 9223372036854775808) (w : World) :
    Calls Try.prog 61 #[.int .i64 n] w fun e w' => e = .returned (.slice (some ⟨w.heap.size, 0, none⟩) 8 8) ∧ Below w.heap.size w w' ∧ w'.rowIs w.heap.size 5 8 (fun j => .int .u8 (byt n j)) := by
  have hm := make8
  have r0 := World.rowIs_made w (.int .u8 0) 8 5
  have gb := step_alloc w (.cells (madeCells #[.int .u8 0] 8) 5)
  go_enter Try.func61, Try.ntmps61
  go_wp2
  clear hm
  generalize World.alloc _ _ = W at *
  go_loopw [8] (fun i wr => ∃ k : Nat, k ≤ 8 ∧ i = .int .i64 k ∧ wr.rowIs w.heap.size 5 8 (fun j => if 8 - k ≤ j then .int .u8 (byt n j) else .int .u8 0) ∧ Below w.heap.size w wr) (fun i _ => 8 - (intOf i).toNat)
  case atStart => exact ⟨0, by omega, rfl, r0.congr fun j hj => by rw [if_neg (by omega)], gb⟩
  case round =>
    obtain ⟨k, hk, rfl, hr, hB⟩ := hrel
    clear r0 gb
    by_cases hlt : k < 8
    · have hkk : k = 0 ∨ k = 1 ∨ k = 2 ∨ k = 3 ∨ k = 4 ∨ k = 5 ∨ k = 6 ∨ k = 7 := by omega
      clear hlt hk
      rcases hkk with rfl | rfl | rfl | rfl | rfl | rfl | rfl | rfl
      · have c1 := hr.cell (i := 7) (by omega)
        have c2 := hr.frozen 7
        have e : n % 256 = byt n 7 := by unfold byt; simp
        go_wp2
        go_roundw
        case rel =>
          refine ⟨1, by omega, rfl, (hr.set 7 _).congr fun j hj => ?_, hB.setCell (p := ⟨w.heap.size, 7, none⟩) (Nat.le_refl _) _⟩
          by_cases ej : j = 7
          · subst ej; rw [if_pos rfl, if_pos (by omega)]
          · rw [if_neg ej]
            by_cases h9 : 8 - 0 ≤ j
            · rw [if_pos h9, if_pos (by omega)]
            · rw [if_neg h9, if_neg (by omega)]
        case measure => simp [intOf]
      · have c1 := hr.cell (i := 6) (by omega)
        have c2 := hr.frozen 6
        have e : n / 256 % 256 = byt n 6 := by unfold byt; rfl
        go_wp2
        go_roundw
        case rel =>
          refine ⟨2, by omega, rfl, (hr.set 6 _).congr fun j hj => ?_, hB.setCell (p := ⟨w.heap.size, 6, none⟩) (Nat.le_refl _) _⟩
          by_cases ej : j = 6
          · subst ej; rw [if_pos rfl, if_pos (by omega)]
          · rw [if_neg ej]
            by_cases h9 : 8 - 1 ≤ j
            · rw [if_pos h9, if_pos (by omega)]
            · rw [if_neg h9, if_neg (by omega)]
        case measure => simp [intOf]
      · have c1 := hr.cell (i := 5) (by omega)
        have c2 := hr.frozen 5
        have e : n / 65536 % 256 = byt n 5 := by unfold byt; rfl
        go_wp2
        go_roundw
        case rel =>
          refine ⟨3, by omega, rfl, (hr.set 5 _).congr fun j hj => ?_, hB.setCell (p := ⟨w.heap.size, 5, none⟩) (Nat.le_refl _) _⟩
          by_cases ej : j = 5
          · subst ej; rw [if_pos rfl, if_pos (by omega)]
          · rw [if_neg ej]
            by_cases h9 : 8 - 2 ≤ j
            · rw [if_pos h9, if_pos (by omega)]
            · rw [if_neg h9, if_neg (by omega)]
        case measure => simp [intOf]
      · have c1 := hr.cell (i := 4) (by omega)
        have c2 := hr.frozen 4
        have e : n / 16777216 % 256 = byt n 4 := by unfold byt; rfl
        go_wp2
        go_roundw
        case rel =>
          refine ⟨4, by omega, rfl, (hr.set 4 _).congr fun j hj => ?_, hB.setCell (p := ⟨w.heap.size, 4, none⟩) (Nat.le_refl _) _⟩
          by_cases ej : j = 4
          · subst ej; rw [if_pos rfl, if_pos (by omega)]
          · rw [if_neg ej]
            by_cases h9 : 8 - 3 ≤ j
            · rw [if_pos h9, if_pos (by omega)]
            · rw [if_neg h9, if_neg (by omega)]
        case measure => simp [intOf]
      · have c1 := hr.cell (i := 3) (by omega)
        have c2 := hr.frozen 3
        have e : n / 4294967296 % 256 = byt n 3 := by unfold byt; rfl
        go_wp2
        go_roundw
        case rel =>
          refine ⟨5, by omega, rfl, (hr.set 3 _).congr fun j hj => ?_, hB.setCell (p := ⟨w.heap.size, 3, none⟩) (Nat.le_refl _) _⟩
          by_cases ej : j = 3
          · subst ej; rw [if_pos rfl, if_pos (by omega)]
          · rw [if_neg ej]
            by_cases h9 : 8 - 4 ≤ j
            · rw [if_pos h9, if_pos (by omega)]
            · rw [if_neg h9, if_neg (by omega)]
        case measure => simp [intOf]
      · have c1 := hr.cell (i := 2) (by omega)
        have c2 := hr.frozen 2
        have e : n / 1099511627776 % 256 = byt n 2 := by unfold byt; rfl
        go_wp2
        go_roundw
        case rel =>
          refine ⟨6, by omega, rfl, (hr.set 2 _).congr fun j hj => ?_, hB.setCell (p := ⟨w.heap.size, 2, none⟩) (Nat.le_refl _) _⟩
          by_cases ej : j = 2
          · subst ej; rw [if_pos rfl, if_pos (by omega)]
          · rw [if_neg ej]
            by_cases h9 : 8 - 5 ≤ j
            · rw [if_pos h9, if_pos (by omega)]
            · rw [if_neg h9, if_neg (by omega)]
        case measure => simp [intOf]
      · have c1 := hr.cell (i := 1) (by omega)
        have c2 := hr.frozen 1
        have e : n / 281474976710656 % 256 = byt n 1 := by unfold byt; rfl
        go_wp2
        go_roundw
        case rel =>
          refine ⟨7, by omega, rfl, (hr.set 1 _).congr fun j hj => ?_, hB.setCell (p := ⟨w.heap.size, 1, none⟩) (Nat.le_refl _) _⟩
          by_cases ej : j = 1
          · subst ej; rw [if_pos rfl, if_pos (by omega)]
          · rw [if_neg ej]
            by_cases h9 : 8 - 6 ≤ j
            · rw [if_pos h9, if_pos (by omega)]
            · rw [if_neg h9, if_neg (by omega)]
        case measure => simp [intOf]
      · have c1 := hr.cell (i := 0) (by omega)
        have c2 := hr.frozen 0
        have e : n / 72057594037927936 = byt n 0 := by unfold byt; rw [show (256 : Int) ^ (7 - 0) = 72057594037927936 by decide]; omega
        go_wp2
        go_roundw
        case rel =>
          refine ⟨8, by omega, rfl, (hr.set 0 _).congr fun j hj => ?_, hB.setCell (p := ⟨w.heap.size, 0, none⟩) (Nat.le_refl _) _⟩
          by_cases ej : j = 0
          · subst ej; rw [if_pos rfl, if_pos (by omega)]
          · rw [if_neg ej]
            by_cases h9 : 8 - 7 ≤ j
            · rw [if_pos h9, if_pos (by omega)]
            · rw [if_neg h9, if_neg (by omega)]
        case measure => simp [intOf]
    · obtain rfl : k = 8 := by omega
      go_wp2
      go_ret
      exact ⟨rfl, hB, hr.congr fun j hj => by rw [if_pos (by omega)]⟩
end Go.Proofs.Ytgccbfkofkohpaa
