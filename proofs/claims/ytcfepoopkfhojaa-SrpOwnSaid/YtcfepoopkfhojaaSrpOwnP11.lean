/- What SrpOwn stands on, part 11. -/
import Derived.Test.YtcfepoopkfhojaaSrpOwnP1
import Derived.Test.YtcfepoopkfhojaaSrpOwnP2
import Derived.Test.YtcfepoopkfhojaaSrpOwnP3
import Derived.Test.YtcfepoopkfhojaaSrpOwnP4
import Derived.Test.YtcfepoopkfhojaaSrpOwnP5
import Derived.Test.YtcfepoopkfhojaaSrpOwnP6
import Derived.Test.YtcfepoopkfhojaaSrpOwnP7
import Derived.Test.YtcfepoopkfhojaaSrpOwnP8
import Derived.Test.YtcfepoopkfhojaaSrpOwnP9
import Derived.Test.YtcfepoopkfhojaaSrpOwnP10
namespace Go.Proofs.Ytcfepoopkfhojaa
set_option linter.unusedVariables false
set_option maxRecDepth 20000
set_option linter.unusedSimpArgs false
open Go.ChangeShapes Go.WideShapes Go.ChangeAt Go.RowKit Go.Shelf
theorem shello_is (k : Int) (P Q g : Nat) (ho : P % 2 = 1) (h1 : 1 < P) (hP : P < 4294967296 ^ 8) (h2 : 2 < Q) (hQ : Q < 4294967296 ^ 8) (hg : g < 4294967296 ^ 8) (t : ByteArray) (lp ld : List UInt8) (hpl : lp.length ≤ 100000) {X : SideN} {A : Nat} (hX : ⟨k, P, Q, g, t, lp, g ^ texN Q [97] [ld] % P, 0, texN Q [97] [ld], [], 0, fun _ => 0, fun _ => 0⟩ = X) (hA : g ^ texN Q [97] [ld] % P = A) (w : World) (vp vd : Value) (hp : IsB w lp vp) (hd : IsB w ld vd) :
    Calls Try.prog 10 #[.agg (groupA k P Q g), .string t, vp, vd] w fun e w' => ∃ v, e = .returned v ∧ ∃ y : SideV, v = .tuple #[.agg (sideA X y), numV A] ∧ SideIs w' X y ∧ (∀ b, bfp y.vp b → w.heap.size ≤ b) ∧ (∀ b, bfp y.vs b → w.heap.size ≤ b) ∧ Below w.heap.size w w' := by
  subst hX hA
  exact (hello_any k P Q g ho h1 hP h2 hQ hg t lp ld vp vd hpl w hp hd).mono fun e w' ⟨vc, h1, h2, h3, h4⟩ => ⟨_, h1, ⟨vc, .slice none 0 0⟩, rfl, h2, h3, fun b hb => absurd hb (bfp_nil7 b), h4⟩
theorem soffer_is (k : Int) (P Q g : Nat) (ho : P % 2 = 1) (h1 : 1 < P) (hP4 : P < 4294967296) (h2 : 2 < Q) (hQ : Q < 4294967296 ^ 8) (hg : g < 4294967296 ^ 8) (r : RecN) (hr : r.a < 4294967296 ^ 8) (hs : r.s.size ≤ 1000) (hrl : r.l2.length ≤ 100000) (a : Nat) (ha : a < 4294967296 ^ 8) (ld : List UInt8) {ok : Bool} {X : SideN} {B : Nat} (hk : offOk P Q g r.a a (texN Q [98] [ld]) = ok) (hX : cond ok (shareN (offS k P Q g r.s r.l2 r.a a (texN Q [98] [ld])) (offN P Q g r.a a (texN Q [98] [ld]))) zeroS = X) (hB : cond ok (offB P Q g r.a (texN Q [98] [ld])) 0 = B) (w : World) (V : RecV) (vd : Value) (hm : RecIs w r V) (hd : IsB w ld vd) :
    Calls Try.prog 14 #[.agg (groupA k P Q g), .agg (recA r V), numV a, vd] w fun e w' => ∃ v, e = .returned v ∧ ∃ y : SideV, v = .tuple #[.agg (sideA X y), numV B, .bool ok] ∧ SideIs w' X y ∧ (∀ b, bfp y.vp b → w.heap.size ≤ b) ∧ (∀ b, bfp y.vs b → w.heap.size ≤ b) ∧ Below w.heap.size w w' := by
  have h := offer_any k P Q g ho h1 (Nat.lt_trans hP4 (by decide)) h2 hQ (Nat.le_of_lt hP4) hg r V hr hs hrl a ha ld vd w hm hd
  rw [hk, hX, hB] at h
  exact h.mono fun e w' ⟨vc, h1, h2, h3, h4⟩ => ⟨_, h1, ⟨.slice none 0 0, vc⟩, rfl, h2, fun b hb => absurd hb (bfp_nil7 b), h3, h4⟩
theorem sprove_is (x : SideN) (ho : x.P % 2 = 1) (h1 : 1 < x.P) (hP4 : x.P < 4294967296) (h2 : 2 < x.Q) (hQ4 : x.Q ≤ 4294967296) (hO : x.O < 4294967296) (hg : x.g < 4294967296 ^ 8) (ht : x.s.size ≤ 1000) (hpl : x.lp.length ≤ 100000) (l : List UInt8) (hll : l.length ≤ 100000) (b : Nat) (hb : b < 4294967296 ^ 8) {ok : Bool} {X : SideN} {Y : Nat → Int} (hk : prvOk x l b = ok) (hX : cond ok (shareN (prvS x l b) (prvN x l b)) zeroS = X) (hY : X.Pr = Y) (w : World) (y : SideV) (vl : Value) (hx : SideIs w x y) (hd : IsB w l vl) :
    Calls Try.prog 16 #[.agg (sideA x y), vl, numV b] w fun e w' => ∃ v, e = .returned v ∧ ∃ y : SideV, v = .tuple #[.agg (sideA X y), .agg (arr16 Y), .bool ok] ∧ SideIs w' X y ∧ (∀ b, bfp y.vp b → w.heap.size ≤ b) ∧ (∀ b, bfp y.vs b → w.heap.size ≤ b) ∧ Below w.heap.size w w' := by
  have h := prove_any x y ho h1 hP4 h2 hQ4 hO hg ht hpl l hll vl b hb w hx hd
  rw [hk, hX, hY] at h
  exact h.mono fun e w' ⟨y', h1, h2⟩ => ⟨_, h1, y', rfl, h2⟩
theorem offB_lt {P Q g v o : Nat} (h0 : 0 < P) (hP : P < 4294967296 ^ 8) : offB P Q g v o < 4294967296 ^ 8 := by
  unfold offB
  exact Nat.lt_trans (Nat.mod_lt _ h0) hP
theorem cond_lt {b : Bool} {X B N : Nat} (h : cond b X 0 = B) (hX : X < N) (h0 : 0 < N) : B < N := by
  subst h
  cases b
  · exact h0
  · exact hX
end Go.Proofs.Ytcfepoopkfhojaa
namespace Go.Proofs.Ytcfepoopkfhojaa
set_option linter.unusedVariables false
set_option maxRecDepth 20000
set_option linter.unusedSimpArgs false
open Go.ChangeShapes Go.WideShapes Go.ChangeAt Go.RowKit
theorem fields_group : ((Try.prog.fieldsOf 30).toList.map fun f => (f.name, f.type, f.offset)) = [("Bits", 3, 0), ("P", 28, 1), ("Q", 28, 9), ("G", 28, 17)] := by kernel_rfl
section
variable (k : Int) (p q g : Nat) (w : World)
theorem gpart_k : (part 3 (groupA k p q g) 0).run Try.prog w = .ok (.int .i64 k) w := by kernel_rfl
theorem gpart_p : (part 28 (groupA k p q g) 1).run Try.prog w = .ok (.agg (numA p)) w := by kernel_rfl
theorem gpart_q : (part 28 (groupA k p q g) 9).run Try.prog w = .ok (.agg (numA q)) w := by kernel_rfl
theorem gpart_g : (part 28 (groupA k p q g) 17).run Try.prog w = .ok (.agg (numA g)) w := by kernel_rfl
theorem under_int : Try.prog.underlying 3 = some (.int .i64) := by kernel_rfl
theorem eq_group : (Op.equalIn 10000 30 (.agg (groupA k p q g)) (.agg (groupA k p q g))).run Try.prog w = .ok true w := by
  rw [run_equalIn_struct w 9999 _ _ _ (by kernel_rfl) (by kernel_rfl), eqF_of, fields_group]
  have hn : (Op.equalIn 9999 3 (.int .i64 k) (.int .i64 k)).run Try.prog w = .ok true w := by
    have := run_equalIn_int (P := Try.prog) w 9998 3 .i64 .i64 k k under_int
    simpa using this
  simp [eqF, Sem.run_bind, gpart_k, gpart_p, gpart_q, gpart_g, eqd_same, hn]
end
end Go.Proofs.Ytcfepoopkfhojaa
namespace Go.Proofs.Ytcfepoopkfhojaa
set_option linter.unusedVariables false
set_option maxRecDepth 20000
set_option linter.unusedSimpArgs false
open Go.ChangeShapes Go.WideShapes Go.ChangeAt Go.RowKit
set_option maxRecDepth 100000 in
set_option maxHeartbeats 4000000 in
theorem same_self (x : SideN) (y z : SideV) (w : World) (hx : SideIs w x y) (hz : SideIs w x z) :
    Calls Try.prog 20 #[.agg (sideA x y), .agg (sideA x z)] w fun e w' => e = .returned (.bool true) ∧ Below w.heap.size w w' := by
  obtain ⟨vp, vs⟩ := y
  obtain ⟨Ap, cp, rfl⟩ := id hx.hp.shape
  obtain ⟨As, cs, rfl⟩ := id hx.hs.shape
  obtain ⟨up, us⟩ := z
  obtain ⟨Bp, dp, rfl⟩ := id hz.hp.shape
  obtain ⟨Bs, ds, rfl⟩ := id hz.hs.shape
  refine calls_fx (args := [.agg (sideA x ⟨.slice Ap x.lp.length cp, .slice As x.ls.length cs⟩), .agg (sideA x ⟨.slice Bp x.lp.length dp, .slice Bs x.ls.length ds⟩)]) 77 Try.func20 rfl rfl rfl ?_
  intro fa F
  have M := Mx.start w
  replace M := M.argB 0 hx.hp (fun g e => by cases e)
  replace M := M.argB 1 hx.hs (fun g e => by cases e)
  replace M := M.argB 2 hz.hp (fun g e => by cases e)
  replace M := M.argB 3 hz.hs (fun g e => by cases e)
  refine wp_seq_k fun K1 hK1 => ?_
  refine wp_region_lit ?_
  refine wl_alloc (wanted_none rfl) rfl F rfl M 4 (t := 54) (c := sideA x ⟨.slice Ap x.lp.length cp, .slice As x.ls.length cs⟩) (by unfold execOp; simp only [(F.get (t := 0) rfl)]; kernel_rfl) ?_
  intro g2 a2 w2 F2 M2
  clear F M
  refine wl_alloc (wanted_none rfl) rfl F2 rfl M2 5 (t := 54) (c := sideA x ⟨.slice Bp x.lp.length dp, .slice Bs x.ls.length ds⟩) (by unfold execOp; simp only [(F2.get (t := 1) rfl)]; kernel_rfl) ?_
  intro g3 a3 w3 F3 M3
  clear F2 M2
  refine rm rfl F3 fun a4 F4 => ?_
  refine hK1 _ _ ?_
  refine wp_seq_k fun K5 hK5 => ?_
  simp only [List.append_eq, List.cons_append, List.nil_append]
  refine wp_region_lit ?_
  refine exS 4 [(2, .pointer (some ⟨g2, 0, none⟩)), (3, .pointer (some ⟨g3, 0, none⟩)), (4, .bool false), (6, .agg (groupA x.k x.P x.Q x.g)), (8, .agg (groupA x.k x.P x.Q x.g))] [0, 1] (dcons (M3.blk (k := 4) rfl) (dcons (M3.blk (k := 5) rfl) dnil)) [g2, g3] F4 (by kernel_rfl) fun a6 F6 => ?_
  clear F4
  simp only [List.drop_succ_cons, List.drop_zero]
  refine wl_run (w' := w3) (wanted_none rfl) rfl F6 rfl (.bool true) (y_eqA _ _ _ _ rfl (F6.get (t := 6) rfl) (F6.get (t := 8) rfl) (by kernel_rfl) (eq_group _ _ _ _ _)) fun a7 F7 => ?_
  clear F6
  refine exS 5 [(2, .pointer (some ⟨g2, 0, none⟩)), (3, .pointer (some ⟨g3, 0, none⟩)), (4, .bool false), (10, .bool true), (12, .string x.s), (14, .string x.s)] [0, 1] (dcons (M3.blk (k := 4) rfl) (dcons (M3.blk (k := 5) rfl) dnil)) [g2, g3] F7 (by kernel_rfl) fun a8 F8 => ?_
  clear F7
  simp only [List.drop_succ_cons, List.drop_zero]
  refine wl_run (w' := w3) (wanted_yes rfl rfl rfl (F8.get (t := 10) rfl)) rfl F8 rfl (.bool true) (y_eqS _ _ _ rfl (F8.get (t := 12) rfl) (F8.get (t := 14) rfl) (str_eq rfl)) fun a9 F9 => ?_
  clear F8
  refine exS 4 [(2, .pointer (some ⟨g2, 0, none⟩)), (3, .pointer (some ⟨g3, 0, none⟩)), (4, .bool false), (17, .bool true), (19, .slice Ap x.lp.length cp)] [0] (dcons (M3.blk (k := 4) rfl) dnil) [g2] F9 (by kernel_rfl) fun a10 F10 => ?_
  clear F9
  simp only [List.drop_succ_cons, List.drop_zero]
  refine wl_run (w' := w3) (wanted_yes rfl rfl rfl (F10.get (t := 17) rfl)) rfl F10 rfl (.string (⟨(x.lp).toArray⟩)) (y_str _ rfl (F10.get (t := 19) rfl) (M3.isb (k := 0) rfl)) fun a11 F11 => ?_
  clear F10
  refine exA 2 [(21, .pointer (some ⟨g3, 26, none⟩)), (22, .slice Bp x.lp.length dp)] [0] (dcons (M3.blk (k := 5) rfl) dnil) [g3] F11 (by kernel_rfl) (by kernel_rfl) fun a12 F12 => ?_
  clear F11
  simp only [List.drop_succ_cons, List.drop_zero]
  refine wl_run (w' := w3) (wanted_yes rfl rfl rfl (F12.get (t := 17) rfl)) rfl F12 rfl (.string (⟨(x.lp).toArray⟩)) (y_str _ rfl (F12.get (t := 22) rfl) (M3.isb (k := 2) rfl)) fun a13 F13 => ?_
  clear F12
  refine wl_run (w' := w3) (wanted_yes rfl rfl rfl (F13.get (t := 17) rfl)) rfl F13 rfl (.bool true) (y_eqS _ _ _ rfl (F13.get (t := 20) rfl) (F13.get (t := 23) rfl) (str_eq rfl)) fun a14 F14 => ?_
  clear F13
  refine exS 6 [(2, .pointer (some ⟨g2, 0, none⟩)), (3, .pointer (some ⟨g3, 0, none⟩)), (4, .bool false), (26, .bool true), (28, numV x.A), (30, numV x.A)] [0, 1] (dcons (M3.blk (k := 4) rfl) (dcons (M3.blk (k := 5) rfl) dnil)) [g2, g3] F14 (by kernel_rfl) fun a15 F15 => ?_
  clear F14
  simp only [List.drop_succ_cons, List.drop_zero]
  refine wl_run (w' := w3) (wanted_yes rfl rfl rfl (F15.get (t := 26) rfl)) rfl F15 rfl (.bool true) (y_eqA _ _ _ _ rfl (F15.get (t := 28) rfl) (F15.get (t := 30) rfl) (by kernel_rfl) (eqn_same x.A _)) fun a16 F16 => ?_
  clear F15
  refine exS 6 [(2, .pointer (some ⟨g2, 0, none⟩)), (3, .pointer (some ⟨g3, 0, none⟩)), (4, .bool false), (33, .bool true), (35, numV x.B), (37, numV x.B)] [0, 1] (dcons (M3.blk (k := 4) rfl) (dcons (M3.blk (k := 5) rfl) dnil)) [g2, g3] F16 (by kernel_rfl) fun a17 F17 => ?_
  clear F16
  simp only [List.drop_succ_cons, List.drop_zero]
  refine wl_run (w' := w3) (wanted_yes rfl rfl rfl (F17.get (t := 33) rfl)) rfl F17 rfl (.bool true) (y_eqA _ _ _ _ rfl (F17.get (t := 35) rfl) (F17.get (t := 37) rfl) (by kernel_rfl) (eqn_same x.B _)) fun a18 F18 => ?_
  clear F17
  refine exS 6 [(2, .pointer (some ⟨g2, 0, none⟩)), (3, .pointer (some ⟨g3, 0, none⟩)), (4, .bool false), (40, .bool true), (42, numV x.O), (44, numV x.O)] [0, 1] (dcons (M3.blk (k := 4) rfl) (dcons (M3.blk (k := 5) rfl) dnil)) [g2, g3] F18 (by kernel_rfl) fun a19 F19 => ?_
  clear F18
  simp only [List.drop_succ_cons, List.drop_zero]
  refine wl_run (w' := w3) (wanted_yes rfl rfl rfl (F19.get (t := 40) rfl)) rfl F19 rfl (.bool true) (y_eqA _ _ _ _ rfl (F19.get (t := 42) rfl) (F19.get (t := 44) rfl) (by kernel_rfl) (eqn_same x.O _)) fun a20 F20 => ?_
  clear F19
  refine exS 4 [(2, .pointer (some ⟨g2, 0, none⟩)), (3, .pointer (some ⟨g3, 0, none⟩)), (4, .bool false), (47, .bool true), (49, .slice As x.ls.length cs)] [0] (dcons (M3.blk (k := 4) rfl) dnil) [g2] F20 (by kernel_rfl) fun a21 F21 => ?_
  clear F20
  simp only [List.drop_succ_cons, List.drop_zero]
  refine wl_run (w' := w3) (wanted_yes rfl rfl rfl (F21.get (t := 47) rfl)) rfl F21 rfl (.string (⟨(x.ls).toArray⟩)) (y_str _ rfl (F21.get (t := 49) rfl) (M3.isb (k := 1) rfl)) fun a22 F22 => ?_
  clear F21
  refine exA 2 [(51, .pointer (some ⟨g3, 51, none⟩)), (52, .slice Bs x.ls.length ds)] [0] (dcons (M3.blk (k := 5) rfl) dnil) [g3] F22 (by kernel_rfl) (by kernel_rfl) fun a23 F23 => ?_
  clear F22
  simp only [List.drop_succ_cons, List.drop_zero]
  refine wl_run (w' := w3) (wanted_yes rfl rfl rfl (F23.get (t := 47) rfl)) rfl F23 rfl (.string (⟨(x.ls).toArray⟩)) (y_str _ rfl (F23.get (t := 52) rfl) (M3.isb (k := 3) rfl)) fun a24 F24 => ?_
  clear F23
  refine wl_run (w' := w3) (wanted_yes rfl rfl rfl (F24.get (t := 47) rfl)) rfl F24 rfl (.bool true) (y_eqS _ _ _ rfl (F24.get (t := 50) rfl) (F24.get (t := 53) rfl) (str_eq rfl)) fun a25 F25 => ?_
  clear F24
  refine exS 6 [(2, .pointer (some ⟨g2, 0, none⟩)), (3, .pointer (some ⟨g3, 0, none⟩)), (4, .bool false), (56, .bool true), (58, numV x.V), (60, numV x.V)] [0, 1] (dcons (M3.blk (k := 4) rfl) (dcons (M3.blk (k := 5) rfl) dnil)) [g2, g3] F25 (by kernel_rfl) fun a26 F26 => ?_
  clear F25
  simp only [List.drop_succ_cons, List.drop_zero]
  refine wl_run (w' := w3) (wanted_yes rfl rfl rfl (F26.get (t := 56) rfl)) rfl F26 rfl (.bool true) (y_eqA _ _ _ _ rfl (F26.get (t := 58) rfl) (F26.get (t := 60) rfl) (by kernel_rfl) (eqn_same x.V _)) fun a27 F27 => ?_
  clear F26
  refine exS 6 [(2, .pointer (some ⟨g2, 0, none⟩)), (3, .pointer (some ⟨g3, 0, none⟩)), (4, .bool false), (63, .bool true), (65, .agg (arr16 x.Ky)), (67, .agg (arr16 x.Ky))] [0, 1] (dcons (M3.blk (k := 4) rfl) (dcons (M3.blk (k := 5) rfl) dnil)) [g2, g3] F27 (by kernel_rfl) fun a28 F28 => ?_
  clear F27
  simp only [List.drop_succ_cons, List.drop_zero]
  refine wl_run (w' := w3) (wanted_yes rfl rfl rfl (F28.get (t := 63) rfl)) rfl F28 rfl (.bool true) (run_eq16 _ _ rfl x.Ky (F28.get (t := 65) rfl) (F28.get (t := 67) rfl)) fun a29 F29 => ?_
  clear F28
  refine exS 6 [(4, .bool false), (70, .bool true), (72, .agg (arr16 x.Pr)), (74, .agg (arr16 x.Pr))] [0, 1] (dcons (M3.blk (k := 4) rfl) (dcons (M3.blk (k := 5) rfl) dnil)) [g2, g3] F29 (by kernel_rfl) fun a30 F30 => ?_
  clear F29
  simp only [List.drop_succ_cons, List.drop_zero]
  refine wl_run (w' := w3) (wanted_yes rfl rfl rfl (F30.get (t := 70) rfl)) rfl F30 rfl (.bool true) (run_eq16 _ _ rfl x.Pr (F30.get (t := 72) rfl) (F30.get (t := 74) rfl)) fun a31 F31 => ?_
  clear F30
  refine exS 2 [(4, .bool true)] [] dnil [] F31 (by kernel_rfl) fun a32 F32 => ?_
  clear F31
  simp only [List.drop_succ_cons, List.drop_zero]
  refine hK5 _ _ ?_
  refine wp_ret ?_
  try simp only [Exit.then, Exit.inBlock, Exit.jump]
  exact bodyPost_ret (res1 rfl (F32.get (t := 4) rfl)) F32.defers ⟨rfl, M3.below⟩
end Go.Proofs.Ytcfepoopkfhojaa
namespace Go.Proofs.Ytcfepoopkfhojaa
def kX : Nat := secN 16301 [117] [112] [115]
def kV : Nat := 4 ^ kX % 32603
def kA : Nat := texN 16301 [97] [[49]]
def kB : Nat := texN 16301 [98] [[50]]
def kAA : Nat := 4 ^ kA % 32603
end Go.Proofs.Ytcfepoopkfhojaa
namespace Go.Proofs.Ytcfepoopkfhojaa
set_option linter.unusedVariables false
set_option maxRecDepth 20000
set_option linter.unusedSimpArgs false
open Go.ChangeShapes Go.WideShapes Go.ChangeAt Go.RowKit
theorem kn_off : offOk 32603 16301 4 kV kAA kB = true := by decide +kernel
def kC : SideN := ⟨15, 32603, 16301, 4, { data := #[117] }, [112], kAA, 0, kA, [], 0, fun _ => 0, fun _ => 0⟩
theorem kn_prv : prvOk kC [115] (offB 32603 16301 4 kV kB) = true := by decide +kernel
theorem kn_num : offN 32603 16301 4 kV kAA kB = prvN kC [115] (offB 32603 16301 4 kV kB) := by decide +kernel
noncomputable def kS : SideN := shareN (offS 15 32603 16301 4 { data := #[117] } [115] kV kAA kB) (offN 32603 16301 4 kV kAA kB)
noncomputable def kD : SideN := shareN (prvS kC [115] (offB 32603 16301 4 kV kB)) (prvN kC [115] (offB 32603 16301 4 kV kB))
theorem kn_Ky : kD.Ky = kS.Ky := by
  unfold kD kS shareN
  rw [kn_num]
theorem kn_Pr : kD.Pr = kS.Pr := by
  unfold kD kS shareN
  rw [kn_num]; rfl
theorem kn_ok : SideOk kS ∧ SideOk kD := ⟨⟨outF_bd _, outF_bd _⟩, ⟨outF_bd _, outF_bd _⟩⟩
end Go.Proofs.Ytcfepoopkfhojaa
namespace Go.Proofs.Ytcfepoopkfhojaa
set_option linter.unusedVariables false
set_option maxRecDepth 20000
set_option linter.unusedSimpArgs false
open Go.ChangeShapes Go.WideShapes Go.ChangeAt Go.RowKit
def chkT (k p D E : Nat) : Bool := primeF p D && (primeF (p / 2) D && (List.range (2 ^ k - 1 - p)).all fun j => compF (2 ^ k - 1 - j) E || compF ((2 ^ k - 1 - j) / 2) E)
theorem tab_of {k p D E : Nat} (hk : k ≤ 31) (h4 : 4 ≤ p) (hp : p < 2 ^ k) (hD : p < (D + 1) * (D + 1)) (hE : E * E ≤ p / 2) (h : chkT k p D E = true) : safeB (p : Int) = true ∧ ∀ x : Int, (p : Int) < x → x < 2 ^ k → safeB x = false := by
  unfold chkT at h
  simp only [Bool.and_eq_true, List.all_eq_true, Bool.or_eq_true] at h
  obtain ⟨h1, h2, h3⟩ := h
  have hl : 2 ^ k ≤ 2 ^ 31 := Nat.pow_le_pow_right (by decide) hk
  generalize hM : 2 ^ k = M at *
  have hM2 : M ≤ 2147483648 := hl
  have hE2 : E * E ≤ p := Nat.le_trans hE (Nat.div_le_self _ _)
  constructor
  · unfold safeB
    rw [primeF_yes (by omega) (by omega) hD h1, show ((p : Nat) : Int) / 2 = ((p / 2 : Nat) : Int) by omega, primeF_yes (by omega) (by omega) (by omega) h2]
    rfl
  · intro x x0 x1
    obtain ⟨y, rfl⟩ := Int.eq_ofNat_of_zero_le (show 0 ≤ x by omega)
    have e : ((2 : Int) ^ k) = ((M : Nat) : Int) := by rw [← hM]; simp
    rw [e] at x1
    have h4 := h3 (M - 1 - y) (List.mem_range.2 (by omega))
    rw [show M - 1 - (M - 1 - y) = y by omega] at h4
    unfold safeB
    rcases h4 with h4 | h4
    · rw [compF_no (by omega) h4]; simp
    · rw [show ((y : Nat) : Int) / 2 = ((y / 2 : Nat) : Int) by omega, compF_no (Nat.le_trans hE (Nat.div_le_div_right (by omega))) h4]; rfl
theorem tab12 : chkT 12 4079 63 45 = true := by decide +kernel
end Go.Proofs.Ytcfepoopkfhojaa
namespace Go.Proofs.Ytcfepoopkfhojaa
set_option linter.unusedVariables false
set_option maxRecDepth 20000
set_option linter.unusedSimpArgs false
open Go.ChangeShapes Go.WideShapes Go.ChangeAt Go.RowKit
set_option maxRecDepth 100000
theorem tab13 : chkT 13 8147 90 63 = true := by decide +kernel
theorem tab14 : chkT 14 16223 127 90 = true := by decide +kernel
theorem tab15 : chkT 15 32603 180 127 = true := by decide +kernel
theorem tab16 : chkT 16 65267 255 180 = true := by decide +kernel
theorem tab17 : chkT 17 130787 361 255 = true := by decide +kernel
theorem tab18 : chkT 18 262127 511 362 = true := by decide +kernel
theorem tab19 : chkT 19 524243 724 511 = true := by decide +kernel
theorem tab20 : chkT 20 1048343 1023 723 = true := by decide +kernel
theorem tab21 : chkT 21 2097143 1448 1023 = true := by decide +kernel
theorem tab22 : chkT 22 4194287 2047 1448 = true := by decide +kernel
theorem tab23 : chkT 23 8388287 2896 2047 = true := by decide +kernel
theorem tab24 : chkT 24 16776899 4095 2896 = true := by decide +kernel
theorem tab25 : chkT 25 33553799 5792 4095 = true := by decide +kernel
theorem tab26 : chkT 26 67108187 8191 5792 = true := by decide +kernel
theorem tab27 : chkT 27 134217323 11585 8191 = true := by decide +kernel
theorem tabs {k : Nat} (h0 : 12 ≤ k) (h1 : k ≤ 27) : ∃ p : Nat, 4 ≤ p ∧ p % 2 = 1 ∧ p < 2 ^ k ∧ safeB (p : Int) = true ∧ ∀ x : Int, (p : Int) < x → x < 2 ^ k → safeB x = false := by
  have : k = 12 ∨ k = 13 ∨ k = 14 ∨ k = 15 ∨ k = 16 ∨ k = 17 ∨ k = 18 ∨ k = 19 ∨ k = 20 ∨ k = 21 ∨ k = 22 ∨ k = 23 ∨ k = 24 ∨ k = 25 ∨ k = 26 ∨ k = 27 := by omega
  rcases this with rfl | rfl | rfl | rfl | rfl | rfl | rfl | rfl | rfl | rfl | rfl | rfl | rfl | rfl | rfl | rfl
  · exact ⟨4079, by decide, by decide, by decide, tab_of (D := 63) (E := 45) (by decide) (by decide) (by decide) (by decide) (by decide) tab12⟩
  · exact ⟨8147, by decide, by decide, by decide, tab_of (D := 90) (E := 63) (by decide) (by decide) (by decide) (by decide) (by decide) tab13⟩
  · exact ⟨16223, by decide, by decide, by decide, tab_of (D := 127) (E := 90) (by decide) (by decide) (by decide) (by decide) (by decide) tab14⟩
  · exact ⟨32603, by decide, by decide, by decide, tab_of (D := 180) (E := 127) (by decide) (by decide) (by decide) (by decide) (by decide) tab15⟩
  · exact ⟨65267, by decide, by decide, by decide, tab_of (D := 255) (E := 180) (by decide) (by decide) (by decide) (by decide) (by decide) tab16⟩
  · exact ⟨130787, by decide, by decide, by decide, tab_of (D := 361) (E := 255) (by decide) (by decide) (by decide) (by decide) (by decide) tab17⟩
  · exact ⟨262127, by decide, by decide, by decide, tab_of (D := 511) (E := 362) (by decide) (by decide) (by decide) (by decide) (by decide) tab18⟩
  · exact ⟨524243, by decide, by decide, by decide, tab_of (D := 724) (E := 511) (by decide) (by decide) (by decide) (by decide) (by decide) tab19⟩
  · exact ⟨1048343, by decide, by decide, by decide, tab_of (D := 1023) (E := 723) (by decide) (by decide) (by decide) (by decide) (by decide) tab20⟩
  · exact ⟨2097143, by decide, by decide, by decide, tab_of (D := 1448) (E := 1023) (by decide) (by decide) (by decide) (by decide) (by decide) tab21⟩
  · exact ⟨4194287, by decide, by decide, by decide, tab_of (D := 2047) (E := 1448) (by decide) (by decide) (by decide) (by decide) (by decide) tab22⟩
  · exact ⟨8388287, by decide, by decide, by decide, tab_of (D := 2896) (E := 2047) (by decide) (by decide) (by decide) (by decide) (by decide) tab23⟩
  · exact ⟨16776899, by decide, by decide, by decide, tab_of (D := 4095) (E := 2896) (by decide) (by decide) (by decide) (by decide) (by decide) tab24⟩
  · exact ⟨33553799, by decide, by decide, by decide, tab_of (D := 5792) (E := 4095) (by decide) (by decide) (by decide) (by decide) (by decide) tab25⟩
  · exact ⟨67108187, by decide, by decide, by decide, tab_of (D := 8191) (E := 5792) (by decide) (by decide) (by decide) (by decide) (by decide) tab26⟩
  · exact ⟨134217323, by decide, by decide, by decide, tab_of (D := 11585) (E := 8191) (by decide) (by decide) (by decide) (by decide) (by decide) tab27⟩
end Go.Proofs.Ytcfepoopkfhojaa
namespace Go.Proofs.Ytcfepoopkfhojaa
set_option linter.unusedVariables false
set_option maxRecDepth 20000
set_option linter.unusedSimpArgs false
open Go.ChangeShapes Go.WideShapes Go.ChangeAt Go.RowKit
def RmR (k p : Int) (V : Value) : Prop := ((12 ≤ k ∧ k ≤ 31) ∧ V = .tuple #[.agg (groupA k p.toNat (p / 2).toNat 4), .bool true]) ∨ (¬ (12 ≤ k ∧ k ≤ 31) ∧ V = .tuple #[.agg (groupA 0 0 0 0), .bool false])
theorem pow_even {k : Int} (h : 12 ≤ k ∧ k ≤ 31) : (2 : Int) ^ k.toNat % 2 = 0 := by
  obtain ⟨K, hK⟩ : ∃ K, k.toNat = K + 1 := ⟨k.toNat - 1, by omega⟩
  rw [hK, Int.pow_succ]
  omega
set_option maxRecDepth 100000 in
set_option maxHeartbeats 8000000 in
theorem rgmake_any (k p : Int) (h0 : -9223372036854775808 ≤ k) (h1 : k < 9223372036854775808) (hp : 12 ≤ k ∧ k ≤ 31 → p % 2 = 1 ∧ 3 ≤ p ∧ p < 2 ^ k.toNat ∧ safeB p = true ∧ ∀ x, p < x → x < 2 ^ k.toNat → safeB x = false) (w : World) :
    Calls Try.prog 24 #[.int .i64 k] w fun e w' => ∃ V, e = .returned V ∧ RmR k p V ∧ Below w.heap.size w w' := by
  skip
  go_enter Try.func24, Try.ntmps24
  go_upto_region 1 with fail
  obtain ⟨W, hW⟩ : ∃ W, W = w.alloc (.cells #[Value.int .i64 0, .int .u32 0, .int .u32 0, .int .u32 0, .int .u32 0, .int .u32 0, .int .u32 0, .int .u32 0, .int .u32 0, .int .u32 0, .int .u32 0, .int .u32 0, .int .u32 0, .int .u32 0, .int .u32 0, .int .u32 0, .int .u32 0, .int .u32 0, .int .u32 0, .int .u32 0, .int .u32 0, .int .u32 0, .int .u32 0, .int .u32 0, .int .u32 0] 30) := ⟨_, rfl⟩
  have q_g : Blk W (w.heap.size) 30 #[Value.int .i64 0, .int .u32 0, .int .u32 0, .int .u32 0, .int .u32 0, .int .u32 0, .int .u32 0, .int .u32 0, .int .u32 0, .int .u32 0, .int .u32 0, .int .u32 0, .int .u32 0, .int .u32 0, .int .u32 0, .int .u32 0, .int .u32 0, .int .u32 0, .int .u32 0, .int .u32 0, .int .u32 0, .int .u32 0, .int .u32 0, .int .u32 0, .int .u32 0] := by
    have := (Blk.new w 30 (groupA 0 0 0 0))
    rw [groupA_zero] at this
    rw [hW]; exact this
  have gb : Below w.heap.size w W := by rw [hW]; exact ((Below.refl _ _).alloc (by simp <;> omega) _)
  rw [← hW]
  clear hW
  have log := hid (show w.heap.size ≤ w.heap.size by omega)
  by_cases hr : 12 ≤ k ∧ k ≤ 31
  · have hr0 := hid hr
    obtain ⟨hpo, hp3, hpB, hps, hpn⟩ := hp hr
    obtain ⟨B, hB⟩ : ∃ B : Int, 2 ^ k.toNat = B := ⟨_, rfl⟩
    obtain ⟨b0, b1⟩ : 0 ≤ B ∧ B ≤ 2147483648 := by rw [← hB]; exact pow_k hr
    have hBe : B % 2 = 0 := by rw [← hB]; exact pow_even hr
    rw [hB] at hpB hpn
    have HN := hid hpn
    have HS := hid hps
    clear hps hpn hp
    obtain ⟨hk0, hk1⟩ := hr
    go_wp2_with fail
    go_loopw [4] (fun x wr => ∃ X : Int, p ≤ X ∧ X < B ∧ X % 2 = 1 ∧ x = .int .i64 X ∧ W = wr) (fun x _ => (intOf x).toNat)
    case atStart => exact ⟨B - 1, by omega, by omega, by omega, rfl, rfl⟩
    case round =>
      obtain ⟨X, x0, x1, x2, rfl, rfl⟩ := hrel
      clear hB
      obtain ⟨H, hH⟩ : ∃ H, X / 2 = H := ⟨_, rfl⟩
      have ht : (X - 1).tdiv 2 = H := by rw [Int.tdiv_eq_ediv_of_nonneg (by omega)]; omega
      obtain ⟨u0, u1⟩ : 0 ≤ H ∧ H < 2147483648 := by omega
      have k1 := fun w => rprime_any X (by omega) (by omega) w
      have k2 := fun w => rprime_any H (by omega) (by omega) w
      obtain ⟨c, hc⟩ : ∃ b, primeB X = b := ⟨_, rfl⟩
      obtain ⟨e, he⟩ : ∃ b, primeB H = b := ⟨_, rfl⟩
      have hse : safeB X = (e && c) := by unfold safeB; rw [hH, hc, he]
      rw [hc] at k1
      rw [he] at k2
      have HX := hid hH
      clear hc he hH
      by_cases hXp : X = p
      · subst hXp
        have hce : c = true ∧ e = true := by
          have := HS.out
          rw [hse] at this
          simpa [and_comm] using this
        obtain ⟨rfl, rfl⟩ := hce
        clear hse HN HS
        go_wp2_with fail
        refine (k1 _).mono ?_
        rintro e w1 ⟨rfl, rfl⟩
        go_wp2_with fail
        refine (k2 _).mono ?_
        rintro e w1 ⟨rfl, rfl⟩
        go_wp2_with fail
        refine (from_ref X (by omega) (by omega) _).mono ?_
        rintro e w4 ⟨rfl, bw4⟩
        have g4 := q_g.step bw4
        have c4 := step_trans gb bw4
        go_wp2_with fail
        refine (from_ref H (by omega) (by omega) _).mono ?_
        rintro e w5 ⟨rfl, bw5⟩
        have g5 := g4.step bw5
        have c5 := step_trans c4 bw5
        go_wp2_with fail
        refine (from_ref 4 (by omega) (by omega) _).mono ?_
        rintro e w6 ⟨rfl, bw6⟩
        have g6 := g5.step bw6
        have c6 := step_trans c5 bw6
        clear q_g gb bw4 g4 c4 bw5 g5 c5 bw6
        go_wp2_with (first | (refine wpList_op rfl _ (run_buildG (k := k) (p := X.toNat) (q := H.toNat) (g := 4) _ _ _ _ rfl rfl rfl rfl rfl) ?_) | (refine wpList_store_blk rfl _ (.tmp 2) _ rfl _ rfl (groupA k X.toNat H.toNat 4) rfl (groupA_cells _ _ _ _) _ g6 rfl size_group ?_; intro wz gz mz))
        exact bodyPost_ret (results_blk_tmp rfl rfl mz Try.underlying30 rfl size_group) rfl ⟨.tuple #[.agg (groupA k X.toNat H.toNat 4), .bool true], rfl, .inl ⟨hr0.out, by rw [HX.out]⟩, below_of_grown c6 gz c6.size (by omega)⟩
      · have hce : c = false ∨ (c = true ∧ e = false) := by
          have := HN.out X (by omega) x1
          rw [hse] at this
          cases c <;> cases e <;> simp_all
        clear hse
        rcases hce with rfl | ⟨rfl, rfl⟩
        · go_wp2_with fail
          refine (k1 _).mono ?_
          rintro e w1 ⟨rfl, rfl⟩
          go_wp2_with fail
          go_roundw
          case rel => exact ⟨X - 2, by omega, by omega, by omega, by go_num, (by first | rfl | trivial)⟩
          case measure => simp [intOf] <;> omega
        · go_wp2_with fail
          refine (k1 _).mono ?_
          rintro e w1 ⟨rfl, rfl⟩
          go_wp2_with fail
          refine (k2 _).mono ?_
          rintro e w1 ⟨rfl, rfl⟩
          go_wp2_with fail
          go_roundw
          case rel => exact ⟨X - 2, by omega, by omega, by omega, by go_num, (by first | rfl | trivial)⟩
          case measure => simp [intOf] <;> omega
  · have hr0 := hid hr
    have hway : k < 12 ∨ (¬ k < 12 ∧ 31 < k) := by omega
    rcases hway with hk | ⟨hk, hk2⟩
    · go_wp2_with (refine wpList_store_blk rfl _ (.tmp 2) _ rfl _ rfl (#[Value.int .i64 0, .int .u32 0, .int .u32 0, .int .u32 0, .int .u32 0, .int .u32 0, .int .u32 0, .int .u32 0, .int .u32 0, .int .u32 0, .int .u32 0, .int .u32 0, .int .u32 0, .int .u32 0, .int .u32 0, .int .u32 0, .int .u32 0, .int .u32 0, .int .u32 0, .int .u32 0, .int .u32 0, .int .u32 0, .int .u32 0, .int .u32 0, .int .u32 0]) rfl zG_cells _ q_g rfl size_group ?_; intro wz gz mz)
      rw [← groupA_zero] at mz
      exact bodyPost_ret (results_blk_tmp rfl rfl mz Try.underlying30 rfl size_group) rfl ⟨.tuple #[.agg (groupA 0 0 0 0), .bool false], rfl, .inr ⟨hr0.out, rfl⟩, below_of_grown gb gz gb.size (by omega)⟩
    · have hkd : decide (k < 12) = false := decide_eq_false hk
      go_wp2_with (refine wpList_store_blk rfl _ (.tmp 2) _ rfl _ rfl (#[Value.int .i64 0, .int .u32 0, .int .u32 0, .int .u32 0, .int .u32 0, .int .u32 0, .int .u32 0, .int .u32 0, .int .u32 0, .int .u32 0, .int .u32 0, .int .u32 0, .int .u32 0, .int .u32 0, .int .u32 0, .int .u32 0, .int .u32 0, .int .u32 0, .int .u32 0, .int .u32 0, .int .u32 0, .int .u32 0, .int .u32 0, .int .u32 0, .int .u32 0]) rfl zG_cells _ q_g rfl size_group ?_; intro wz gz mz)
      rw [← groupA_zero] at mz
      exact bodyPost_ret (results_blk_tmp rfl rfl mz Try.underlying30 rfl size_group) rfl ⟨.tuple #[.agg (groupA 0 0 0 0), .bool false], rfl, .inr ⟨hr0.out, rfl⟩, below_of_grown gb gz gb.size (by omega)⟩
end Go.Proofs.Ytcfepoopkfhojaa
namespace Go.Proofs.Ytcfepoopkfhojaa
set_option linter.unusedVariables false
set_option maxRecDepth 20000
set_option linter.unusedSimpArgs false
open Go.ChangeShapes Go.WideShapes Go.ChangeAt Go.RowKit
set_option maxHeartbeats 400000 in
theorem gwithin_any (a n : Int) (hn : 0 < n) (hn' : n < 9223372036854775808) (ha : -9223372036854775808 ≤ a) (ha' : a < 9223372036854775808) (w : World) :
    Calls Try.prog 25 #[.int .i64 a, .int .i64 n] w fun e w' => e = .returned (.int .i64 (a % n)) ∧ w = w' := by
  obtain ⟨h1, h2, h3, h4⟩ := tmod_case a n hn
  have hz : (n == 0) = false := by simp; omega
  by_cases h : a.tmod n < 0
  · have H := hid (h2 h)
    clear h1 h2
    go_enter Try.func25, Try.ntmps25
    go_wp2
    go_ret
    exact ⟨congrArg (fun x => Ending.returned (.int .i64 x)) H.out, rfl⟩
  · have H := hid (h1 (by omega))
    clear h1 h2
    go_enter Try.func25, Try.ntmps25
    go_wp2
    go_ret
    exact ⟨congrArg (fun x => Ending.returned (.int .i64 x)) H.out, rfl⟩
end Go.Proofs.Ytcfepoopkfhojaa
namespace Go.Proofs.Ytcfepoopkfhojaa
set_option linter.unusedVariables false
set_option maxRecDepth 20000
set_option linter.unusedSimpArgs false
open Go.ChangeShapes Go.WideShapes Go.ChangeAt Go.RowKit
theorem group_t {n : Int} (h0 : -9223372036854775808 ≤ n) (h1 : n < 9223372036854775808) : ∃ t : Nat, t < 9 ∧ ∀ w, Calls Try.prog 25 #[.int .i64 n, .int .i64 9] w fun e w' => e = .returned (.int .i64 (t : Int)) ∧ w = w' := by
  refine ⟨(n % 9).toNat, by omega, fun w => ?_⟩
  have := gwithin_any n 9 (by omega) (by omega) h0 h1 w
  rw [show (((n % 9).toNat : Nat) : Int) = n % 9 by omega]
  exact this
def GOk (k : Int) (p : Nat) : Prop := 12 ≤ k ∧ k ≤ 24 ∧ p % 2 = 1 ∧ 4000 < p ∧ p < 16777216 ∧ primeB (p : Int) = true ∧ primeB ((p / 2 : Nat) : Int) = true
theorem group_at {t : Nat} (ht : t < 9) : ∃ (k : Int) (p : Nat), (#[.int .i64 12, .int .i64 13, .int .i64 14, .int .i64 15, .int .i64 16, .int .i64 17, .int .i64 18, .int .i64 20, .int .i64 24] : Array Value)[t]? = some (.int .i64 k) ∧
    RunsTo 24 #[.int .i64 k] (.tuple #[.agg (groupA k p (p / 2) 4), .bool true]) ∧ GOk k p := by
  have key : ∀ K : Nat, 12 ≤ K → K ≤ 24 → ∃ p : Nat, RunsTo 24 #[.int .i64 (K : Int)] (.tuple #[.agg (groupA (K : Int) p (p / 2) 4), .bool true]) ∧ GOk (K : Int) p := fun K g0 g1 => by
    obtain ⟨p, p4, po, pl, ps, pn⟩ := tabs (k := K) (by omega) (by omega)
    have hl : 2 ^ K ≤ 2 ^ 24 := Nat.pow_le_pow_right (by decide) (by omega)
    have hp : p < 16777216 := Nat.lt_of_lt_of_le pl hl
    have e : ((2 : Int) ^ K) = ((2 ^ K : Nat) : Int) := by simp
    have hpr : primeB ((p : Int) / 2) = true ∧ primeB (p : Int) = true := by
      unfold safeB at ps
      simpa using ps
    have hq : ((p / 2 : Nat) : Int) = (p : Int) / 2 := by omega
    refine ⟨p, fun w => ?_, by omega, by omega, po, ?_, hp, hpr.2, by rw [hq]; exact hpr.1⟩
    · refine (rgmake_any (K : Int) (p : Int) (by omega) (by omega) (fun _ => ⟨by omega, by omega, by rw [Int.toNat_natCast, e]; exact_mod_cast pl, ps, by rw [Int.toNat_natCast]; exact pn⟩) w).mono ?_
      rintro e' w' ⟨V, rfl, hV, hb⟩
      rcases hV with ⟨-, hV⟩ | ⟨hn, -⟩
      · exact ⟨by rw [hV, Int.toNat_natCast, ← hq, Int.toNat_natCast], hb⟩
      · omega
    · refine Nat.lt_of_not_le fun hle => ?_
      have h40 : ((4079 : Nat) : Int) < 2 ^ K := by
        rw [e]
        have : 2 ^ 12 ≤ 2 ^ K := Nat.pow_le_pow_right (by decide) g0
        omega
      have := pn ((4079 : Nat) : Int) (by omega) h40
      rw [(tab_of (k := 12) (p := 4079) (D := 63) (E := 45) (by decide) (by decide) (by decide) (by decide) (by decide) tab12).1] at this
      cases this
  have : t = 0 ∨ t = 1 ∨ t = 2 ∨ t = 3 ∨ t = 4 ∨ t = 5 ∨ t = 6 ∨ t = 7 ∨ t = 8 := by omega
  rcases this with rfl | rfl | rfl | rfl | rfl | rfl | rfl | rfl | rfl
  · obtain ⟨p, h1, h2⟩ := key 12 (by decide) (by decide)
    exact ⟨12, p, rfl, h1, h2⟩
  · obtain ⟨p, h1, h2⟩ := key 13 (by decide) (by decide)
    exact ⟨13, p, rfl, h1, h2⟩
  · obtain ⟨p, h1, h2⟩ := key 14 (by decide) (by decide)
    exact ⟨14, p, rfl, h1, h2⟩
  · obtain ⟨p, h1, h2⟩ := key 15 (by decide) (by decide)
    exact ⟨15, p, rfl, h1, h2⟩
  · obtain ⟨p, h1, h2⟩ := key 16 (by decide) (by decide)
    exact ⟨16, p, rfl, h1, h2⟩
  · obtain ⟨p, h1, h2⟩ := key 17 (by decide) (by decide)
    exact ⟨17, p, rfl, h1, h2⟩
  · obtain ⟨p, h1, h2⟩ := key 18 (by decide) (by decide)
    exact ⟨18, p, rfl, h1, h2⟩
  · obtain ⟨p, h1, h2⟩ := key 20 (by decide) (by decide)
    exact ⟨20, p, rfl, h1, h2⟩
  · obtain ⟨p, h1, h2⟩ := key 24 (by decide) (by decide)
    exact ⟨24, p, rfl, h1, h2⟩
set_option maxRecDepth 100000 in
set_option maxHeartbeats 4000000 in
theorem group_any {n : Int} (h0 : -9223372036854775808 ≤ n) (h1 : n < 9223372036854775808) : ∃ (k : Int) (p : Nat), GOk k p ∧ RunsTo 7 #[.int .i64 n] (.agg (groupA k p (p / 2) 4)) := by
  obtain ⟨t, ht, kw⟩ := group_t h0 h1
  obtain ⟨k, p, hk, hr, hg⟩ := group_at ht
  refine ⟨k, p, hg, fun w => ?_⟩
  refine calls_fx (args := [.int .i64 n]) 15 Try.func7 rfl rfl rfl ?_
  intro fa F
  have M := Mx.start w
  refine wp_seq_k fun K1 hK1 => ?_
  refine wp_region_lit ?_
  refine wl_alloc (wanted_none rfl) rfl F rfl M 0 (t := 30) (c := groupA 0 0 0 0) (by unfold execOp; rw [groupA_zero]; kernel_rfl) ?_
  intro g2 a2 w2 F2 M2
  clear F M
  refine hK1 _ _ ?_
  refine wp_seq_k fun K3 hK3 => ?_
  refine wp_region_lit ?_
  refine wl_allocS (wanted_none rfl) rfl F2 rfl M2 1 (t := 3) (c := #[.int .i64 12, .int .i64 13, .int .i64 14, .int .i64 15, .int .i64 16, .int .i64 17, .int .i64 18, .int .i64 20, .int .i64 24]) (k := 9) (m := 9) (y_litI rfl #[.int .i64 12, .int .i64 13, .int .i64 14, .int .i64 15, .int .i64 16, .int .i64 17, .int .i64 18, .int .i64 20, .int .i64 24] rfl (by decide) (by decide) (by simp only [List.map_toArray, List.map_cons, List.map_nil]; kernel_rfl)) ?_
  intro g4 a4 w4 F4 M4
  clear F2 M2
  refine wl_run (w' := w4) (wanted_none rfl) rfl F4 rfl (.int .i64 n) (run_mv _ (.inl rfl) (F4.get (t := 0) rfl)) fun a5 F5 => ?_
  clear F4
  refine wl_call (wanted_none rfl) rfl F5 rfl rfl (enters_of Try.func25 (by kernel_rfl) rfl) #[.int .i64 n, .int .i64 9] (args2 (F5.get (t := 7) rfl) rfl) (call_ex (kw w4)) ?_
  rintro _ w6 a6 ⟨rfl, rfl⟩ F6
  refine wl_run (w' := w4) (wanted_none rfl) rfl F6 rfl (.pointer (some ⟨g4, t, none⟩)) (y_ixI _ _ rfl (F6.get (t := 6) rfl) (F6.get (t := 8) rfl) rfl ht (Nat.zero_add t)) fun a7 F7 => ?_
  clear F6
  refine wl_run (w' := w4) (wanted_none rfl) rfl F7 rfl (.int .i64 k) (y_ld1 _ _ rfl (F7.get (t := 9) rfl) (M4.blk (k := 1) rfl) hk Try.underlying3 rfl) fun a8 F8 => ?_
  clear F7
  refine wl_call (wanted_none rfl) rfl F8 rfl rfl (enters_of Try.func24 (by kernel_rfl) rfl) #[.int .i64 k] (args1 (F8.get (t := 10) rfl)) (call_ex (hr w4)) ?_
  rintro _ w9 a9 ⟨rfl, b9⟩ F9
  have M9 := M4.step b9
  refine wl_run (w' := w9) (wanted_none rfl) rfl F9 rfl (.tuple #[.agg (groupA k p (p / 2) 4), .bool true]) (run_mv _ (.inl rfl) (F9.get (t := 11) rfl)) fun a10 F10 => ?_
  clear F9
  refine wl_run (w' := w9) (wanted_none rfl) rfl F10 rfl (.agg (groupA k p (p / 2) 4)) (y_ext _ _ rfl (F10.get (t := 5) rfl) rfl) fun a11 F11 => ?_
  clear F10
  refine wl_run (w' := w9) (wanted_none rfl) rfl F11 rfl (.bool true) (y_ext _ _ rfl (F11.get (t := 5) rfl) rfl) fun a12 F12 => ?_
  clear F11
  refine wl_alloc (wanted_none rfl) rfl F12 rfl M9 2 (t := 30) (c := groupA 0 0 0 0) (by unfold execOp; rw [groupA_zero]; kernel_rfl) ?_
  intro g13 a13 w13 F13 M13
  clear F12 M9
  refine wl_st (wanted_none rfl) rfl F13 M13 (k := 2) rfl _ _ _ rfl (F13.get (t := 3) rfl) (F13.get (t := 12) rfl) (groupA k p (p / 2) 4) (groupA k p (p / 2) 4) rfl (Nat.le_of_ble_eq_true rfl) (groupA_cells _ _ _ _) (y_put0 rfl) (by kernel_rfl) ?_
  intro w14 M14
  clear M13
  refine wl_run (w' := w14) (wanted_none rfl) rfl F13 rfl (.bool true) (run_mv _ (.inr rfl) (F13.get (t := 13) rfl)) fun a15 F15 => ?_
  clear F13
  refine hK3 _ _ ?_
  refine wp_seq_k fun K16 hK16 => ?_
  refine wp_region_lit ?_
  refine wl_run (w' := w14) (wanted_none rfl) rfl F15 rfl (.agg (groupA k p (p / 2) 4)) (y_ldN _ _ rfl (F15.get (t := 3) rfl) (M14.blk (k := 2) rfl) (groupA k p (p / 2) 4) (y_all rfl) Try.underlying30 rfl (by kernel_rfl)) fun a17 F17 => ?_
  clear F15
  refine wl_st (wanted_none rfl) rfl F17 M14 (k := 0) rfl _ _ _ rfl (F17.get (t := 2) rfl) (F17.get (t := 14) rfl) (groupA k p (p / 2) 4) (groupA k p (p / 2) 4) rfl (Nat.le_of_ble_eq_true rfl) (groupA_cells _ _ _ _) (y_put0 rfl) (by kernel_rfl) ?_
  intro w18 M18
  clear M14
  refine hK16 _ _ ?_
  refine wp_ret ?_
  try simp only [Exit.then, Exit.inBlock]
  exact bodyPost_ret (results_cell_row rfl _ _ _ _ _ (0, 0) _ (F17.get (t := 2) rfl) (M18.blk (k := 0) rfl) Try.underlying30 rfl (by kernel_rfl)) F17.defers ⟨rfl, M18.below⟩
end Go.Proofs.Ytcfepoopkfhojaa
namespace Go.Proofs.Ytcfepoopkfhojaa
set_option linter.unusedVariables false
set_option maxRecDepth 20000
set_option linter.unusedSimpArgs false
open Go.ChangeShapes Go.WideShapes Go.ChangeAt Go.RowKit
theorem make_kp {K p : Nat} (g0 : 12 ≤ K) (g1 : K ≤ 24) (p4 : 4 ≤ p) (po : p % 2 = 1) (pl : p < 2 ^ K) (ps : safeB (p : Int) = true) (pn : ∀ x : Int, (p : Int) < x → x < 2 ^ K → safeB x = false) : RunsTo 24 #[.int .i64 (K : Int)] (.tuple #[.agg (groupA (K : Int) p (p / 2) 4), .bool true]) := fun w => by
  have hl : 2 ^ K ≤ 2 ^ 24 := Nat.pow_le_pow_right (by decide) (by omega)
  have hp : p < 16777216 := Nat.lt_of_lt_of_le pl hl
  have e : ((2 : Int) ^ K) = ((2 ^ K : Nat) : Int) := by simp
  have hq : ((p / 2 : Nat) : Int) = (p : Int) / 2 := by omega
  refine (rgmake_any (K : Int) (p : Int) (by omega) (by omega) (fun _ => ⟨by omega, by omega, by rw [Int.toNat_natCast, e]; exact_mod_cast pl, ps, by rw [Int.toNat_natCast]; exact pn⟩) w).mono ?_
  rintro e' w' ⟨V, rfl, hV, hb⟩
  rcases hV with ⟨-, hV⟩ | ⟨hn, -⟩
  · exact ⟨by rw [hV, Int.toNat_natCast, ← hq, Int.toNat_natCast], hb⟩
  · omega
theorem make15 : RunsTo 24 #[.int .i64 15] (.tuple #[.agg (groupA 15 32603 16301 4), .bool true]) := by
  obtain ⟨ps, pn⟩ := tab_of (k := 15) (p := 32603) (D := 180) (E := 127) (by decide) (by decide) (by decide) (by decide) (by decide) tab15
  exact make_kp (K := 15) (p := 32603) (by decide) (by decide) (by decide) (by decide) (by decide) ps pn
theorem group_of {n : Int} {t : Nat} {k : Int} {p : Nat} (ht : t < 9) (kw : ∀ w, Calls Try.prog 25 #[.int .i64 n, .int .i64 9] w fun e w' => e = .returned (.int .i64 (t : Int)) ∧ w = w')
    (hk : (#[.int .i64 12, .int .i64 13, .int .i64 14, .int .i64 15, .int .i64 16, .int .i64 17, .int .i64 18, .int .i64 20, .int .i64 24] : Array Value)[t]? = some (.int .i64 k)) (hr : RunsTo 24 #[.int .i64 k] (.tuple #[.agg (groupA k p (p / 2) 4), .bool true])) (w : World) :
    Calls Try.prog 7 #[.int .i64 n] w fun e w' => e = .returned (.agg (groupA k p (p / 2) 4)) ∧ Below w.heap.size w w' := by
  refine calls_fx (args := [.int .i64 n]) 15 Try.func7 rfl rfl rfl ?_
  intro fa F
  have M := Mx.start w
  refine wp_seq_k fun K1 hK1 => ?_
  refine wp_region_lit ?_
  refine wl_alloc (wanted_none rfl) rfl F rfl M 0 (t := 30) (c := groupA 0 0 0 0) (by unfold execOp; rw [groupA_zero]; kernel_rfl) ?_
  intro g2 a2 w2 F2 M2
  clear F M
  refine hK1 _ _ ?_
  refine wp_seq_k fun K3 hK3 => ?_
  refine wp_region_lit ?_
  refine wl_allocS (wanted_none rfl) rfl F2 rfl M2 1 (t := 3) (c := #[.int .i64 12, .int .i64 13, .int .i64 14, .int .i64 15, .int .i64 16, .int .i64 17, .int .i64 18, .int .i64 20, .int .i64 24]) (k := 9) (m := 9) (y_litI rfl #[.int .i64 12, .int .i64 13, .int .i64 14, .int .i64 15, .int .i64 16, .int .i64 17, .int .i64 18, .int .i64 20, .int .i64 24] rfl (by decide) (by decide) (by simp only [List.map_toArray, List.map_cons, List.map_nil]; kernel_rfl)) ?_
  intro g4 a4 w4 F4 M4
  clear F2 M2
  refine wl_run (w' := w4) (wanted_none rfl) rfl F4 rfl (.int .i64 n) (run_mv _ (.inl rfl) (F4.get (t := 0) rfl)) fun a5 F5 => ?_
  clear F4
  refine wl_call (wanted_none rfl) rfl F5 rfl rfl (enters_of Try.func25 (by kernel_rfl) rfl) #[.int .i64 n, .int .i64 9] (args2 (F5.get (t := 7) rfl) rfl) (call_ex (kw w4)) ?_
  rintro _ w6 a6 ⟨rfl, rfl⟩ F6
  refine wl_run (w' := w4) (wanted_none rfl) rfl F6 rfl (.pointer (some ⟨g4, t, none⟩)) (y_ixI _ _ rfl (F6.get (t := 6) rfl) (F6.get (t := 8) rfl) rfl ht (Nat.zero_add t)) fun a7 F7 => ?_
  clear F6
  refine wl_run (w' := w4) (wanted_none rfl) rfl F7 rfl (.int .i64 k) (y_ld1 _ _ rfl (F7.get (t := 9) rfl) (M4.blk (k := 1) rfl) hk Try.underlying3 rfl) fun a8 F8 => ?_
  clear F7
  refine wl_call (wanted_none rfl) rfl F8 rfl rfl (enters_of Try.func24 (by kernel_rfl) rfl) #[.int .i64 k] (args1 (F8.get (t := 10) rfl)) (call_ex (hr w4)) ?_
  rintro _ w9 a9 ⟨rfl, b9⟩ F9
  have M9 := M4.step b9
  refine wl_run (w' := w9) (wanted_none rfl) rfl F9 rfl (.tuple #[.agg (groupA k p (p / 2) 4), .bool true]) (run_mv _ (.inl rfl) (F9.get (t := 11) rfl)) fun a10 F10 => ?_
  clear F9
  refine wl_run (w' := w9) (wanted_none rfl) rfl F10 rfl (.agg (groupA k p (p / 2) 4)) (y_ext _ _ rfl (F10.get (t := 5) rfl) rfl) fun a11 F11 => ?_
  clear F10
  refine wl_run (w' := w9) (wanted_none rfl) rfl F11 rfl (.bool true) (y_ext _ _ rfl (F11.get (t := 5) rfl) rfl) fun a12 F12 => ?_
  clear F11
  refine wl_alloc (wanted_none rfl) rfl F12 rfl M9 2 (t := 30) (c := groupA 0 0 0 0) (by unfold execOp; rw [groupA_zero]; kernel_rfl) ?_
  intro g13 a13 w13 F13 M13
  clear F12 M9
  refine wl_st (wanted_none rfl) rfl F13 M13 (k := 2) rfl _ _ _ rfl (F13.get (t := 3) rfl) (F13.get (t := 12) rfl) (groupA k p (p / 2) 4) (groupA k p (p / 2) 4) rfl (Nat.le_of_ble_eq_true rfl) (groupA_cells _ _ _ _) (y_put0 rfl) (by kernel_rfl) ?_
  intro w14 M14
  clear M13
  refine wl_run (w' := w14) (wanted_none rfl) rfl F13 rfl (.bool true) (run_mv _ (.inr rfl) (F13.get (t := 13) rfl)) fun a15 F15 => ?_
  clear F13
  refine hK3 _ _ ?_
  refine wp_seq_k fun K16 hK16 => ?_
  refine wp_region_lit ?_
  refine wl_run (w' := w14) (wanted_none rfl) rfl F15 rfl (.agg (groupA k p (p / 2) 4)) (y_ldN _ _ rfl (F15.get (t := 3) rfl) (M14.blk (k := 2) rfl) (groupA k p (p / 2) 4) (y_all rfl) Try.underlying30 rfl (by kernel_rfl)) fun a17 F17 => ?_
  clear F15
  refine wl_st (wanted_none rfl) rfl F17 M14 (k := 0) rfl _ _ _ rfl (F17.get (t := 2) rfl) (F17.get (t := 14) rfl) (groupA k p (p / 2) 4) (groupA k p (p / 2) 4) rfl (Nat.le_of_ble_eq_true rfl) (groupA_cells _ _ _ _) (y_put0 rfl) (by kernel_rfl) ?_
  intro w18 M18
  clear M14
  refine hK16 _ _ ?_
  refine wp_ret ?_
  try simp only [Exit.then, Exit.inBlock]
  exact bodyPost_ret (results_cell_row rfl _ _ _ _ _ (0, 0) _ (F17.get (t := 2) rfl) (M18.blk (k := 0) rfl) Try.underlying30 rfl (by kernel_rfl)) F17.defers ⟨rfl, M18.below⟩
theorem group_3 (w : World) : Calls Try.prog 7 #[.int .i64 3] w fun e w' => e = .returned (.agg (groupA 15 32603 16301 4)) ∧ Below w.heap.size w w' :=
  group_of (n := 3) (t := 3) (k := 15) (p := 32603) (by decide) (fun w => gwithin_any 3 9 (by decide) (by decide) (by decide) (by decide) w) rfl make15 w
end Go.Proofs.Ytcfepoopkfhojaa
namespace Go.Proofs.Ytcfepoopkfhojaa
set_option linter.unusedVariables false
set_option maxRecDepth 20000
set_option linter.unusedSimpArgs false
open Go.ChangeShapes Go.WideShapes Go.ChangeAt Go.RowKit
theorem side_two {G : Option Nat} {w0 w w' : World} {R : List (Nat × Res)} (M : Mx G w0 w R) (hb : Below w.heap.size w w') (i j : Nat) {x : SideN} {y : SideV} (h : SideIs w' x y) (h1 : ∀ b, bfp y.vp b → w.heap.size ≤ b) (h2 : ∀ b, bfp y.vs b → w.heap.size ≤ b) (hij : i ≠ j) : Mx G w0 w' ((j, bytR x.ls y.vs) :: (i, bytR x.lp y.vp) :: R) ∧ True :=
  ⟨(M.fresh hb i _ h.hp bytR_dep (fun g hg => ⟨h1 g hg, h.hp.lt hg⟩)).cons j _ h.hs bytR_dep (fun g hg => h.hs.lt hg) (fun e => by cases e) fun k s e hk hw g hg hs => by
    rcases hw with hw | hw
    · cases hw
    rw [look_cons] at e
    split at e
    · cases e; cases hw
    · have := M.lt k s e g hs
      have := h2 g hg
      omega, trivial⟩
section
set_option maxRecDepth 20000
theorem kc_v (w : World) (vp vs : Value) (hp : IsB w [112] vp) (hs : IsB w [115] vs) : Calls Try.prog 18 #[.agg (groupA 15 32603 16301 4), .string ({ data := #[117] }), vp, vs] w fun e w' => e = .returned (numV kV) ∧ Below w.heap.size w w' :=
  verifier_any 15 32603 16301 4 (by decide) (by decide) (by decide) (by decide) (by decide) (by decide) { data := #[117] } (by decide) [112] [115] vp vs w hp hs
theorem kc_h (w : World) (vp vd : Value) (hp : IsB w [112] vp) (hd : IsB w [49] vd) : Calls Try.prog 10 #[.agg (groupA 15 32603 16301 4), .string ({ data := #[117] }), vp, vd] w fun e w' => ∃ v, e = .returned v ∧ ∃ y : SideV, v = .tuple #[.agg (sideA kC y), numV kAA] ∧ SideIs w' kC y ∧ (∀ b, bfp y.vp b → w.heap.size ≤ b) ∧ (∀ b, bfp y.vs b → w.heap.size ≤ b) ∧ Below w.heap.size w w' :=
  (hello_any 15 32603 16301 4 (by decide) (by decide) (by decide) (by decide) (by decide) (by decide) { data := #[117] } [112] [49] vp vd (by decide) w hp hd).mono fun e w' ⟨vc, h1, h2, h3, h4⟩ => ⟨_, h1, ⟨vc, .slice none 0 0⟩, rfl, h2, h3, fun b hb => absurd hb (bfp_nil7 b), h4⟩
theorem kc_o (w : World) (v vd : Value) (hv : IsB w [115] v) (hd : IsB w [50] vd) : Calls Try.prog 14 #[.agg (groupA 15 32603 16301 4), .agg (recA ⟨1, { data := #[117] }, [115], kV, 0, [], 0, 0, 0⟩ ⟨v, .slice none 0 0⟩), numV kAA, vd] w fun e w' => ∃ v, e = .returned v ∧ ∃ y : SideV, v = .tuple #[.agg (sideA kS y), numV (offB 32603 16301 4 kV kB), .bool true] ∧ SideIs w' kS y ∧ (∀ b, bfp y.vp b → w.heap.size ≤ b) ∧ (∀ b, bfp y.vs b → w.heap.size ≤ b) ∧ Below w.heap.size w w' := by
  have h := offer_any 15 32603 16301 4 (by decide) (by decide) (by decide) (by decide) (by decide) (by decide) (by decide) ⟨1, { data := #[117] }, [115], kV, 0, [], 0, 0, 0⟩ ⟨v, .slice none 0 0⟩ (Nat.lt_trans (Nat.mod_lt _ (by decide)) (by decide)) (by decide) (by decide) kAA (Nat.lt_trans (Nat.mod_lt _ (by decide)) (by decide)) [50] vd w ⟨hv, isb_nil _⟩ hd
  rw [show texN 16301 [98] [[50]] = kB from rfl] at h
  simp only [kn_off, cond_true] at h
  exact h.mono fun e w' ⟨vc, h1, h2, h3, h4⟩ => ⟨_, h1, ⟨.slice none 0 0, vc⟩, rfl, h2, fun b hb => absurd hb (bfp_nil7 b), h3, h4⟩
theorem kA_lt : kA < 4294967296 := Nat.lt_trans (expN_bd (by decide) _).2 (by decide)
theorem kc_p (w : World) (y : SideV) (vl : Value) (hx : SideIs w kC y) (hl : IsB w [115] vl) : Calls Try.prog 16 #[.agg (sideA kC y), vl, numV (offB 32603 16301 4 kV kB)] w fun e w' => ∃ v, e = .returned v ∧ ∃ y : SideV, v = .tuple #[.agg (sideA kD y), .agg (arr16 kD.Pr), .bool true] ∧ SideIs w' kD y ∧ (∀ b, bfp y.vp b → w.heap.size ≤ b) ∧ (∀ b, bfp y.vs b → w.heap.size ≤ b) ∧ Below w.heap.size w w' := by
  have h := prove_any kC y (show 32603 % 2 = 1 by decide) (show 1 < 32603 by decide) (show 32603 < 4294967296 by decide) (show 2 < 16301 by decide) (show 16301 ≤ 4294967296 by decide) kA_lt (show 4 < 4294967296 ^ 8 by decide) (show 1 ≤ 1000 by decide) (show 1 ≤ 100000 by decide) [115] (by decide) vl (offB 32603 16301 4 kV kB) (Nat.lt_trans (Nat.mod_lt _ (by decide)) (by decide)) w hx hl
  simp only [kn_prv, cond_true] at h
  exact h.mono fun e w' ⟨y', h1, h2⟩ => ⟨_, h1, y', rfl, h2⟩
theorem kc_c (w : World) (y : SideV) (v : Value) (hx : SideIs w kS y) (hv : IsB w (sumY kD.Pr) v) : Calls Try.prog 21 #[.agg (sideA kS y), v] w fun e w' => e = .returned (.tuple #[.agg (arr16 (ansY kS.Ky kS.Pr)), .bool true]) ∧ Below w.heap.size w w' :=
  check_any kS y kn_ok.1 (sumY kD.Pr) v true (decide_eq_true (by rw [kn_Pr])) w hx hv
theorem kc_d (w : World) (y : SideV) (v : Value) (hx : SideIs w kD y) (hv : IsB w (sumY (ansY kS.Ky kS.Pr)) v) : Calls Try.prog 23 #[.agg (sideA kD y), v] w fun e w' => e = .returned (.bool true) ∧ Below w.heap.size w w' :=
  done_any kD y kn_ok.2 _ v true (decide_eq_true (by rw [kn_Ky, kn_Pr])) w hx hv
theorem kc_b (y : Nat → Int) (hy : ∀ k, 0 ≤ y k ∧ y k < 256) (w : World) : Calls Try.prog 22 #[.agg (arr16 y)] w fun e w' => ∃ v, e = .returned v ∧ Below w.heap.size w w' ∧ IsB w' (sumY y) v :=
  (srbytes_any y hy w).mono fun e w' ⟨v, h1, h2, h3⟩ => ⟨v, h1, h3, h2.isb⟩
theorem kc_z (w : World) : Calls Try.prog 23 #[.agg (sideA ⟨0, 0, 0, 0, "".toUTF8, [], 0, 0, 0, [], 0, fun _ => 0, fun _ => 0⟩ ⟨.slice none 0 0, .slice none 0 0⟩), .slice none 0 0] w fun e w' => e = .returned (.bool false) ∧ Below w.heap.size w w' :=
  done_any _ _ ⟨fun _ => ⟨Int.le_refl _, (show (0 : Int) < 256 by decide)⟩, fun _ => ⟨Int.le_refl _, (show (0 : Int) < 256 by decide)⟩⟩ [] _ false (decide_eq_false fun h => absurd (congrArg List.length h) (by rw [sumY_len]; decide)) w ⟨isb_nil _, isb_nil _⟩ (isb_nil _)
end
set_option maxRecDepth 100000 in
set_option maxHeartbeats 4000000 in
theorem sknown_any  (w : World) :
    Calls Try.prog 5 #[] w fun e w' => e = .returned (.bool true) ∧ Below w.heap.size w w' := by
  have kG := group_3
  refine calls_fx (args := []) 83 Try.func5 rfl rfl rfl ?_
  intro fa F
  have M := Mx.start w
  refine wp_seq_k fun K1 hK1 => ?_
  refine wp_region_lit ?_
  refine rm rfl F fun a2 F2 => ?_
  refine hK1 _ _ ?_
  refine wp_seq_k fun K3 hK3 => ?_
  refine wp_region_lit ?_
  refine wl_call (wanted_none rfl) rfl F2 rfl rfl (enters_of Try.func7 (by kernel_rfl) rfl) #[.int .i64 3] (args1 rfl) (call_ex (kG w)) ?_
  rintro _ w4 a4 ⟨rfl, b4⟩ F4
  have M4 := M.step b4
  refine wl_alloc (wanted_none rfl) rfl F4 rfl M4 0 (t := 30) (c := groupA 0 0 0 0) (by unfold execOp; rw [groupA_zero]; kernel_rfl) ?_
  intro g5 a5 w5 F5 M5
  clear F4 M4
  refine wl_st (wanted_none rfl) rfl F5 M5 (k := 0) rfl _ _ _ rfl (F5.get (t := 1) rfl) (F5.get (t := 13) rfl) (groupA 15 32603 16301 4) (groupA 15 32603 16301 4) rfl (Nat.le_of_ble_eq_true rfl) (groupA_cells _ _ _ _) (y_put0 rfl) (by kernel_rfl) ?_
  intro w6 M6
  clear M5
  refine hK3 _ _ ?_
  refine wp_seq_k fun K7 hK7 => ?_
  refine wp_region_lit ?_
  refine wl_runM (wanted_none rfl) rfl F5 rfl (run_litO M6 1 [115] 1 rfl (by decide) (by decide) rfl (by simp only [List.map_toArray, List.map_cons, List.map_nil]; kernel_rfl)) ?_
  intro v8 a8 w8 F8 M8
  clear F5 M6
  obtain ⟨A8, c8, rfl⟩ := (M8.isO (k := 1) rfl).shape
  refine wl_runM (wanted_none rfl) rfl F8 rfl (run_cvL M8 (k := 1) rfl (by decide) _ rfl (F8.get (t := 14) rfl)) ?_
  intro v9 a9 w9 F9 M9
  clear F8 M8
  obtain ⟨A9, c9, rfl⟩ := (M9.isb (k := 1) rfl).shape
  refine wl_run (w' := w9) (wanted_none rfl) rfl F9 rfl (.agg (groupA 15 32603 16301 4)) (y_ldN _ _ rfl (F9.get (t := 1) rfl) (M9.blk (k := 0) rfl) (groupA 15 32603 16301 4) (y_all rfl) Try.underlying30 rfl (by kernel_rfl)) fun a10 F10 => ?_
  clear F9
  refine wl_runM (wanted_none rfl) rfl F10 rfl (run_litO M9 2 [112] 1 rfl (by decide) (by decide) rfl (by simp only [List.map_toArray, List.map_cons, List.map_nil]; kernel_rfl)) ?_
  intro v11 a11 w11 F11 M11
  clear F10 M9
  obtain ⟨A11, c11, rfl⟩ := (M11.isO (k := 2) rfl).shape
  refine wl_runM (wanted_none rfl) rfl F11 rfl (run_cvL M11 (k := 2) rfl (by decide) _ rfl (F11.get (t := 17) rfl)) ?_
  intro v12 a12 w12 F12 M12
  clear F11 M11
  obtain ⟨A12, c12, rfl⟩ := (M12.isb (k := 2) rfl).shape
  refine wl_runM (wanted_none rfl) rfl F12 rfl (run_litO M12 3 [115] 1 rfl (by decide) (by decide) rfl (by simp only [List.map_toArray, List.map_cons, List.map_nil]; kernel_rfl)) ?_
  intro v13 a13 w13 F13 M13
  clear F12 M12
  obtain ⟨A13, c13, rfl⟩ := (M13.isO (k := 3) rfl).shape
  refine wl_runM (wanted_none rfl) rfl F13 rfl (run_cvL M13 (k := 3) rfl (by decide) _ rfl (F13.get (t := 19) rfl)) ?_
  intro v14 a14 w14 F14 M14
  clear F13 M13
  obtain ⟨A14, c14, rfl⟩ := (M14.isb (k := 3) rfl).shape
  refine wl_call (wanted_none rfl) rfl F14 rfl rfl (enters_of Try.func18 (by kernel_rfl) rfl) #[.agg (groupA 15 32603 16301 4), .string ({ data := #[117] }), .slice A12 ([112]).length c12, .slice A14 ([115]).length c14] (args4 (F14.get (t := 16) rfl) rfl (F14.get (t := 18) rfl) (F14.get (t := 20) rfl)) (call_ex ((kc_v w14 _ _ (M14.isb (k := 2) rfl) (M14.isb (k := 3) rfl)))) ?_
  rintro _ w15 a15 ⟨rfl, b15⟩ F15
  have M15 := M14.step b15
  refine wl_run (w' := w15) (wanted_none rfl) rfl F15 rfl (.agg (recA ⟨1, ({ data := #[117] }), [115], kV, 0, [], 0, 0, 0⟩ ⟨.slice A9 ([115]).length c9, .slice none 0 0⟩)) (by unfold execOp; simp only [List.map_toArray, List.map_cons, List.map_nil, (F15.get (t := 15) rfl), (F15.get (t := 21) rfl)]; kernel_rfl) fun a16 F16 => ?_
  clear F15
  refine wl_alloc (wanted_none rfl) rfl F16 rfl M15 4 (t := 35) (c := recA ⟨0, "".toUTF8, [], 0, 0, [], 0, 0, 0⟩ ⟨.slice none 0 0, .slice none 0 0⟩) (by unfold execOp; kernel_rfl) ?_
  intro g17 a17 w17 F17 M17
  clear F16 M15
  refine wl_st (wanted_none rfl) rfl F17 M17 (k := 4) rfl _ _ _ rfl (F17.get (t := 2) rfl) (F17.get (t := 22) rfl) (recA ⟨1, ({ data := #[117] }), [115], kV, 0, [], 0, 0, 0⟩ ⟨.slice A9 ([115]).length c9, .slice none 0 0⟩) (recA ⟨1, ({ data := #[117] }), [115], kV, 0, [], 0, 0, 0⟩ ⟨.slice A9 ([115]).length c9, .slice none 0 0⟩) rfl (Nat.le_of_ble_eq_true rfl) (recA_one (w := w17) ⟨(M17.isb (k := 1) rfl), isb_nil _⟩) (y_put0 rfl) (by kernel_rfl) ?_
  intro w18 M18
  clear M17
  refine hK7 _ _ ?_
  refine wp_seq_k fun K19 hK19 => ?_
  refine wp_region_lit ?_
  refine wl_run (w' := w18) (wanted_none rfl) rfl F17 rfl (.agg (groupA 15 32603 16301 4)) (y_ldN _ _ rfl (F17.get (t := 1) rfl) (M18.blk (k := 0) rfl) (groupA 15 32603 16301 4) (y_all rfl) Try.underlying30 rfl (by kernel_rfl)) fun a20 F20 => ?_
  clear F17
  refine wl_runM (wanted_none rfl) rfl F20 rfl (run_litO M18 5 [112] 1 rfl (by decide) (by decide) rfl (by simp only [List.map_toArray, List.map_cons, List.map_nil]; kernel_rfl)) ?_
  intro v21 a21 w21 F21 M21
  clear F20 M18
  obtain ⟨A21, c21, rfl⟩ := (M21.isO (k := 5) rfl).shape
  refine wl_runM (wanted_none rfl) rfl F21 rfl (run_cvL M21 (k := 5) rfl (by decide) _ rfl (F21.get (t := 25) rfl)) ?_
  intro v22 a22 w22 F22 M22
  clear F21 M21
  obtain ⟨A22, c22, rfl⟩ := (M22.isb (k := 5) rfl).shape
  refine wl_runM (wanted_none rfl) rfl F22 rfl (run_litO M22 6 [49] 1 rfl (by decide) (by decide) rfl (by simp only [List.map_toArray, List.map_cons, List.map_nil]; kernel_rfl)) ?_
  intro v23 a23 w23 F23 M23
  clear F22 M22
  obtain ⟨A23, c23, rfl⟩ := (M23.isO (k := 6) rfl).shape
  refine wl_runM (wanted_none rfl) rfl F23 rfl (run_cvL M23 (k := 6) rfl (by decide) _ rfl (F23.get (t := 27) rfl)) ?_
  intro v24 a24 w24 F24 M24
  clear F23 M23
  obtain ⟨A24, c24, rfl⟩ := (M24.isb (k := 6) rfl).shape
  refine wl_call (wanted_none rfl) rfl F24 rfl rfl (enters_of Try.func10 (by kernel_rfl) rfl) #[.agg (groupA 15 32603 16301 4), .string ({ data := #[117] }), .slice A22 ([112]).length c22, .slice A24 ([49]).length c24] (args4 (F24.get (t := 24) rfl) rfl (F24.get (t := 26) rfl) (F24.get (t := 28) rfl)) (kc_h w24 _ _ (M24.isb (k := 5) rfl) (M24.isb (k := 6) rfl)) ?_
  rintro _ w25 a25 ⟨y25, rfl, his25, hlo25, hls25, b25⟩ F25
  obtain ⟨M25, -⟩ := side_two M24 b25 7 8 his25 hlo25 hls25 (by decide)
  clear M24 hlo25 hls25 his25 b25
  refine exS 3 [(0, .bool false), (1, .pointer (some ⟨g5, 0, none⟩)), (2, .pointer (some ⟨g17, 0, none⟩)), (30, .agg (sideA kC y25)), (31, numV kAA)] [] dnil [] F25 (by kernel_rfl) fun a26 F26 => ?_
  clear F25
  simp only [List.drop_succ_cons, List.drop_zero]
  refine wl_alloc (wanted_none rfl) rfl F26 rfl M25 9 (t := 39) (c := sideA ⟨0, 0, 0, 0, "".toUTF8, [], 0, 0, 0, [], 0, (fun _ => 0), (fun _ => 0)⟩ ⟨.slice none 0 0, .slice none 0 0⟩) (by unfold execOp; kernel_rfl) ?_
  intro g27 a27 w27 F27 M27
  clear F26 M25
  refine wl_alloc (wanted_none rfl) rfl F27 rfl M27 10 (t := 28) (c := numA 0) (y_new_num rfl) ?_
  intro g28 a28 w28 F28 M28
  clear F27 M27
  refine wl_st (wanted_none rfl) rfl F28 M28 (k := 9) rfl _ _ _ rfl (F28.get (t := 3) rfl) (F28.get (t := 30) rfl) (sideA kC y25) (sideA kC y25) rfl (Nat.le_of_ble_eq_true rfl) (sideA_one (w := w28) ⟨(M28.isb (k := 7) rfl), (M28.isb (k := 8) rfl)⟩) (y_put0 rfl) (by kernel_rfl) ?_
  intro w29 M29
  clear M28
  refine wl_st (wanted_none rfl) rfl F28 M29 (k := 10) rfl _ _ _ rfl (F28.get (t := 4) rfl) (F28.get (t := 31) rfl) (numA kAA) (numA kAA) rfl (Nat.le_of_ble_eq_true rfl) (numA_one _) (y_put0 rfl) size26 ?_
  intro w30 M30
  clear M29
  refine hK19 _ _ ?_
  refine wp_seq_k fun K31 hK31 => ?_
  refine wp_region_lit ?_
  refine wl_run (w' := w30) (wanted_none rfl) rfl F28 rfl (.agg (groupA 15 32603 16301 4)) (y_ldN _ _ rfl (F28.get (t := 1) rfl) (M30.blk (k := 0) rfl) (groupA 15 32603 16301 4) (y_all rfl) Try.underlying30 rfl (by kernel_rfl)) fun a32 F32 => ?_
  clear F28
  refine wl_run (w' := w30) (wanted_none rfl) rfl F32 rfl (.agg (recA ⟨1, ({ data := #[117] }), [115], kV, 0, [], 0, 0, 0⟩ ⟨.slice A9 ([115]).length c9, .slice none 0 0⟩)) (y_ldN _ _ rfl (F32.get (t := 2) rfl) (M30.blk (k := 4) rfl) (recA ⟨1, ({ data := #[117] }), [115], kV, 0, [], 0, 0, 0⟩ ⟨.slice A9 ([115]).length c9, .slice none 0 0⟩) (y_all rfl) Try.underlying35 rfl (by kernel_rfl)) fun a33 F33 => ?_
  clear F32
  refine wl_run (w' := w30) (wanted_none rfl) rfl F33 rfl (numV kAA) (y_ldN _ _ rfl (F33.get (t := 4) rfl) (M30.blk (k := 10) rfl) (numA kAA) (y_all rfl) Try.underlying28 rfl size26) fun a34 F34 => ?_
  clear F33
  refine wl_runM (wanted_none rfl) rfl F34 rfl (run_litO M30 11 [50] 1 rfl (by decide) (by decide) rfl (by simp only [List.map_toArray, List.map_cons, List.map_nil]; kernel_rfl)) ?_
  intro v35 a35 w35 F35 M35
  clear F34 M30
  obtain ⟨A35, c35, rfl⟩ := (M35.isO (k := 11) rfl).shape
  refine wl_runM (wanted_none rfl) rfl F35 rfl (run_cvL M35 (k := 11) rfl (by decide) _ rfl (F35.get (t := 36) rfl)) ?_
  intro v36 a36 w36 F36 M36
  clear F35 M35
  obtain ⟨A36, c36, rfl⟩ := (M36.isb (k := 11) rfl).shape
  refine wl_call (wanted_none rfl) rfl F36 rfl rfl (enters_of Try.func14 (by kernel_rfl) rfl) #[.agg (groupA 15 32603 16301 4), .agg (recA ⟨1, ({ data := #[117] }), [115], kV, 0, [], 0, 0, 0⟩ ⟨.slice A9 ([115]).length c9, .slice none 0 0⟩), numV kAA, .slice A36 ([50]).length c36] (args4 (F36.get (t := 33) rfl) (F36.get (t := 34) rfl) (F36.get (t := 35) rfl) (F36.get (t := 37) rfl)) (kc_o w36 _ _ (M36.isb (k := 1) rfl) (M36.isb (k := 11) rfl)) ?_
  rintro _ w37 a37 ⟨y37, rfl, his37, hlo37, hls37, b37⟩ F37
  obtain ⟨M37, -⟩ := side_two M36 b37 12 13 his37 hlo37 hls37 (by decide)
  clear M36 hlo37 hls37 his37 b37
  refine exS 4 [(0, .bool false), (2, .pointer (some ⟨g17, 0, none⟩)), (3, .pointer (some ⟨g27, 0, none⟩)), (39, .agg (sideA kS y37)), (40, numV (offB 32603 16301 4 kV kB)), (41, .bool true)] [] dnil [] F37 (by kernel_rfl) fun a38 F38 => ?_
  clear F37
  simp only [List.drop_succ_cons, List.drop_zero]
  refine wl_alloc (wanted_none rfl) rfl F38 rfl M37 14 (t := 39) (c := sideA ⟨0, 0, 0, 0, "".toUTF8, [], 0, 0, 0, [], 0, (fun _ => 0), (fun _ => 0)⟩ ⟨.slice none 0 0, .slice none 0 0⟩) (by unfold execOp; kernel_rfl) ?_
  intro g39 a39 w39 F39 M39
  clear F38 M37
  refine wl_alloc (wanted_none rfl) rfl F39 rfl M39 15 (t := 28) (c := numA 0) (y_new_num rfl) ?_
  intro g40 a40 w40 F40 M40
  clear F39 M39
  refine wl_st (wanted_none rfl) rfl F40 M40 (k := 14) rfl _ _ _ rfl (F40.get (t := 5) rfl) (F40.get (t := 39) rfl) (sideA kS y37) (sideA kS y37) rfl (Nat.le_of_ble_eq_true rfl) (sideA_one (w := w40) ⟨(M40.isb (k := 12) rfl), (M40.isb (k := 13) rfl)⟩) (y_put0 rfl) (by kernel_rfl) ?_
  intro w41 M41
  clear M40
  refine wl_st (wanted_none rfl) rfl F40 M41 (k := 15) rfl _ _ _ rfl (F40.get (t := 6) rfl) (F40.get (t := 40) rfl) (numA (offB 32603 16301 4 kV kB)) (numA (offB 32603 16301 4 kV kB)) rfl (Nat.le_of_ble_eq_true rfl) (numA_one _) (y_put0 rfl) size26 ?_
  intro w42 M42
  clear M41
  refine rm rfl F40 fun a43 F43 => ?_
  refine hK31 _ _ ?_
  refine wp_seq_k fun K44 hK44 => ?_
  refine wp_region_lit ?_
  refine exS 4 [(0, .bool false), (5, .pointer (some ⟨g39, 0, none⟩)), (7, .bool true), (43, .agg (sideA kC y25)), (45, .slice A9 ([115]).length c9), (46, numV (offB 32603 16301 4 kV kB))] [0, 1, 2] (dcons (M42.blk (k := 9) rfl) (dcons (M42.blk (k := 4) rfl) (dcons (M42.blk (k := 15) rfl) dnil))) [g27, g17, g40] F43 (by kernel_rfl) fun a45 F45 => ?_
  clear F43
  simp only [List.drop_succ_cons, List.drop_zero]
  refine wl_call (wanted_none rfl) rfl F45 rfl rfl (enters_of Try.func16 (by kernel_rfl) rfl) #[.agg (sideA kC y25), .slice A9 ([115]).length c9, numV (offB 32603 16301 4 kV kB)] (args3 (F45.get (t := 43) rfl) (F45.get (t := 45) rfl) (F45.get (t := 46) rfl)) (kc_p w42 _ _ ⟨(M42.isb (k := 7) rfl), (M42.isb (k := 8) rfl)⟩ (M42.isb (k := 1) rfl)) ?_
  rintro _ w46 a46 ⟨y46, rfl, his46, hlo46, hls46, b46⟩ F46
  obtain ⟨M46, -⟩ := side_two M42 b46 16 17 his46 hlo46 hls46 (by decide)
  clear M42 hlo46 hls46 his46 b46
  refine exS 4 [(0, .bool false), (5, .pointer (some ⟨g39, 0, none⟩)), (7, .bool true), (48, .agg (sideA kD y46)), (49, .agg (arr16 kD.Pr)), (50, .bool true)] [] dnil [] F46 (by kernel_rfl) fun a47 F47 => ?_
  clear F46
  simp only [List.drop_succ_cons, List.drop_zero]
  refine wl_alloc (wanted_none rfl) rfl F47 rfl M46 18 (t := 39) (c := sideA ⟨0, 0, 0, 0, "".toUTF8, [], 0, 0, 0, [], 0, (fun _ => 0), (fun _ => 0)⟩ ⟨.slice none 0 0, .slice none 0 0⟩) (by unfold execOp; kernel_rfl) ?_
  intro g48 a48 w48 F48 M48
  clear F47 M46
  refine wl_alloc (wanted_none rfl) rfl F48 rfl M48 19 (t := 37) (c := arr16 (fun _ => 0)) (by unfold execOp; kernel_rfl) ?_
  intro g49 a49 w49 F49 M49
  clear F48 M48
  refine wl_st (wanted_none rfl) rfl F49 M49 (k := 18) rfl _ _ _ rfl (F49.get (t := 8) rfl) (F49.get (t := 48) rfl) (sideA kD y46) (sideA kD y46) rfl (Nat.le_of_ble_eq_true rfl) (sideA_one (w := w49) ⟨(M49.isb (k := 16) rfl), (M49.isb (k := 17) rfl)⟩) (y_put0 rfl) (by kernel_rfl) ?_
  intro w50 M50
  clear M49
  refine wl_st (wanted_none rfl) rfl F49 M50 (k := 19) rfl _ _ _ rfl (F49.get (t := 9) rfl) (F49.get (t := 49) rfl) (arr16 kD.Pr) (arr16 kD.Pr) rfl (Nat.le_of_ble_eq_true rfl) (arr16_one _) (y_put0 rfl) (by kernel_rfl) ?_
  intro w51 M51
  clear M50
  refine rm rfl F49 fun a52 F52 => ?_
  refine hK44 _ _ ?_
  refine wp_seq_k fun K53 hK53 => ?_
  have hD54 := (dcons (M51.blk (k := 14) rfl) (dcons (M51.blk (k := 19) rfl) dnil))
  refine region_fxL F52 (SK [.inl (.agg (sideA kS y37)), .inl (.agg (arr16 kD.Pr)), .inr (StK.bytes (sumY kD.Pr)), .inl (.tuple #[.agg (arr16 (ansY kS.Ky kS.Pr)), .bool true]), .inl (.tuple #[.agg (arr16 (ansY kS.Ky kS.Pr)), .bool true]), .inl (.agg (arr16 (ansY kS.Ky kS.Pr))), .inl (.bool true), .inr (StK.new w51.heap.size (arr16 (fun _ => 0)) 37 (by decide))]) 8 6 51 1 4 #[.agg (arr16 (ansY kS.Ky kS.Pr)), .bool true] (.bool true) rfl (by kernel_rfl) rfl (by kernel_rfl) (fun _ _ h => h) rfl (fun _ _ => Iff.rfl) rfl ⟨hopP F52 hD54 0 (some g39) (by kernel_rfl), hopP F52 hD54 1 (some g49) (by kernel_rfl), ?_, ?_, hop0 F52 (by kernel_rfl), hop0 F52 (by kernel_rfl), hop0 F52 (by kernel_rfl), ?_, trivial⟩ ?_
  · intro ua uw hb hd
    have e53 : ua.eval (.tmp 53) = .agg (arr16 kD.Pr) := hd 53 (by decide)
    exact hop_callK (F := (StK.bytes (sumY kD.Pr)).F) (wanted_none rfl) hb.size rfl #[.agg (arr16 kD.Pr)] (args1 e53) (enters_of Try.func22 (by kernel_rfl) rfl) ((kc_b kD.Pr kn_ok.2.pr uw))
  · intro ua uw hb hd
    have e52 : ua.eval (.tmp 52) = .agg (sideA kS y37) := hd 52 (by decide)
    have e54 : IsB uw (sumY kD.Pr) (ua.eval (.tmp 54)) := hd 54 (by decide)
    exact hop_callK (F := (StK.eq (.tuple #[.agg (arr16 (ansY kS.Ky kS.Pr)), .bool true])).F) (wanted_none rfl) hb.size rfl #[.agg (sideA kS y37), (ua.eval (.tmp 54))] (args2 e52 rfl) (enters_of Try.func21 (by kernel_rfl) rfl) (call_eqS ((kc_c uw _ _ ⟨((M51.step hb).isb (k := 12) rfl), ((M51.step hb).isb (k := 13) rfl)⟩ e54)))
  · intro ua uw hb hd
    exact hop_new (wanted_none rfl) hb.size hb.size (by decide) (by unfold execOp; kernel_rfl)
  intro p55 a55 w55 b55 G55 y55
  obtain ⟨-, -, -, -, -, q5, q6, q7, -⟩ := y55
  obtain ⟨gn7x54, r7, hg7, hc7⟩ := q7 (by decide)
  replace r7 : p55 7 = .pointer (some ⟨gn7x54, 0, none⟩) := r7
  have r5 : p55 5 = .agg (arr16 (ansY kS.Ky kS.Pr)) := q5 (by decide)
  have r6 : p55 6 = .bool true := q6 (by decide)
  simp only [List.take_succ_cons, List.take_zero, layV, Nat.zero_add, Nat.reduceAdd, r5, r6, r7] at G55
  have M55 := M51.newb b55.below 20 hg7 hc7
  clear hg7 hc7 r7
  clear F52 M51 r5 q5 r6 q6
  simp only [List.drop_succ_cons, List.drop_zero]
  refine st_ex M55 (k := 20) rfl _ _ _ rfl (G55.get (t := 11) rfl) (G55.get (t := 56) rfl) (arr16 (ansY kS.Ky kS.Pr)) (arr16 (ansY kS.Ky kS.Pr)) rfl (Nat.le_of_ble_eq_true rfl) (arr16_one _) (y_put0 rfl) (by kernel_rfl) ?_
  intro w56 M56
  clear M55
  refine rm rfl G55 fun a57 F57 => ?_
  refine hK53 _ _ ?_
  refine wp_seq_k fun K58 hK58 => ?_
  have hD59 := (dcons (M56.blk (k := 18) rfl) (dcons (M56.blk (k := 20) rfl) (dcons (M56.blk (k := 14) rfl) dnil)))
  refine region_fx F57 (SK [.inl (.agg (sideA ⟨0, 0, 0, 0, "".toUTF8, [], 0, 0, 0, [], 0, (fun _ => 0), (fun _ => 0)⟩ ⟨.slice none 0 0, .slice none 0 0⟩)), .inl (.bool false), .inl (.bool true), .inl (.bool true), .inl (.bool true), .inl (.bool true), .inl (.bool true), .inl (.bool true), .inl (.bool true), .inl (.bool true), .inl (.bool true), .inl (.bool true), .inl (.bool true), .inl (.agg (sideA kD y46)), .inl (.agg (arr16 (ansY kS.Ky kS.Pr))), .inr (StK.bytes (sumY (ansY kS.Ky kS.Pr))), .inl (.bool true), .inl (.bool true), .inl (.bool true), .inl (.pointer (some ⟨g48, 60, none⟩)), .inl (.agg (arr16 kD.Ky)), .inl (.pointer (some ⟨g39, 60, none⟩)), .inl (.agg (arr16 kS.Ky)), .inl (.bool true), .inl (.bool true), .inl (.bool true)]) 26 rfl (by kernel_rfl) ⟨?_, ?_, hop0 F57 (by kernel_rfl), hop0 F57 (by kernel_rfl), hop0 F57 (by kernel_rfl), hop0 F57 (by kernel_rfl), hop0 F57 (by kernel_rfl), hop0 F57 (by kernel_rfl), hop0 F57 (by kernel_rfl), hop0 F57 (by kernel_rfl), hop0 F57 (by kernel_rfl), hop0 F57 (by kernel_rfl), hop0 F57 (by kernel_rfl), hopP F57 hD59 0 (some g48) (by kernel_rfl), hopP F57 hD59 1 (some gn7x54) (by kernel_rfl), ?_, ?_, hop0 F57 (by kernel_rfl), hop0 F57 (by kernel_rfl), hop0 F57 (by kernel_rfl), hopP F57 hD59 0 (some g48) (by kernel_rfl), hop0 F57 (by kernel_rfl), hopP F57 hD59 2 (some g39) (by kernel_rfl), ?_, hop0 F57 (by kernel_rfl), hop0 F57 (by kernel_rfl), trivial⟩ ?_
  · intro ua uw hb hd
    exact hop_runK (F := (StK.eq (.agg (sideA ⟨0, 0, 0, 0, "".toUTF8, [], 0, 0, 0, [], 0, (fun _ => 0), (fun _ => 0)⟩ ⟨.slice none 0 0, .slice none 0 0⟩))).F) (wanted_none rfl) (.agg (sideA ⟨0, 0, 0, 0, "".toUTF8, [], 0, 0, 0, [], 0, (fun _ => 0), (fun _ => 0)⟩ ⟨.slice none 0 0, .slice none 0 0⟩)) (by unfold execOp; kernel_rfl) rfl
  · intro ua uw hb hd
    have e58 : ua.eval (.tmp 58) = .agg (sideA ⟨0, 0, 0, 0, "".toUTF8, [], 0, 0, 0, [], 0, (fun _ => 0), (fun _ => 0)⟩ ⟨.slice none 0 0, .slice none 0 0⟩) := hd 58 (by decide)
    exact hop_callK (F := (StK.eq (.bool false)).F) (wanted_none rfl) hb.size rfl #[.agg (sideA ⟨0, 0, 0, 0, "".toUTF8, [], 0, 0, 0, [], 0, (fun _ => 0), (fun _ => 0)⟩ ⟨.slice none 0 0, .slice none 0 0⟩), .slice none 0 0] (args2 e58 rfl) (enters_of Try.func23 (by kernel_rfl) rfl) (call_eqS ((kc_z uw)))
  · intro ua uw hb hd
    have eg : ua.eval (.tmp 70) = .bool true := hd 70 (by decide)
    have e72 : ua.eval (.tmp 72) = .agg (arr16 (ansY kS.Ky kS.Pr)) := hd 72 (by decide)
    exact hop_callK (F := (StK.bytes (sumY (ansY kS.Ky kS.Pr))).F) (wanted_yes rfl rfl rfl eg) hb.size rfl #[.agg (arr16 (ansY kS.Ky kS.Pr))] (args1 e72) (enters_of Try.func22 (by kernel_rfl) rfl) ((kc_b (ansY kS.Ky kS.Pr) (outF_bd _) uw))
  · intro ua uw hb hd
    have eg : ua.eval (.tmp 70) = .bool true := hd 70 (by decide)
    have e71 : ua.eval (.tmp 71) = .agg (sideA kD y46) := hd 71 (by decide)
    have e73 : IsB uw (sumY (ansY kS.Ky kS.Pr)) (ua.eval (.tmp 73)) := hd 73 (by decide)
    exact hop_callK (F := (StK.eq (.bool true)).F) (wanted_yes rfl rfl rfl eg) hb.size rfl #[.agg (sideA kD y46), (ua.eval (.tmp 73))] (args2 e71 rfl) (enters_of Try.func23 (by kernel_rfl) rfl) (call_eqS ((kc_d uw _ _ ⟨((M56.step hb).isb (k := 16) rfl), ((M56.step hb).isb (k := 17) rfl)⟩ e73)))
  · intro ua uw hb hd
    have eg : ua.eval (.tmp 76) = .bool true := hd 76 (by decide)
    have e78 : ua.eval (.tmp 78) = .agg (arr16 kD.Ky) := hd 78 (by decide)
    have e80 : ua.eval (.tmp 80) = .agg (arr16 kS.Ky) := hd 80 (by decide)
    exact hop_runK (F := (StK.eq (.bool true)).F) (wanted_yes rfl rfl rfl eg) (.bool true) (run_eq16 _ _ rfl kS.Ky (e78.trans (by rw [kn_Ky])) e80) rfl
  intro p60 a60 w60 b60 G60 y60
  obtain ⟨-, -, -, -, -, -, -, -, -, -, -, -, -, -, -, -, -, -, -, -, -, -, -, -, -, q25, -⟩ := y60
  have r25 : p60 25 = .bool true := q25 (by decide)
  simp only [List.take_succ_cons, List.take_zero, layV, Nat.zero_add, Nat.reduceAdd, r25] at G60
  have M60 := M56.kc b60
  clear F57 M56 r25 q25
  refine hK58 _ _ ?_
  refine wp_ret ?_
  try simp only [Exit.then, Exit.inBlock, Exit.jump]
  exact bodyPost_ret (res1 rfl (G60.get (t := 0) rfl)) G60.defers ⟨rfl, M60.below⟩
end Go.Proofs.Ytcfepoopkfhojaa
namespace Go.Proofs.Ytcfepoopkfhojaa
set_option linter.unusedVariables false
set_option maxRecDepth 20000
set_option linter.unusedSimpArgs false
open Go.ChangeShapes Go.WideShapes Go.ChangeAt Go.RowKit
theorem run_lenT7 {a : Act} {w : World} {o : Oper} (T : TypeId) (hu : Try.prog.underlying T = some (.slice (Try.prog.elem T))) (x : Operand) (ho : o.op = .call { callee := .builtin .len, args := #[x], argTypes := #[T] }) {A : Option Addr} {n c : Nat} (hx : a.eval x = .slice A n c) : (execOp a.eval o).run Try.prog w = .ok (.value (.int .i64 (n : Int))) w := y_lnG T hu x ho hx rfl
theorem y_ixP7 {a : Act} {w : World} {o : Oper} {A : Option Addr} {c : Nat} {L : List (List UInt8)} (y k : Operand) (ho : o.op = .indexAddr 62 y k) (hx : a.eval y = .slice A L.length c) (hB : IsP w L (.slice A L.length c)) {z : Int} {i : Nat} (hk : a.eval k = .int .i64 z) (hz : z = (i : Int)) (hi : i < L.length) : (execOp a.eval o).run Try.prog w = .ok (.value (ixV (.slice A L.length c) i)) w := by
  subst hz
  obtain ⟨A', c', e, h1, h2, h3⟩ := hB
  injection e with e1 e2 e3
  subst e1 e3
  obtain ⟨b, q, rfl, hb, hc⟩ := h3 (by omega)
  unfold execOp
  simp only [ho, hx, hk]
  have h0 : ¬ ((i : Int) < 0) := by omega
  have h5 : (i : Int) < (L.length : Int) := by omega
  simp [go_sem, h0, h5, hi, ixV, addr_add]
theorem part_ld7 {w : World} {A : Option Addr} {c : Nat} {L : List (List UInt8)} {l : List UInt8} (hB : IsP w L (.slice A L.length c)) {i : Nat} (hl : L[i]? = some l) :
    ∃ B d, IsB w l (.slice B l.length d) ∧ ∀ (a : Act) (o : Oper) (y : Operand), o.op = .load 23 y → a.eval y = ixV (.slice A L.length c) i → (execOp a.eval o).run Try.prog w = .ok (.value (.slice B l.length d)) w := by
  obtain ⟨A', c', e, h1, h2, h3⟩ := hB
  injection e with e1 e2 e3
  subst e1 e3
  have hi : i < L.length := (List.getElem?_eq_some_iff.1 hl).1
  obtain ⟨b, q, rfl, hb, hc⟩ := h3 (by omega)
  obtain ⟨B, d, hcell, q2, q3, q4, q5⟩ := hc i l hl
  refine ⟨B, d, ⟨B, d, rfl, q2, q3, q4, q5⟩, fun a o y ho hx => ?_⟩
  have hx' : a.eval y = .pointer (some ⟨b, q + i, none⟩) := by rw [hx]; simp [ixV, addr_add]
  have h6 : (isAgg 23).run Try.prog w = .ok false w := by
    unfold isAgg
    simp only [Sem.run_bind, run_underlying Try.underlying23, Result.andThen_ok]
    rfl
  unfold execOp
  simp only [ho, hx', Instr.loadAt, Instr.sureAddr, loadVar, Sem.run_bind, Sem.run_pure, Result.andThen_ok, h6, Bool.false_eq_true, if_false]
  simp [hcell, Result.andThen]
def shortB (L : List (List UInt8)) : Bool := L.all fun l => decide (l.length ≤ 64)
set_option maxRecDepth 100000 in
set_option maxHeartbeats 4000000 in
theorem short_any (L : List (List UInt8)) (u : Value) (w : World) (hu : IsP w L u) :
    Calls Try.prog 6 #[u] w fun e w' => e = .returned (.bool (shortB L)) ∧ Below w.heap.size w w' := by
  obtain ⟨A0, c0, rfl, hc1, hc2, hP⟩ := id hu
  have hLm : L.length ≤ 9223372036854775807 := by
    have := hc2
    unfold maxLen at this
    omega
  refine calls_fx (args := [.slice A0 L.length c0]) 16 Try.func6 rfl rfl rfl ?_
  intro fa F
  have M := Mx.start w
  refine wp_seq_k fun K1 hK1 => ?_
  refine wp_region_lit ?_
  refine rm rfl F fun a2 F2 => ?_
  refine hK1 _ _ ?_
  refine wp_seq_k fun K3 hK3 => ?_
  refine wp_seq_k fun K4 hK4 => ?_
  refine wp_region_lit ?_
  refine rm rfl F2 fun a5 F5 => ?_
  refine hK4 _ _ ?_
  refine wp_block ?_
  refine loop_fx (α := Nat) (n := 16) (G := none) (w0 := w) (fun x => [(0, .slice A0 L.length c0), (3, .int .i64 (x : Int))]) (fun x => []) (fun k x => k = (L.length - x) ∧ (x ≤ L.length ∧ ∀ (j : Nat) (l : List UInt8), j < x → L[j]? = some l → l.length ≤ 64)) _ 0 ⟨rfl, ⟨Nat.zero_le _, fun j l h => absurd h (Nat.not_lt_zero j)⟩⟩ (F5.sub ⟨rfl, rfl, trivial⟩) (M.sub trivial) ?_
  clear F5 M
  rintro k6 jn a6 w6 K6 ⟨ek6, I6⟩ F6 M6 hK6
  replace F6 : Fx 16 a6 [(0, .slice A0 L.length c0), (3, .int .i64 (jn : Int))] := F6
  replace M6 : Mx _ _ w6 [] := M6
  replace I6 : jn ≤ L.length ∧ ∀ (j : Nat) (l : List UInt8), j < jn → L[j]? = some l → l.length ≤ 64 := I6
  replace ek6 : k6 = (L.length - jn) := ek6
  obtain ⟨hj, hk2⟩ := I6
  refine wp_seq_k fun K7 hK7 => ?_
  refine wp_seq_k fun K8 hK8 => ?_
  refine wp_region_lit ?_
  refine rm rfl F6 fun a9 F9 => ?_
  refine rm rfl F9 fun a10 F10 => ?_
  refine wl_run (w' := w6) (wanted_none rfl) rfl F10 rfl (.int .i64 (L.length : Int)) (run_lenT7 62 Try.underlying62 _ rfl (F10.get (t := 5) rfl)) fun a11 F11 => ?_
  clear F10
  by_cases h12 : (jn : Int) < (L.length : Int)
  · have hlt : jn < L.length := by omega
    obtain ⟨l1, hl1⟩ : ∃ l, L[jn]? = some l := ⟨_, List.getElem?_eq_getElem hlt⟩
    obtain ⟨B1, d1, hB1, hld⟩ := part_ld7 (hu.step M6.below) hl1
    refine wl_run (w' := w6) (wanted_none rfl) rfl F11 rfl (.bool true) (y_lss _ _ _ _ rfl (F11.get (t := 4) rfl) (F11.get (t := 6) rfl) (decide_eq_true h12)) fun a13 F13 => ?_
    clear F11
    refine hK8 _ _ ?_
    refine wp_cond_true (F13.get (t := 7) rfl) ?_
    refine wp_skip ?_
    refine hK7 _ _ ?_
    refine wp_seq_k fun K14 hK14 => ?_
    refine wp_block ?_
    refine wp_seq_k fun K15 hK15 => ?_
    refine wp_region_lit ?_
    refine rm rfl F13 fun a16 F16 => ?_
    refine rm rfl F16 fun a17 F17 => ?_
    refine wl_run (w' := w6) (wanted_none rfl) rfl F17 rfl (ixV (.slice A0 L.length c0) jn) (y_ixP7 _ _ rfl (F17.get (t := 10) rfl) (hu.step M6.below) (F17.get (t := 11) rfl) rfl hlt) fun a18 F18 => ?_
    clear F17
    refine wl_run (w' := w6) (wanted_none rfl) rfl F18 rfl (.slice B1 l1.length d1) (hld _ _ _ rfl (F18.get (t := 12) rfl)) fun a19 F19 => ?_
    clear F18
    refine wl_run (w' := w6) (wanted_none rfl) rfl F19 rfl (.int .i64 (l1.length : Int)) (y_len _ rfl (F19.get (t := 13) rfl) hB1 rfl) fun a20 F20 => ?_
    clear F19
    by_cases h21 : 64 < (l1.length : Int)
    · have hno : shortB L = false := by
        cases e : shortB L with
        | false => rfl
        | true =>
          have := of_decide_eq_true (List.all_eq_true.1 e l1 (List.mem_of_getElem? hl1))
          omega
      refine wl_run (w' := w6) (wanted_none rfl) rfl F20 rfl (.bool true) (y_gtr _ _ _ _ rfl (F20.get (t := 14) rfl) rfl (decide_eq_true h21)) fun a22 F22 => ?_
      clear F20
      refine hK15 _ _ ?_
      refine wp_cond_true (F22.get (t := 15) rfl) ?_
      refine wp_seq_k fun K23 hK23 => ?_
      refine wp_region_lit ?_
      refine rm rfl F22 fun a24 F24 => ?_
      refine hK23 _ _ ?_
      refine wp_ret ?_
      try simp only [Exit.then, Exit.inBlock, Exit.jump]
      exact bodyPost_ret (res1 rfl (F24.get (t := 2) rfl)) F24.defers ⟨by rw [hno], M6.below⟩
    · have hl64 : l1.length ≤ 64 := by omega
      refine wl_run (w' := w6) (wanted_none rfl) rfl F20 rfl (.bool false) (y_gtr _ _ _ _ rfl (F20.get (t := 14) rfl) rfl (decide_eq_false h21)) fun a25 F25 => ?_
      clear F20
      refine hK15 _ _ ?_
      refine wp_cond_false (F25.get (t := 15) rfl) ?_
      refine wp_skip ?_
      refine hK14 _ _ ?_
      refine wp_region_lit ?_
      refine rm rfl F25 fun a26 F26 => ?_
      refine wl_run (w' := w6) (wanted_none rfl) rfl F26 rfl (.int .i64 ((jn + 1 : Nat) : Int)) (y_addI _ _ _ _ rfl (F26.get (t := 8) rfl) rfl (by omega) (by omega)) fun a27 F27 => ?_
      clear F26
      refine rm rfl F27 fun a28 F28 => ?_
      subst ek6
      exact hK6 _ (jn + 1) _ _ (by omega) ⟨rfl, ⟨by omega, fun j l hj2 hl => by
          by_cases e : j = jn
          · subst e; rw [hl1] at hl; rw [← Option.some.inj hl]; exact hl64
          · exact hk2 j l (by omega) hl⟩⟩ (F28.sub ⟨rfl, rfl, trivial⟩) (M6.sub trivial)
  · have hall : shortB L = true := List.all_eq_true.2 fun l hl => by
      obtain ⟨j, hj, e⟩ := List.getElem_of_mem hl
      exact decide_eq_true (hk2 j l (by omega) (by rw [List.getElem?_eq_getElem hj, e]))
    refine wl_run (w' := w6) (wanted_none rfl) rfl F11 rfl (.bool false) (y_lss _ _ _ _ rfl (F11.get (t := 4) rfl) (F11.get (t := 6) rfl) (decide_eq_false h12)) fun a29 F29 => ?_
    clear F11
    refine hK8 _ _ ?_
    refine wp_cond_false (F29.get (t := 7) rfl) ?_
    refine wp_exit ?_
    simp only [Exit.then, Exit.inBlock, ↓reduceIte, Nat.reduceEqDiff]
    refine hK3 _ _ ?_
    refine wp_seq_k fun K30 hK30 => ?_
    refine wp_region_lit ?_
    refine rm rfl F29 fun a31 F31 => ?_
    refine hK30 _ _ ?_
    refine wp_ret ?_
    try simp only [Exit.then, Exit.inBlock, Exit.jump]
    exact bodyPost_ret (res1 rfl (F31.get (t := 2) rfl)) F31.defers ⟨by rw [hall], M6.below⟩
end Go.Proofs.Ytcfepoopkfhojaa
namespace Go.Proofs.Ytcfepoopkfhojaa
set_option linter.unusedVariables false
set_option maxRecDepth 20000
set_option linter.unusedSimpArgs false
open Go.ChangeShapes Go.WideShapes Go.ChangeAt Go.RowKit
set_option maxRecDepth 100000 in
set_option maxHeartbeats 4000000 in
theorem as_any (x : SideN) (y : SideV) (w : World) (hx : SideIs w x y) :
    Calls Try.prog 19 #[.agg (sideA x y)] w fun e w' => e = .returned (.agg (sideA x y)) ∧ Below w.heap.size w w' := by
  obtain ⟨vp, vs⟩ := y
  obtain ⟨Ap, cp, rfl⟩ := id hx.hp.shape
  obtain ⟨As, cs, rfl⟩ := id hx.hs.shape
  refine calls_fx (args := [.agg (sideA x ⟨.slice Ap x.lp.length cp, .slice As x.ls.length cs⟩)]) 24 Try.func19 rfl rfl rfl ?_
  intro fa F
  have M := Mx.start w
  replace M := M.argB 0 hx.hp (fun g e => by cases e)
  replace M := M.argB 1 hx.hs (fun g e => by cases e)
  refine wp_seq_k fun K1 hK1 => ?_
  refine wp_region_lit ?_
  refine wl_alloc (wanted_none rfl) rfl F rfl M 2 (t := 39) (c := sideA x ⟨.slice Ap x.lp.length cp, .slice As x.ls.length cs⟩) (by unfold execOp; simp only [(F.get (t := 0) rfl)]; kernel_rfl) ?_
  intro g2 a2 w2 F2 M2
  clear F M
  refine wl_alloc (wanted_none rfl) rfl F2 rfl M2 3 (t := 54) (c := sideA ⟨0, 0, 0, 0, "".toUTF8, [], 0, 0, 0, [], 0, (fun _ => 0), (fun _ => 0)⟩ ⟨.slice none 0 0, .slice none 0 0⟩) (by unfold execOp; kernel_rfl) ?_
  intro g3 a3 w3 F3 M3
  clear F2 M2
  refine hK1 _ _ ?_
  refine wp_seq_k fun K4 hK4 => ?_
  refine wp_region_lit ?_
  refine exS 20 [(2, .pointer (some ⟨g3, 0, none⟩)), (4, .agg (groupA x.k x.P x.Q x.g)), (6, .string x.s), (8, .slice Ap x.lp.length cp), (10, numV x.A), (12, numV x.B), (14, numV x.O), (16, .slice As x.ls.length cs), (18, numV x.V), (20, .agg (arr16 x.Ky)), (22, .agg (arr16 x.Pr))] [0, 0, 0, 0, 0, 0, 0, 0, 0, 0] (dcons (M3.blk (k := 2) rfl) dnil) [g2, g2, g2, g2, g2, g2, g2, g2, g2, g2] F3 (by kernel_rfl) fun a5 F5 => ?_
  clear F3
  simp only [List.drop_succ_cons, List.drop_zero]
  refine wl_run (w' := w3) (wanted_none rfl) rfl F5 rfl (.agg (sideA ⟨x.k, x.P, x.Q, x.g, x.s, x.lp, x.A, x.B, x.O, x.ls, x.V, x.Ky, x.Pr⟩ ⟨.slice Ap x.lp.length cp, .slice As x.ls.length cs⟩)) (by unfold execOp; simp only [List.map_toArray, List.map_cons, List.map_nil, (F5.get (t := 4) rfl), (F5.get (t := 6) rfl), (F5.get (t := 8) rfl), (F5.get (t := 10) rfl), (F5.get (t := 12) rfl), (F5.get (t := 14) rfl), (F5.get (t := 16) rfl), (F5.get (t := 18) rfl), (F5.get (t := 20) rfl), (F5.get (t := 22) rfl)]; kernel_rfl) fun a6 F6 => ?_
  clear F5
  refine wl_st (wanted_none rfl) rfl F6 M3 (k := 3) rfl _ _ _ rfl (F6.get (t := 2) rfl) (F6.get (t := 23) rfl) (sideA ⟨x.k, x.P, x.Q, x.g, x.s, x.lp, x.A, x.B, x.O, x.ls, x.V, x.Ky, x.Pr⟩ ⟨.slice Ap x.lp.length cp, .slice As x.ls.length cs⟩) (sideA ⟨x.k, x.P, x.Q, x.g, x.s, x.lp, x.A, x.B, x.O, x.ls, x.V, x.Ky, x.Pr⟩ ⟨.slice Ap x.lp.length cp, .slice As x.ls.length cs⟩) rfl (Nat.le_of_ble_eq_true rfl) (sideA_one (w := w3) ⟨(M3.isb (k := 0) rfl), (M3.isb (k := 1) rfl)⟩) (y_put0 rfl) (by kernel_rfl) ?_
  intro w7 M7
  clear M3
  refine hK4 _ _ ?_
  refine wp_ret ?_
  try simp only [Exit.then, Exit.inBlock, Exit.jump]
  exact bodyPost_ret (results_cell_row rfl _ _ _ _ _ (0, 0) _ (F6.get (t := 2) rfl) (M7.blk (k := 3) rfl) Try.underlying54 rfl (by kernel_rfl)) F6.defers ⟨rfl, M7.below⟩
end Go.Proofs.Ytcfepoopkfhojaa
namespace Go.Proofs.Ytcfepoopkfhojaa
set_option linter.unusedVariables false
set_option maxRecDepth 20000
set_option linter.unusedSimpArgs false
open Go.ChangeShapes Go.WideShapes Go.ChangeAt Go.RowKit
theorem short_mem {L : List (List UInt8)} {l : List UInt8} (h : shortB L = true) (hl : l ∈ L) : l.length ≤ 64 := of_decide_eq_true (List.all_eq_true.1 h l hl)
set_option maxRecDepth 100000 in
set_option maxHeartbeats 8000000 in
theorem SrpOwn_walk (a0 : Int) (hk0 : -9223372036854775808 ≤ a0) (hl0 : a0 < 9223372036854775808)
    (A1 : Option Addr) (n1 cap1 : Nat) (l1 : List UInt8) (hn1 : l1.length = n1) (hc1 : n1 ≤ cap1) (hm1 : cap1 ≤ maxLen) (hz1 : A1 = none → cap1 = 0)
    (A2 : Option Addr) (n2 cap2 : Nat) (l2 : List UInt8) (hn2 : l2.length = n2) (hc2 : n2 ≤ cap2) (hm2 : cap2 ≤ maxLen) (hz2 : A2 = none → cap2 = 0)
    (A3 : Option Addr) (n3 cap3 : Nat) (l3 : List UInt8) (hn3 : l3.length = n3) (hc3 : n3 ≤ cap3) (hm3 : cap3 ≤ maxLen) (hz3 : A3 = none → cap3 = 0) (w : World) (hr1 : Rd w A1 l1) (hr2 : Rd w A2 l2) (hr3 : Rd w A3 l3) :
    Calls Try.prog 4 #[.int .i64 a0, .slice A1 n1 cap1, .slice A2 n2 cap2, .slice A3 n3 cap3] w fun e w' => e = .returned (.bool true) ∧ Below w.heap.size w w' := by
  have ib1 : IsB w l1 (.slice A1 n1 cap1) := hr1.isB' hn1 hc1 hm1 hz1
  have ib2 : IsB w l2 (.slice A2 n2 cap2) := hr2.isB' hn2 hc2 hm2 hz2
  have ib3 : IsB w l3 (.slice A3 n3 cap3) := hr3.isB' hn3 hc3 hm3 hz3
  obtain ⟨k, p, hg, kG⟩ := group_any hk0 hl0
  obtain ⟨hpa, hpb⟩ : 4000 < p ∧ p < 16777216 := ⟨hg.2.2.2.1, hg.2.2.2.2.1⟩
  have po : p % 2 = 1 := hg.2.2.1
  have hp1 : 1 < p := by omega
  have p4 : p < 4294967296 := by omega
  have hP : p < 4294967296 ^ 8 := Nat.lt_trans p4 (by decide)
  have h2 : 2 < p / 2 := by omega
  have hQ4 : p / 2 ≤ 4294967296 := by omega
  have hQ : p / 2 < 4294967296 ^ 8 := Nat.lt_of_le_of_lt hQ4 (by decide)
  have hP0 : 0 < p := by omega
  have hm : ∀ x, x % p < 4294967296 ^ 8 := fun x => Nat.lt_trans (Nat.mod_lt _ hP0) hP
  have gfour : (4 : Nat) < 4294967296 ^ 8 := by decide
  obtain ⟨sh, hsh⟩ : ∃ b, shortB [l1, l2, l3] = b := ⟨_, rfl⟩
  refine calls_fx (args := [.int .i64 a0, .slice A1 n1 cap1, .slice A2 n2 cap2, .slice A3 n3 cap3]) 144 Try.func4 rfl rfl rfl ?_
  intro fa F
  have M := Mx.start w
  replace M := M.argB 0 ib1 (fun g e => by cases e)
  replace M := M.argB 1 ib2 (fun g e => by cases e)
  replace M := M.argB 2 ib3 (fun g e => by cases e)
  refine wp_seq_k fun K21 hK21 => ?_
  refine wp_region_lit ?_
  refine rm rfl F fun a22 F22 => ?_
  refine hK21 _ _ ?_
  refine wp_seq_k fun K23 hK23 => ?_
  refine wp_seq_k fun K24 hK24 => ?_
  refine wp_region_lit ?_
  refine wl_call (wanted_none rfl) rfl F22 rfl rfl (enters_of Try.func5 (by kernel_rfl) rfl) #[] (args0) (call_ex (sknown_any w)) ?_
  rintro _ w25 a25 ⟨rfl, b25⟩ F25
  have M25 := M.step b25
  refine wl_run (w' := w25) (wanted_none rfl) rfl F25 rfl (.bool false) (run_not _ _ rfl (F25.get (t := 28) rfl)) fun a26 F26 => ?_
  clear F25
  refine hK24 _ _ ?_
  refine wp_cond_false (F26.get (t := 29) rfl) ?_
  refine wp_skip ?_
  refine hK23 _ _ ?_
  refine wp_seq_k fun K27 hK27 => ?_
  refine wp_seq_k fun K28 hK28 => ?_
  refine wp_region_lit ?_
  refine rm rfl F26 fun a29 F29 => ?_
  refine rm rfl F29 fun a30 F30 => ?_
  refine rm rfl F30 fun a31 F31 => ?_
  refine wl_allocS (wanted_none rfl) rfl F31 rfl M25 3 (t := 23) (c := #[.slice A1 n1 cap1, .slice A2 n2 cap2, .slice A3 n3 cap3]) (k := 3) (m := 3) (y_litG 62 23 (s := 1) (zv := .slice none 0 0) Try.underlying62 (by kernel_rfl) (by kernel_rfl) rfl (#[.slice A1 n1 cap1, .slice A2 n2 cap2, .slice A3 n3 cap3]) (by decide) (by decide) (by simp only [List.map_toArray, List.map_cons, List.map_nil, (F31.get (t := 30) rfl), (F31.get (t := 31) rfl), (F31.get (t := 32) rfl)]; kernel_rfl)) ?_
  intro g32 a32 w32 F32 M32
  clear F31 M25
  refine wl_call (wanted_none rfl) rfl F32 rfl rfl (enters_of Try.func6 (by kernel_rfl) rfl) #[.slice (some ⟨g32, 0, none⟩) 3 3] (args1 (F32.get (t := 33) rfl)) (call_ex ((hsh ▸ short_any [l1, l2, l3] _ w32 (isP_blk (M32.blk (k := 3) rfl) rfl rfl (show 3 ≤ 1000 by decide) (fun j l hj => by
      match j, hj with
      | 0, hj => obtain rfl : l1 = l := Option.some.inj hj; exact ⟨_, rfl, (M32.isb (k := 0) rfl)⟩
      | 1, hj => obtain rfl : l2 = l := Option.some.inj hj; exact ⟨_, rfl, (M32.isb (k := 1) rfl)⟩
      | 2, hj => obtain rfl : l3 = l := Option.some.inj hj; exact ⟨_, rfl, (M32.isb (k := 2) rfl)⟩
      | n + 3, hj => cases hj))))) ?_
  rintro _ w33 a33 ⟨rfl, b33⟩ F33
  have M33 := M32.step b33
  cases sh
  · refine wl_run (w' := w33) (wanted_none rfl) rfl F33 rfl (.bool true) (run_not _ _ rfl (F33.get (t := 34) rfl)) fun a34 F34 => ?_
    clear F33
    refine hK28 _ _ ?_
    refine wp_cond_true (F34.get (t := 35) rfl) ?_
    refine wp_seq_k fun K35 hK35 => ?_
    refine wp_region_lit ?_
    refine rm rfl F34 fun a36 F36 => ?_
    refine hK35 _ _ ?_
    refine wp_ret ?_
    try simp only [Exit.then, Exit.inBlock, Exit.jump]
    exact bodyPost_ret (res1 rfl (F36.get (t := 8) rfl)) F36.defers ⟨rfl, M33.below⟩
  · have hs0 : l1.length ≤ 64 := short_mem hsh (by simp)
    have hs1 : l2.length ≤ 64 := short_mem hsh (by simp)
    have hs2 : l3.length ≤ 64 := short_mem hsh (by simp)
    obtain ⟨V1, hV1⟩ : ∃ V, 4 ^ secN (p / 2) (sBy ({ data := #[117] } : ByteArray)) l1 l2 % p = V := ⟨_, rfl⟩
    have bV1 : V1 < 4294967296 ^ 8 := by rw [← hV1]; exact hm _
    have kV := fun (w : World) (vp vs : Value) (hp : IsB w l1 vp) (hs : IsB w l2 vs) => verifier_any k p (p / 2) 4 po hp1 hP h2 hQ gfour ({ data := #[117] } : ByteArray) (by decide) l1 l2 vp vs w hp hs
    rw [hV1] at kV
    obtain ⟨A, hA⟩ : ∃ A, 4 ^ texN (p / 2) [97] [l3] % p = A := ⟨_, rfl⟩
    have bA : A < 4294967296 ^ 8 := by rw [← hA]; exact hm _
    obtain ⟨C, hC⟩ : ∃ C : SideN, ⟨k, p, p / 2, 4, ({ data := #[117] } : ByteArray), l1, 4 ^ texN (p / 2) [97] [l3] % p, 0, texN (p / 2) [97] [l3], [], 0, fun _ => 0, fun _ => 0⟩ = C := ⟨_, rfl⟩
    have kH := shello_is k p (p / 2) 4 po hp1 hP h2 hQ gfour ({ data := #[117] } : ByteArray) l1 l3 (by omega) hC hA
    obtain ⟨ok, hok⟩ : ∃ b, offOk p (p / 2) 4 V1 A (texN (p / 2) [98] [l3]) = b := ⟨_, rfl⟩
    obtain ⟨S, hS⟩ : ∃ S, cond ok (shareN (offS k p (p / 2) 4 ({ data := #[117] } : ByteArray) l2 V1 A (texN (p / 2) [98] [l3])) (offN p (p / 2) 4 V1 A (texN (p / 2) [98] [l3]))) zeroS = S := ⟨_, rfl⟩
    obtain ⟨B, hB⟩ : ∃ B, cond ok (offB p (p / 2) 4 V1 (texN (p / 2) [98] [l3])) 0 = B := ⟨_, rfl⟩
    have kO := soffer_is k p (p / 2) 4 po hp1 p4 h2 hQ gfour ⟨1, ({ data := #[117] } : ByteArray), l2, V1, 0, [], 0, 0, 0⟩ bV1 (show 1 ≤ 1000 by decide) (show l2.length ≤ 100000 by omega) A bA l3 hok hS hB
    have hB0 : ok = false → B = 0 := fun h => by rw [← hB, h]; rfl
    have bB : B < 4294967296 ^ 8 := cond_lt hB (offB_lt hP0 hP) (by decide)
    obtain ⟨ok2, hok2⟩ : ∃ b, prvOk C l2 B = b := ⟨_, rfl⟩
    obtain ⟨D, hD⟩ : ∃ D, cond ok2 (shareN (prvS C l2 B) (prvN C l2 B)) zeroS = D := ⟨_, rfl⟩
    obtain ⟨Y, hY⟩ : ∃ Y, D.Pr = Y := ⟨_, rfl⟩
    have kP := sprove_is C (by rw [← hC]; exact po) (by rw [← hC]; exact hp1) (by rw [← hC]; exact p4) (by rw [← hC]; exact h2) (by rw [← hC]; exact hQ4) (by rw [← hC]; exact Nat.lt_of_lt_of_le (expN_bd h2 _).2 hQ4) (by rw [← hC]; exact gfour) (by rw [← hC]; exact (show 1 ≤ 1000 by decide)) (by rw [← hC]; show l1.length ≤ 100000; omega) l2 (by omega) B bB hok2 hD hY
    clear hV1 hA hC hok hS hB hok2 hD hY
    refine wl_run (w' := w33) (wanted_none rfl) rfl F33 rfl (.bool false) (run_not _ _ rfl (F33.get (t := 34) rfl)) fun a37 F37 => ?_
    clear F33
    refine hK28 _ _ ?_
    refine wp_cond_false (F37.get (t := 35) rfl) ?_
    refine wp_skip ?_
    refine hK27 _ _ ?_
    refine wp_seq_k fun K38 hK38 => ?_
    refine wp_region_lit ?_
    refine rm rfl F37 fun a39 F39 => ?_
    refine wl_call (wanted_none rfl) rfl F39 rfl rfl (enters_of Try.func7 (by kernel_rfl) rfl) #[.int .i64 a0] (args1 (F39.get (t := 36) rfl)) (call_ex (kG w33)) ?_
    rintro _ w40 a40 ⟨rfl, b40⟩ F40
    have M40 := M33.step b40
    refine wl_alloc (wanted_none rfl) rfl F40 rfl M40 4 (t := 30) (c := groupA 0 0 0 0) (by unfold execOp; rw [groupA_zero]; kernel_rfl) ?_
    intro g41 a41 w41 F41 M41
    clear F40 M40
    refine wl_st (wanted_none rfl) rfl F41 M41 (k := 4) rfl _ _ _ rfl (F41.get (t := 9) rfl) (F41.get (t := 37) rfl) (groupA k p (p / 2) 4) (groupA k p (p / 2) 4) rfl (Nat.le_of_ble_eq_true rfl) (groupA_cells _ _ _ _) (y_put0 rfl) (by kernel_rfl) ?_
    intro w42 M42
    clear M41
    refine hK38 _ _ ?_
    refine wp_seq_k fun K43 hK43 => ?_
    refine wp_region_lit ?_
    refine wl_runM (wanted_none rfl) rfl F41 rfl (run_lit0 M42 5 rfl) ?_
    intro v44 a44 w44 F44 M44
    clear F41 M42
    obtain ⟨A44, c44, rfl⟩ := (M44.isO (k := 5) rfl).shape
    refine rm rfl F44 fun a45 F45 => ?_
    refine wl_runM (wanted_none rfl) rfl F45 rfl (run_app M44 (k := 5) rfl _ _ rfl (F45.get (t := 38) rfl) (F45.get (t := 39) rfl) (M44.isb (k := 0) rfl) (by simp; omega)) ?_
    intro v46 a46 w46 F46 M46
    clear F45 M44
    obtain ⟨A46, c46, rfl⟩ := (M46.isO (k := 5) rfl).shape
    obtain ⟨X1, hX1⟩ : ∃ z, ([] ++ l1) = z := ⟨_, rfl⟩
    have M47 : Mx none w w46 [(0, bytR l1 (.slice A1 n1 cap1)), (1, bytR l2 (.slice A2 n2 cap2)), (2, bytR l3 (.slice A3 n3 cap3)), (3, blkR g32 23 (#[.slice A1 n1 cap1, .slice A2 n2 cap2, .slice A3 n3 cap3])), (4, blkR g41 30 (groupA k p (p / 2) 4)), (5, ownR X1 (.slice A46 (X1).length c46))] := by rw [← hX1]; exact M46.sub ⟨rfl, rfl, rfl, rfl, rfl, rfl, trivial⟩
    have F47 : Fx 144 a46 [(0, .int .i64 a0), (1, .slice A1 n1 cap1), (2, .slice A2 n2 cap2), (3, .slice A3 n3 cap3), (8, .bool false), (28, .bool true), (29, .bool false), (30, .slice A1 n1 cap1), (31, .slice A2 n2 cap2), (32, .slice A3 n3 cap3), (33, .slice (some ⟨g32, 0, none⟩) 3 3), (34, .bool true), (35, .bool false), (36, .int .i64 a0), (37, .agg (groupA k p (p / 2) 4)), (9, .pointer (some ⟨g41, 0, none⟩)), (38, .slice A44 (([] : List UInt8)).length c44), (39, .slice A1 n1 cap1), (40, .slice A46 (X1).length c46)] [] := by rw [← hX1]; exact F46.sub ⟨rfl, rfl, rfl, rfl, rfl, rfl, rfl, rfl, rfl, rfl, rfl, rfl, rfl, rfl, rfl, rfl, rfl, rfl, rfl, trivial⟩
    clear M46 F46
    obtain rfl : l1 = X1 := hX1
    refine wl_runM (wanted_none rfl) rfl F47 rfl (run_lit0 M47 6 rfl) ?_
    intro v48 a48 w48 F48 M48
    clear F47 M47
    obtain ⟨A48, c48, rfl⟩ := (M48.isO (k := 6) rfl).shape
    refine rm rfl F48 fun a49 F49 => ?_
    refine wl_runM (wanted_none rfl) rfl F49 rfl (run_app M48 (k := 6) rfl _ _ rfl (F49.get (t := 41) rfl) (F49.get (t := 42) rfl) (M48.isb (k := 1) rfl) (by simp; omega)) ?_
    intro v50 a50 w50 F50 M50
    clear F49 M48
    obtain ⟨A50, c50, rfl⟩ := (M50.isO (k := 6) rfl).shape
    obtain ⟨X2, hX2⟩ : ∃ z, ([] ++ l2) = z := ⟨_, rfl⟩
    have M51 : Mx none w w50 [(0, bytR l1 (.slice A1 n1 cap1)), (1, bytR l2 (.slice A2 n2 cap2)), (2, bytR l3 (.slice A3 n3 cap3)), (3, blkR g32 23 (#[.slice A1 n1 cap1, .slice A2 n2 cap2, .slice A3 n3 cap3])), (4, blkR g41 30 (groupA k p (p / 2) 4)), (5, ownR l1 (.slice A46 (l1).length c46)), (6, ownR X2 (.slice A50 (X2).length c50))] := by rw [← hX2]; exact M50.sub ⟨rfl, rfl, rfl, rfl, rfl, rfl, rfl, trivial⟩
    have F51 : Fx 144 a50 [(0, .int .i64 a0), (1, .slice A1 n1 cap1), (2, .slice A2 n2 cap2), (3, .slice A3 n3 cap3), (8, .bool false), (28, .bool true), (29, .bool false), (30, .slice A1 n1 cap1), (31, .slice A2 n2 cap2), (32, .slice A3 n3 cap3), (33, .slice (some ⟨g32, 0, none⟩) 3 3), (34, .bool true), (35, .bool false), (36, .int .i64 a0), (37, .agg (groupA k p (p / 2) 4)), (9, .pointer (some ⟨g41, 0, none⟩)), (38, .slice A44 (([] : List UInt8)).length c44), (39, .slice A1 n1 cap1), (40, .slice A46 (l1).length c46), (41, .slice A48 (([] : List UInt8)).length c48), (42, .slice A2 n2 cap2), (43, .slice A50 (X2).length c50)] [] := by rw [← hX2]; exact F50.sub ⟨rfl, rfl, rfl, rfl, rfl, rfl, rfl, rfl, rfl, rfl, rfl, rfl, rfl, rfl, rfl, rfl, rfl, rfl, rfl, rfl, rfl, rfl, trivial⟩
    clear M50 F50
    obtain rfl : l2 = X2 := hX2
    refine rm rfl F51 fun a52 F52 => ?_
    refine rm rfl F52 fun a53 F53 => ?_
    refine hK43 _ _ ?_
    refine wp_seq_k fun K54 hK54 => ?_
    refine wp_region_lit ?_
    refine rm rfl F53 fun a55 F55 => ?_
    refine wl_run (w' := w50) (wanted_none rfl) rfl F55 rfl (.agg (groupA k p (p / 2) 4)) (y_ldN _ _ rfl (F55.get (t := 9) rfl) (M51.blk (k := 4) rfl) (groupA k p (p / 2) 4) (y_all rfl) Try.underlying30 rfl (by kernel_rfl)) fun a56 F56 => ?_
    clear F55
    refine rm rfl F56 fun a57 F57 => ?_
    refine rm rfl F57 fun a58 F58 => ?_
    refine wl_call (wanted_none rfl) rfl F58 rfl rfl (enters_of Try.func18 (by kernel_rfl) rfl) #[.agg (groupA k p (p / 2) 4), .string ({ data := #[117] }), .slice A46 (l1).length c46, .slice A50 (l2).length c50] (args4 (F58.get (t := 45) rfl) rfl (F58.get (t := 46) rfl) (F58.get (t := 47) rfl)) (call_ex ((kV w50 _ _ (M51.isO (k := 5) rfl) (M51.isO (k := 6) rfl)))) ?_
    rintro _ w59 a59 ⟨rfl, b59⟩ F59
    have M59 := M51.step b59
    refine wl_run (w' := w59) (wanted_none rfl) rfl F59 rfl (.agg (recA ⟨1, ({ data := #[117] }), l2, V1, 0, [], 0, 0, 0⟩ ⟨.slice A50 (l2).length c50, .slice none 0 0⟩)) (by unfold execOp; simp only [List.map_toArray, List.map_cons, List.map_nil, (F59.get (t := 44) rfl), (F59.get (t := 48) rfl)]; kernel_rfl) fun a60 F60 => ?_
    clear F59
    refine wl_alloc (wanted_none rfl) rfl F60 rfl M59 7 (t := 35) (c := recA ⟨0, "".toUTF8, [], 0, 0, [], 0, 0, 0⟩ ⟨.slice none 0 0, .slice none 0 0⟩) (by unfold execOp; kernel_rfl) ?_
    intro g61 a61 w61 F61 M61
    clear F60 M59
    refine wl_st (wanted_none rfl) rfl F61 M61 (k := 7) rfl _ _ _ rfl (F61.get (t := 12) rfl) (F61.get (t := 49) rfl) (recA ⟨1, ({ data := #[117] }), l2, V1, 0, [], 0, 0, 0⟩ ⟨.slice A50 (l2).length c50, .slice none 0 0⟩) (recA ⟨1, ({ data := #[117] }), l2, V1, 0, [], 0, 0, 0⟩ ⟨.slice A50 (l2).length c50, .slice none 0 0⟩) rfl (Nat.le_of_ble_eq_true rfl) (recA_one (w := w61) ⟨(M61.isO (k := 6) rfl), isb_nil _⟩) (y_put0 rfl) (by kernel_rfl) ?_
    intro w62 M62
    clear M61
    refine hK54 _ _ ?_
    refine wp_seq_k fun K63 hK63 => ?_
    refine wp_region_lit ?_
    refine wl_run (w' := w62) (wanted_none rfl) rfl F61 rfl (.agg (groupA k p (p / 2) 4)) (y_ldN _ _ rfl (F61.get (t := 9) rfl) (M62.blk (k := 4) rfl) (groupA k p (p / 2) 4) (y_all rfl) Try.underlying30 rfl (by kernel_rfl)) fun a64 F64 => ?_
    clear F61
    refine rm rfl F64 fun a65 F65 => ?_
    refine rm rfl F65 fun a66 F66 => ?_
    refine wl_call (wanted_none rfl) rfl F66 rfl rfl (enters_of Try.func10 (by kernel_rfl) rfl) #[.agg (groupA k p (p / 2) 4), .string ({ data := #[117] }), .slice A46 (l1).length c46, .slice A3 n3 cap3] (args4 (F66.get (t := 51) rfl) rfl (F66.get (t := 52) rfl) (F66.get (t := 53) rfl)) (kH w62 _ _ (M62.isO (k := 5) rfl) (M62.isb (k := 2) rfl)) ?_
    rintro _ w67 a67 ⟨y67, rfl, his67, hlo67, hls67, b67⟩ F67
    obtain ⟨M67, -⟩ := side_two M62 b67 8 9 his67 hlo67 hls67 (by decide)
    clear M62 hlo67 hls67 his67 b67
    refine exA 3 [(50, .tuple #[.agg (sideA C y67), numV A]), (55, .agg (sideA C y67)), (56, numV A)] [] dnil [] F67 (by kernel_rfl) (by kernel_rfl) fun a68 F68 => ?_
    clear F67
    simp only [List.drop_succ_cons, List.drop_zero]
    refine wl_alloc (wanted_none rfl) rfl F68 rfl M67 10 (t := 39) (c := sideA ⟨0, 0, 0, 0, "".toUTF8, [], 0, 0, 0, [], 0, (fun _ => 0), (fun _ => 0)⟩ ⟨.slice none 0 0, .slice none 0 0⟩) (by unfold execOp; kernel_rfl) ?_
    intro g69 a69 w69 F69 M69
    clear F68 M67
    refine wl_alloc (wanted_none rfl) rfl F69 rfl M69 11 (t := 28) (c := numA 0) (y_new_num rfl) ?_
    intro g70 a70 w70 F70 M70
    clear F69 M69
    refine wl_st (wanted_none rfl) rfl F70 M70 (k := 10) rfl _ _ _ rfl (F70.get (t := 13) rfl) (F70.get (t := 55) rfl) (sideA C y67) (sideA C y67) rfl (Nat.le_of_ble_eq_true rfl) (sideA_one (w := w70) ⟨(M70.isb (k := 8) rfl), (M70.isb (k := 9) rfl)⟩) (y_put0 rfl) (by kernel_rfl) ?_
    intro w71 M71
    clear M70
    refine wl_st (wanted_none rfl) rfl F70 M71 (k := 11) rfl _ _ _ rfl (F70.get (t := 14) rfl) (F70.get (t := 56) rfl) (numA A) (numA A) rfl (Nat.le_of_ble_eq_true rfl) (numA_one _) (y_put0 rfl) size26 ?_
    intro w72 M72
    clear M71
    refine hK63 _ _ ?_
    refine wp_seq_k fun K73 hK73 => ?_
    refine wp_region_lit ?_
    refine wl_run (w' := w72) (wanted_none rfl) rfl F70 rfl (.agg (sideA C y67)) (y_ldN _ _ rfl (F70.get (t := 13) rfl) (M72.blk (k := 10) rfl) (sideA C y67) (y_all rfl) Try.underlying39 rfl (by kernel_rfl)) fun a74 F74 => ?_
    clear F70
    refine wl_call (wanted_none rfl) rfl F74 rfl rfl (enters_of Try.func19 (by kernel_rfl) rfl) #[.agg (sideA C y67)] (args1 (F74.get (t := 57) rfl)) (call_ex ((as_any C y67 w72 ⟨(M72.isb (k := 8) rfl), (M72.isb (k := 9) rfl)⟩))) ?_
    rintro _ w75 a75 ⟨rfl, b75⟩ F75
    have M75 := M72.step b75
    refine wl_alloc (wanted_none rfl) rfl F75 rfl M75 12 (t := 54) (c := sideA ⟨0, 0, 0, 0, "".toUTF8, [], 0, 0, 0, [], 0, (fun _ => 0), (fun _ => 0)⟩ ⟨.slice none 0 0, .slice none 0 0⟩) (by unfold execOp; kernel_rfl) ?_
    intro g76 a76 w76 F76 M76
    clear F75 M75
    refine wl_st (wanted_none rfl) rfl F76 M76 (k := 12) rfl _ _ _ rfl (F76.get (t := 15) rfl) (F76.get (t := 58) rfl) (sideA C y67) (sideA C y67) rfl (Nat.le_of_ble_eq_true rfl) (sideA_one (w := w76) ⟨(M76.isb (k := 8) rfl), (M76.isb (k := 9) rfl)⟩) (y_put0 rfl) (by kernel_rfl) ?_
    intro w77 M77
    clear M76
    refine hK73 _ _ ?_
    refine wp_seq_k fun K78 hK78 => ?_
    refine wp_region_lit ?_
    refine wl_run (w' := w77) (wanted_none rfl) rfl F76 rfl (.agg (groupA k p (p / 2) 4)) (y_ldN _ _ rfl (F76.get (t := 9) rfl) (M77.blk (k := 4) rfl) (groupA k p (p / 2) 4) (y_all rfl) Try.underlying30 rfl (by kernel_rfl)) fun a79 F79 => ?_
    clear F76
    refine wl_run (w' := w77) (wanted_none rfl) rfl F79 rfl (.agg (recA ⟨1, ({ data := #[117] }), l2, V1, 0, [], 0, 0, 0⟩ ⟨.slice A50 (l2).length c50, .slice none 0 0⟩)) (y_ldN _ _ rfl (F79.get (t := 12) rfl) (M77.blk (k := 7) rfl) (recA ⟨1, ({ data := #[117] }), l2, V1, 0, [], 0, 0, 0⟩ ⟨.slice A50 (l2).length c50, .slice none 0 0⟩) (y_all rfl) Try.underlying35 rfl (by kernel_rfl)) fun a80 F80 => ?_
    clear F79
    refine wl_run (w' := w77) (wanted_none rfl) rfl F80 rfl (numV A) (y_ldN _ _ rfl (F80.get (t := 14) rfl) (M77.blk (k := 11) rfl) (numA A) (y_all rfl) Try.underlying28 rfl size26) fun a81 F81 => ?_
    clear F80
    refine rm rfl F81 fun a82 F82 => ?_
    refine wl_call (wanted_none rfl) rfl F82 rfl rfl (enters_of Try.func14 (by kernel_rfl) rfl) #[.agg (groupA k p (p / 2) 4), .agg (recA ⟨1, ({ data := #[117] }), l2, V1, 0, [], 0, 0, 0⟩ ⟨.slice A50 (l2).length c50, .slice none 0 0⟩), numV A, .slice A3 n3 cap3] (args4 (F82.get (t := 60) rfl) (F82.get (t := 61) rfl) (F82.get (t := 62) rfl) (F82.get (t := 63) rfl)) (kO w77 _ _ ⟨(M77.isO (k := 6) rfl), isb_nil _⟩ (M77.isb (k := 2) rfl)) ?_
    rintro _ w83 a83 ⟨y83, rfl, his83, hlo83, hls83, b83⟩ F83
    obtain ⟨M83, -⟩ := side_two M77 b83 13 14 his83 hlo83 hls83 (by decide)
    clear M77 hlo83 hls83 his83 b83
    refine exA 4 [(59, .tuple #[.agg (sideA S y83), numV B, .bool ok]), (65, .agg (sideA S y83)), (66, numV B), (67, .bool ok)] [] dnil [] F83 (by kernel_rfl) (by kernel_rfl) fun a84 F84 => ?_
    clear F83
    simp only [List.drop_succ_cons, List.drop_zero]
    refine wl_alloc (wanted_none rfl) rfl F84 rfl M83 15 (t := 39) (c := sideA ⟨0, 0, 0, 0, "".toUTF8, [], 0, 0, 0, [], 0, (fun _ => 0), (fun _ => 0)⟩ ⟨.slice none 0 0, .slice none 0 0⟩) (by unfold execOp; kernel_rfl) ?_
    intro g85 a85 w85 F85 M85
    clear F84 M83
    refine wl_alloc (wanted_none rfl) rfl F85 rfl M85 16 (t := 28) (c := numA 0) (y_new_num rfl) ?_
    intro g86 a86 w86 F86 M86
    clear F85 M85
    refine wl_st (wanted_none rfl) rfl F86 M86 (k := 15) rfl _ _ _ rfl (F86.get (t := 16) rfl) (F86.get (t := 65) rfl) (sideA S y83) (sideA S y83) rfl (Nat.le_of_ble_eq_true rfl) (sideA_one (w := w86) ⟨(M86.isb (k := 13) rfl), (M86.isb (k := 14) rfl)⟩) (y_put0 rfl) (by kernel_rfl) ?_
    intro w87 M87
    clear M86
    refine wl_st (wanted_none rfl) rfl F86 M87 (k := 16) rfl _ _ _ rfl (F86.get (t := 17) rfl) (F86.get (t := 66) rfl) (numA B) (numA B) rfl (Nat.le_of_ble_eq_true rfl) (numA_one _) (y_put0 rfl) size26 ?_
    intro w88 M88
    clear M87
    refine rm rfl F86 fun a89 F89 => ?_
    refine hK78 _ _ ?_
    refine wp_seq_k fun K90 hK90 => ?_
    refine wp_region_lit ?_
    refine wl_run (w' := w88) (wanted_none rfl) rfl F89 rfl (.agg (groupA k p (p / 2) 4)) (y_ldN _ _ rfl (F89.get (t := 9) rfl) (M88.blk (k := 4) rfl) (groupA k p (p / 2) 4) (y_all rfl) Try.underlying30 rfl (by kernel_rfl)) fun a91 F91 => ?_
    clear F89
    refine wl_run (w' := w88) (wanted_none rfl) rfl F91 rfl (.agg (recA ⟨1, ({ data := #[117] }), l2, V1, 0, [], 0, 0, 0⟩ ⟨.slice A50 (l2).length c50, .slice none 0 0⟩)) (y_ldN _ _ rfl (F91.get (t := 12) rfl) (M88.blk (k := 7) rfl) (recA ⟨1, ({ data := #[117] }), l2, V1, 0, [], 0, 0, 0⟩ ⟨.slice A50 (l2).length c50, .slice none 0 0⟩) (y_all rfl) Try.underlying35 rfl (by kernel_rfl)) fun a92 F92 => ?_
    clear F91
    refine wl_run (w' := w88) (wanted_none rfl) rfl F92 rfl (numV A) (y_ldN _ _ rfl (F92.get (t := 14) rfl) (M88.blk (k := 11) rfl) (numA A) (y_all rfl) Try.underlying28 rfl size26) fun a93 F93 => ?_
    clear F92
    refine rm rfl F93 fun a94 F94 => ?_
    refine wl_call (wanted_none rfl) rfl F94 rfl rfl (enters_of Try.func14 (by kernel_rfl) rfl) #[.agg (groupA k p (p / 2) 4), .agg (recA ⟨1, ({ data := #[117] }), l2, V1, 0, [], 0, 0, 0⟩ ⟨.slice A50 (l2).length c50, .slice none 0 0⟩), numV A, .slice A3 n3 cap3] (args4 (F94.get (t := 69) rfl) (F94.get (t := 70) rfl) (F94.get (t := 71) rfl) (F94.get (t := 72) rfl)) (kO w88 _ _ ⟨(M88.isO (k := 6) rfl), isb_nil _⟩ (M88.isb (k := 2) rfl)) ?_
    rintro _ w95 a95 ⟨y95, rfl, his95, hlo95, hls95, b95⟩ F95
    obtain ⟨M95, -⟩ := side_two M88 b95 17 18 his95 hlo95 hls95 (by decide)
    clear M88 hlo95 hls95 his95 b95
    refine exA 4 [(68, .tuple #[.agg (sideA S y95), numV B, .bool ok]), (74, .agg (sideA S y95)), (75, numV B), (76, .bool ok)] [] dnil [] F95 (by kernel_rfl) (by kernel_rfl) fun a96 F96 => ?_
    clear F95
    simp only [List.drop_succ_cons, List.drop_zero]
    refine wl_alloc (wanted_none rfl) rfl F96 rfl M95 19 (t := 39) (c := sideA ⟨0, 0, 0, 0, "".toUTF8, [], 0, 0, 0, [], 0, (fun _ => 0), (fun _ => 0)⟩ ⟨.slice none 0 0, .slice none 0 0⟩) (by unfold execOp; kernel_rfl) ?_
    intro g97 a97 w97 F97 M97
    clear F96 M95
    refine wl_alloc (wanted_none rfl) rfl F97 rfl M97 20 (t := 28) (c := numA 0) (y_new_num rfl) ?_
    intro g98 a98 w98 F98 M98
    clear F97 M97
    refine wl_st (wanted_none rfl) rfl F98 M98 (k := 19) rfl _ _ _ rfl (F98.get (t := 19) rfl) (F98.get (t := 74) rfl) (sideA S y95) (sideA S y95) rfl (Nat.le_of_ble_eq_true rfl) (sideA_one (w := w98) ⟨(M98.isb (k := 17) rfl), (M98.isb (k := 18) rfl)⟩) (y_put0 rfl) (by kernel_rfl) ?_
    intro w99 M99
    clear M98
    refine wl_st (wanted_none rfl) rfl F98 M99 (k := 20) rfl _ _ _ rfl (F98.get (t := 20) rfl) (F98.get (t := 75) rfl) (numA B) (numA B) rfl (Nat.le_of_ble_eq_true rfl) (numA_one _) (y_put0 rfl) size26 ?_
    intro w100 M100
    clear M99
    refine rm rfl F98 fun a101 F101 => ?_
    refine hK90 _ _ ?_
    refine wp_seq_k fun K102 hK102 => ?_
    refine wp_seq_k fun K103 hK103 => ?_
    have hD104 := (dcons (M100.blk (k := 16) rfl) (dcons (M100.blk (k := 20) rfl) (dcons (M100.blk (k := 15) rfl) (dcons (M100.blk (k := 19) rfl) dnil))))
    refine region_fx F101 (SK [.inl (.bool ok), .inl (.bool ok), .inl (.bool false), .inl (.bool false), .inl (numV B), .inl (numV B), .inl (.bool false), .inl (.bool false), .inl (.bool false), .inl (.agg (sideA S y83)), .inl (.agg (sideA S y83)), .inl (.agg (sideA S y95)), .inl (.agg (sideA S y95)), .inl (.bool true), .inl (.bool false), .inl (.bool false)]) 16 rfl (by kernel_rfl) ⟨hop0 F101 (by kernel_rfl), hop0 F101 (by kernel_rfl), ?_, hop0 F101 (by kernel_rfl), hopP F101 hD104 0 (some g86) (by kernel_rfl), hopP F101 hD104 1 (some g98) (by kernel_rfl), ?_, hop0 F101 (by kernel_rfl), hop0 F101 (by kernel_rfl), hopP F101 hD104 2 (some g85) (by kernel_rfl), ?_, hopP F101 hD104 3 (some g97) (by kernel_rfl), ?_, ?_, hop0 F101 (by kernel_rfl), hop0 F101 (by kernel_rfl), trivial⟩ ?_
    · intro ua uw hb hd
      have e77 : ua.eval (.tmp 77) = .bool ok := hd 77 (by decide)
      have e78 : ua.eval (.tmp 78) = .bool ok := hd 78 (by decide)
      exact hop_runK (F := (StK.eq (.bool false)).F) (wanted_none rfl) (.bool false) (y_neB _ _ rfl e77 e78 (by cases ok <;> rfl)) rfl
    · intro ua uw hb hd
      have eg : ua.eval (.tmp 80) = .bool false := hd 80 (by decide)
      have e81 : ua.eval (.tmp 81) = numV B := hd 81 (by decide)
      have e82 : ua.eval (.tmp 82) = numV B := hd 82 (by decide)
      exact hop_runK (F := (StK.eq (.bool false)).F) (wanted_yes rfl rfl rfl eg) (.bool false) (y_neA _ _ _ _ rfl e81 e82 (by kernel_rfl) (eqn_same B _)) rfl
    · intro ua uw hb hd
      have eg : ua.eval (.tmp 85) = .bool false := hd 85 (by decide)
      have e86 : ua.eval (.tmp 86) = .agg (sideA S y83) := hd 86 (by decide)
      exact hop_callK (F := (StK.eq (.agg (sideA S y83))).F) (wanted_yes rfl rfl rfl eg) hb.size rfl #[.agg (sideA S y83)] (args1 e86) (enters_of Try.func19 (by kernel_rfl) rfl) (call_eqS ((as_any S y83 uw ⟨((M100.step hb).isb (k := 13) rfl), ((M100.step hb).isb (k := 14) rfl)⟩)))
    · intro ua uw hb hd
      have eg : ua.eval (.tmp 85) = .bool false := hd 85 (by decide)
      have e88 : ua.eval (.tmp 88) = .agg (sideA S y95) := hd 88 (by decide)
      exact hop_callK (F := (StK.eq (.agg (sideA S y95))).F) (wanted_yes rfl rfl rfl eg) hb.size rfl #[.agg (sideA S y95)] (args1 e88) (enters_of Try.func19 (by kernel_rfl) rfl) (call_eqS ((as_any S y95 uw ⟨((M100.step hb).isb (k := 17) rfl), ((M100.step hb).isb (k := 18) rfl)⟩)))
    · intro ua uw hb hd
      have eg : ua.eval (.tmp 85) = .bool false := hd 85 (by decide)
      have e87 : ua.eval (.tmp 87) = .agg (sideA S y83) := hd 87 (by decide)
      have e89 : ua.eval (.tmp 89) = .agg (sideA S y95) := hd 89 (by decide)
      exact hop_callK (F := (StK.eq (.bool true)).F) (wanted_yes rfl rfl rfl eg) hb.size rfl #[.agg (sideA S y83), .agg (sideA S y95)] (args2 e87 e89) (enters_of Try.func20 (by kernel_rfl) rfl) (call_eqS ((same_self S y83 y95 uw ⟨((M100.step hb).isb (k := 13) rfl), ((M100.step hb).isb (k := 14) rfl)⟩ ⟨((M100.step hb).isb (k := 17) rfl), ((M100.step hb).isb (k := 18) rfl)⟩)))
    intro p105 a105 w105 b105 G105 y105
    obtain ⟨-, -, -, -, -, -, -, -, -, -, -, -, -, -, -, q15, -⟩ := y105
    have r15 : p105 15 = .bool false := q15 (by decide)
    simp only [List.take_succ_cons, List.take_zero, layV, Nat.zero_add, Nat.reduceAdd, r15] at G105
    have M105 := M100.kc b105
    clear F101 M100 r15 q15
    refine hK103 _ _ ?_
    refine wp_cond_false (G105.get (t := 92) rfl) ?_
    refine wp_skip ?_
    refine hK102 _ _ ?_
    refine wp_seq_k fun K106 hK106 => ?_
    refine wp_seq_k fun K107 hK107 => ?_
    refine wp_region_lit ?_
    refine rm rfl G105 fun a108 F108 => ?_
    cases ok
    · refine wl_run (w' := w105) (wanted_none rfl) rfl F108 rfl (.bool true) (run_not _ _ rfl (F108.get (t := 93) rfl)) fun a109 F109 => ?_
      clear F108
      refine hK107 _ _ ?_
      refine wp_cond_true (F109.get (t := 94) rfl) ?_
      refine wp_seq_k fun K110 hK110 => ?_
      refine wp_region_lit ?_
      refine wl_run (w' := w105) (wanted_none rfl) rfl F109 rfl (numV B) (y_ldN _ _ rfl (F109.get (t := 17) rfl) (M105.blk (k := 16) rfl) (numA B) (y_all rfl) Try.underlying28 rfl size26) fun a111 F111 => ?_
      clear F109
      refine wl_run (w' := w105) (wanted_none rfl) rfl F111 rfl (numV 0) (y_zbuild rfl) fun a112 F112 => ?_
      clear F111
      refine wl_run (w' := w105) (wanted_none rfl) rfl F112 rfl (.bool true) (y_eqA _ _ _ _ rfl (F112.get (t := 95) rfl) (F112.get (t := 96) rfl) (by kernel_rfl) (eqn_is (hB0 rfl) _)) fun a113 F113 => ?_
      clear F112
      refine rm rfl F113 fun a114 F114 => ?_
      refine hK110 _ _ ?_
      refine wp_ret ?_
      try simp only [Exit.then, Exit.inBlock, Exit.jump]
      exact bodyPost_ret (res1 rfl (F114.get (t := 8) rfl)) F114.defers ⟨rfl, M105.below⟩
    · refine wl_run (w' := w105) (wanted_none rfl) rfl F108 rfl (.bool false) (run_not _ _ rfl (F108.get (t := 93) rfl)) fun a115 F115 => ?_
      clear F108
      refine hK107 _ _ ?_
      refine wp_cond_false (F115.get (t := 94) rfl) ?_
      refine wp_skip ?_
      refine hK106 _ _ ?_
      refine wp_seq_k fun K116 hK116 => ?_
      refine wp_region_lit ?_
      refine exA 3 [(99, .agg (sideA C y67)), (100, .slice A50 (l2).length c50), (101, numV B)] [0, 1] (dcons (M105.blk (k := 10) rfl) (dcons (M105.blk (k := 16) rfl) dnil)) [g69, g86] F115 (by kernel_rfl) (by kernel_rfl) fun a117 F117 => ?_
      clear F115
      simp only [List.drop_succ_cons, List.drop_zero]
      refine wl_call (wanted_none rfl) rfl F117 rfl rfl (enters_of Try.func16 (by kernel_rfl) rfl) #[.agg (sideA C y67), .slice A50 (l2).length c50, numV B] (args3 (F117.get (t := 99) rfl) (F117.get (t := 100) rfl) (F117.get (t := 101) rfl)) (kP w105 _ _ ⟨(M105.isb (k := 8) rfl), (M105.isb (k := 9) rfl)⟩ (M105.isO (k := 6) rfl)) ?_
      rintro _ w118 a118 ⟨y118, rfl, his118, hlo118, hls118, b118⟩ F118
      obtain ⟨M118, -⟩ := side_two M105 b118 21 22 his118 hlo118 hls118 (by decide)
      clear M105 hlo118 hls118 his118 b118
      refine exA 4 [(98, .tuple #[.agg (sideA D y118), .agg (arr16 Y), .bool ok2]), (103, .agg (sideA D y118)), (104, .agg (arr16 Y)), (105, .bool ok2)] [] dnil [] F118 (by kernel_rfl) (by kernel_rfl) fun a119 F119 => ?_
      clear F118
      simp only [List.drop_succ_cons, List.drop_zero]
      refine wl_alloc (wanted_none rfl) rfl F119 rfl M118 23 (t := 39) (c := sideA ⟨0, 0, 0, 0, "".toUTF8, [], 0, 0, 0, [], 0, (fun _ => 0), (fun _ => 0)⟩ ⟨.slice none 0 0, .slice none 0 0⟩) (by unfold execOp; kernel_rfl) ?_
      intro g120 a120 w120 F120 M120
      clear F119 M118
      refine wl_alloc (wanted_none rfl) rfl F120 rfl M120 24 (t := 37) (c := arr16 (fun _ => 0)) (by unfold execOp; kernel_rfl) ?_
      intro g121 a121 w121 F121 M121
      clear F120 M120
      refine wl_st (wanted_none rfl) rfl F121 M121 (k := 23) rfl _ _ _ rfl (F121.get (t := 22) rfl) (F121.get (t := 103) rfl) (sideA D y118) (sideA D y118) rfl (Nat.le_of_ble_eq_true rfl) (sideA_one (w := w121) ⟨(M121.isb (k := 21) rfl), (M121.isb (k := 22) rfl)⟩) (y_put0 rfl) (by kernel_rfl) ?_
      intro w122 M122
      clear M121
      refine wl_st (wanted_none rfl) rfl F121 M122 (k := 24) rfl _ _ _ rfl (F121.get (t := 23) rfl) (F121.get (t := 104) rfl) (arr16 Y) (arr16 Y) rfl (Nat.le_of_ble_eq_true rfl) (arr16_one _) (y_put0 rfl) (by kernel_rfl) ?_
      intro w123 M123
      clear M122
      refine rm rfl F121 fun a124 F124 => ?_
      refine hK116 _ _ ?_
      refine wp_seq_k fun K125 hK125 => ?_
      refine wp_region_lit ?_
      refine exA 3 [(107, .agg (sideA C y67)), (108, .slice A50 (l2).length c50), (109, numV B)] [0, 1] (dcons (M123.blk (k := 10) rfl) (dcons (M123.blk (k := 16) rfl) dnil)) [g69, g86] F124 (by kernel_rfl) (by kernel_rfl) fun a126 F126 => ?_
      clear F124
      simp only [List.drop_succ_cons, List.drop_zero]
      refine wl_call (wanted_none rfl) rfl F126 rfl rfl (enters_of Try.func16 (by kernel_rfl) rfl) #[.agg (sideA C y67), .slice A50 (l2).length c50, numV B] (args3 (F126.get (t := 107) rfl) (F126.get (t := 108) rfl) (F126.get (t := 109) rfl)) (kP w123 _ _ ⟨(M123.isb (k := 8) rfl), (M123.isb (k := 9) rfl)⟩ (M123.isO (k := 6) rfl)) ?_
      rintro _ w127 a127 ⟨y127, rfl, his127, hlo127, hls127, b127⟩ F127
      obtain ⟨M127, -⟩ := side_two M123 b127 25 26 his127 hlo127 hls127 (by decide)
      clear M123 hlo127 hls127 his127 b127
      refine exA 4 [(106, .tuple #[.agg (sideA D y127), .agg (arr16 Y), .bool ok2]), (111, .agg (sideA D y127)), (112, .agg (arr16 Y)), (113, .bool ok2)] [] dnil [] F127 (by kernel_rfl) (by kernel_rfl) fun a128 F128 => ?_
      clear F127
      simp only [List.drop_succ_cons, List.drop_zero]
      refine wl_alloc (wanted_none rfl) rfl F128 rfl M127 27 (t := 39) (c := sideA ⟨0, 0, 0, 0, "".toUTF8, [], 0, 0, 0, [], 0, (fun _ => 0), (fun _ => 0)⟩ ⟨.slice none 0 0, .slice none 0 0⟩) (by unfold execOp; kernel_rfl) ?_
      intro g129 a129 w129 F129 M129
      clear F128 M127
      refine wl_alloc (wanted_none rfl) rfl F129 rfl M129 28 (t := 37) (c := arr16 (fun _ => 0)) (by unfold execOp; kernel_rfl) ?_
      intro g130 a130 w130 F130 M130
      clear F129 M129
      refine wl_st (wanted_none rfl) rfl F130 M130 (k := 27) rfl _ _ _ rfl (F130.get (t := 25) rfl) (F130.get (t := 111) rfl) (sideA D y127) (sideA D y127) rfl (Nat.le_of_ble_eq_true rfl) (sideA_one (w := w130) ⟨(M130.isb (k := 25) rfl), (M130.isb (k := 26) rfl)⟩) (y_put0 rfl) (by kernel_rfl) ?_
      intro w131 M131
      clear M130
      refine wl_st (wanted_none rfl) rfl F130 M131 (k := 28) rfl _ _ _ rfl (F130.get (t := 26) rfl) (F130.get (t := 112) rfl) (arr16 Y) (arr16 Y) rfl (Nat.le_of_ble_eq_true rfl) (arr16_one _) (y_put0 rfl) (by kernel_rfl) ?_
      intro w132 M132
      clear M131
      refine rm rfl F130 fun a133 F133 => ?_
      refine hK125 _ _ ?_
      refine wp_seq_k fun K134 hK134 => ?_
      have hD135 := (dcons (M132.blk (k := 24) rfl) (dcons (M132.blk (k := 28) rfl) (dcons (M132.blk (k := 23) rfl) (dcons (M132.blk (k := 27) rfl) (dcons (M132.blk (k := 10) rfl) (dcons (M132.blk (k := 12) rfl) dnil))))))
      refine region_fx F133 (SK [.inl (.agg (arr16 Y)), .inl (.agg (arr16 Y)), .inl (.bool true), .inl (.bool true), .inl (.agg (sideA D y118)), .inl (.agg (sideA D y118)), .inl (.agg (sideA D y127)), .inl (.agg (sideA D y127)), .inl (.bool true), .inl (.bool true), .inl (.bool true), .inl (.agg (sideA C y67)), .inl (.agg (sideA C y67)), .inl (.agg (sideA C y67)), .inl (.bool true), .inl (.bool true), .inl (.bool true), .inl (.slice A46 (l1).length c46), .inl (.string (⟨(l1).toArray⟩)), .inl (.slice A1 n1 cap1), .inl (.string (⟨(l1).toArray⟩)), .inl (.bool true), .inl (.bool true), .inl (.bool true), .inl (.slice A50 (l2).length c50), .inl (.string (⟨(l2).toArray⟩)), .inl (.slice A2 n2 cap2), .inl (.string (⟨(l2).toArray⟩)), .inl (.bool true), .inl (.bool true), .inl (.bool true)]) 31 rfl (by kernel_rfl) ⟨hopP F133 hD135 0 (some g121) (by kernel_rfl), hopP F133 hD135 1 (some g130) (by kernel_rfl), ?_, hop0 F133 (by kernel_rfl), hopP F133 hD135 2 (some g120) (by kernel_rfl), ?_, hopP F133 hD135 3 (some g129) (by kernel_rfl), ?_, ?_, hop0 F133 (by kernel_rfl), hop0 F133 (by kernel_rfl), hopP F133 hD135 4 (some g69) (by kernel_rfl), ?_, hopP F133 hD135 5 (some g76) (by kernel_rfl), ?_, hop0 F133 (by kernel_rfl), hop0 F133 (by kernel_rfl), hop0 F133 (by kernel_rfl), ?_, hop0 F133 (by kernel_rfl), ?_, ?_, hop0 F133 (by kernel_rfl), hop0 F133 (by kernel_rfl), hop0 F133 (by kernel_rfl), ?_, hop0 F133 (by kernel_rfl), ?_, ?_, hop0 F133 (by kernel_rfl), hop0 F133 (by kernel_rfl), trivial⟩ ?_
      · intro ua uw hb hd
        have e114 : ua.eval (.tmp 114) = .agg (arr16 Y) := hd 114 (by decide)
        have e115 : ua.eval (.tmp 115) = .agg (arr16 Y) := hd 115 (by decide)
        exact hop_runK (F := (StK.eq (.bool true)).F) (wanted_none rfl) (.bool true) (run_eq16 _ _ rfl Y e114 e115) rfl
      · intro ua uw hb hd
        have eg : ua.eval (.tmp 117) = .bool true := hd 117 (by decide)
        have e118 : ua.eval (.tmp 118) = .agg (sideA D y118) := hd 118 (by decide)
        exact hop_callK (F := (StK.eq (.agg (sideA D y118))).F) (wanted_yes rfl rfl rfl eg) hb.size rfl #[.agg (sideA D y118)] (args1 e118) (enters_of Try.func19 (by kernel_rfl) rfl) (call_eqS ((as_any D y118 uw ⟨((M132.step hb).isb (k := 21) rfl), ((M132.step hb).isb (k := 22) rfl)⟩)))
      · intro ua uw hb hd
        have eg : ua.eval (.tmp 117) = .bool true := hd 117 (by decide)
        have e120 : ua.eval (.tmp 120) = .agg (sideA D y127) := hd 120 (by decide)
        exact hop_callK (F := (StK.eq (.agg (sideA D y127))).F) (wanted_yes rfl rfl rfl eg) hb.size rfl #[.agg (sideA D y127)] (args1 e120) (enters_of Try.func19 (by kernel_rfl) rfl) (call_eqS ((as_any D y127 uw ⟨((M132.step hb).isb (k := 25) rfl), ((M132.step hb).isb (k := 26) rfl)⟩)))
      · intro ua uw hb hd
        have eg : ua.eval (.tmp 117) = .bool true := hd 117 (by decide)
        have e119 : ua.eval (.tmp 119) = .agg (sideA D y118) := hd 119 (by decide)
        have e121 : ua.eval (.tmp 121) = .agg (sideA D y127) := hd 121 (by decide)
        exact hop_callK (F := (StK.eq (.bool true)).F) (wanted_yes rfl rfl rfl eg) hb.size rfl #[.agg (sideA D y118), .agg (sideA D y127)] (args2 e119 e121) (enters_of Try.func20 (by kernel_rfl) rfl) (call_eqS ((same_self D y118 y127 uw ⟨((M132.step hb).isb (k := 21) rfl), ((M132.step hb).isb (k := 22) rfl)⟩ ⟨((M132.step hb).isb (k := 25) rfl), ((M132.step hb).isb (k := 26) rfl)⟩)))
      · intro ua uw hb hd
        have eg : ua.eval (.tmp 124) = .bool true := hd 124 (by decide)
        have e125 : ua.eval (.tmp 125) = .agg (sideA C y67) := hd 125 (by decide)
        exact hop_callK (F := (StK.eq (.agg (sideA C y67))).F) (wanted_yes rfl rfl rfl eg) hb.size rfl #[.agg (sideA C y67)] (args1 e125) (enters_of Try.func19 (by kernel_rfl) rfl) (call_eqS ((as_any C y67 uw ⟨((M132.step hb).isb (k := 8) rfl), ((M132.step hb).isb (k := 9) rfl)⟩)))
      · intro ua uw hb hd
        have eg : ua.eval (.tmp 124) = .bool true := hd 124 (by decide)
        have e126 : ua.eval (.tmp 126) = .agg (sideA C y67) := hd 126 (by decide)
        have e127 : ua.eval (.tmp 127) = .agg (sideA C y67) := hd 127 (by decide)
        exact hop_callK (F := (StK.eq (.bool true)).F) (wanted_yes rfl rfl rfl eg) hb.size rfl #[.agg (sideA C y67), .agg (sideA C y67)] (args2 e126 e127) (enters_of Try.func20 (by kernel_rfl) rfl) (call_eqS ((same_self C y67 y67 uw ⟨((M132.step hb).isb (k := 8) rfl), ((M132.step hb).isb (k := 9) rfl)⟩ ⟨((M132.step hb).isb (k := 8) rfl), ((M132.step hb).isb (k := 9) rfl)⟩)))
      · intro ua uw hb hd
        have eg : ua.eval (.tmp 130) = .bool true := hd 130 (by decide)
        have e131 : ua.eval (.tmp 131) = .slice A46 (l1).length c46 := hd 131 (by decide)
        exact hop_runK (F := (StK.eq (.string (⟨(l1).toArray⟩))).F) (wanted_yes rfl rfl rfl eg) (.string (⟨(l1).toArray⟩)) (y_str _ rfl e131 ((M132.step hb).isO (k := 5) rfl)) rfl
      · intro ua uw hb hd
        have eg : ua.eval (.tmp 130) = .bool true := hd 130 (by decide)
        have e133 : ua.eval (.tmp 133) = .slice A1 n1 cap1 := hd 133 (by decide)
        exact hop_runK (F := (StK.eq (.string (⟨(l1).toArray⟩))).F) (wanted_yes rfl rfl rfl eg) (.string (⟨(l1).toArray⟩)) (y_str _ rfl e133 ((M132.step hb).isb (k := 0) rfl)) rfl
      · intro ua uw hb hd
        have eg : ua.eval (.tmp 130) = .bool true := hd 130 (by decide)
        have e132 : ua.eval (.tmp 132) = .string (⟨(l1).toArray⟩) := hd 132 (by decide)
        have e134 : ua.eval (.tmp 134) = .string (⟨(l1).toArray⟩) := hd 134 (by decide)
        exact hop_runK (F := (StK.eq (.bool true)).F) (wanted_yes rfl rfl rfl eg) (.bool true) (y_eqS _ _ _ rfl e132 e134 (str_eq rfl)) rfl
      · intro ua uw hb hd
        have eg : ua.eval (.tmp 137) = .bool true := hd 137 (by decide)
        have e138 : ua.eval (.tmp 138) = .slice A50 (l2).length c50 := hd 138 (by decide)
        exact hop_runK (F := (StK.eq (.string (⟨(l2).toArray⟩))).F) (wanted_yes rfl rfl rfl eg) (.string (⟨(l2).toArray⟩)) (y_str _ rfl e138 ((M132.step hb).isO (k := 6) rfl)) rfl
      · intro ua uw hb hd
        have eg : ua.eval (.tmp 137) = .bool true := hd 137 (by decide)
        have e140 : ua.eval (.tmp 140) = .slice A2 n2 cap2 := hd 140 (by decide)
        exact hop_runK (F := (StK.eq (.string (⟨(l2).toArray⟩))).F) (wanted_yes rfl rfl rfl eg) (.string (⟨(l2).toArray⟩)) (y_str _ rfl e140 ((M132.step hb).isb (k := 1) rfl)) rfl
      · intro ua uw hb hd
        have eg : ua.eval (.tmp 137) = .bool true := hd 137 (by decide)
        have e139 : ua.eval (.tmp 139) = .string (⟨(l2).toArray⟩) := hd 139 (by decide)
        have e141 : ua.eval (.tmp 141) = .string (⟨(l2).toArray⟩) := hd 141 (by decide)
        exact hop_runK (F := (StK.eq (.bool true)).F) (wanted_yes rfl rfl rfl eg) (.bool true) (y_eqS _ _ _ rfl e139 e141 (str_eq rfl)) rfl
      intro p136 a136 w136 b136 G136 y136
      obtain ⟨-, -, -, -, -, -, -, -, -, -, -, -, -, -, -, -, -, -, -, -, -, -, -, -, -, -, -, -, -, -, q30, -⟩ := y136
      have r30 : p136 30 = .bool true := q30 (by decide)
      simp only [List.take_succ_cons, List.take_zero, layV, Nat.zero_add, Nat.reduceAdd, r30] at G136
      have M136 := M132.kc b136
      clear F133 M132 r30 q30
      refine hK134 _ _ ?_
      refine wp_ret ?_
      try simp only [Exit.then, Exit.inBlock, Exit.jump]
      exact bodyPost_ret (res1 rfl (G136.get (t := 8) rfl)) G136.defers ⟨rfl, M136.below⟩
end Go.Proofs.Ytcfepoopkfhojaa
