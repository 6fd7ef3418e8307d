/- What WireRecordRight stands on, part 8. -/
import Derived.Test.YtlbkogdmojlpmaaWireRecordRightP1
import Derived.Test.YtlbkogdmojlpmaaWireRecordRightP2
import Derived.Test.YtlbkogdmojlpmaaWireRecordRightP3
import Derived.Test.YtlbkogdmojlpmaaWireRecordRightP4
import Derived.Test.YtlbkogdmojlpmaaWireRecordRightP5
import Derived.Test.YtlbkogdmojlpmaaWireRecordRightP6
import Derived.Test.YtlbkogdmojlpmaaWireRecordRightP7
set_option maxRecDepth 100000
set_option maxHeartbeats 8000000
set_option linter.unusedVariables false
set_option linter.unusedSimpArgs false
namespace Go.Proofs.Ytlbkogdmojlpmaa
open Go.ChangeShapes Go.WideShapes Go.ChangeAt Go.RowKit
def wrOk (n : Int) (b : Bool) : Bool := !b && decide (n < 100000)
def wrL (ok : Bool) (l c : List UInt8) : List UInt8 := cond ok (l ++ c) []
def wrN (ok : Bool) (n : Int) (c : List UInt8) : Int := cond ok (n + (c.length : Int)) n
def nxF (l : List UInt8) : Nat := (l.getD 0 0).toNat * 256 + (l.getD 1 0).toNat
noncomputable def nxOk (l : List UInt8) : Bool := decide (2 ≤ l.length) && decide (nxF l ≤ 200) && decide (2 + nxF l ≤ l.length) && decOk (l.take (2 + nxF l))
noncomputable def nxM (l : List UInt8) : MsgN := cond (nxOk l) (decR (l.take (2 + nxF l))) mZero
noncomputable def nxBad (l : List UInt8) : Bool := decide (2 ≤ l.length) && (decide (200 < nxF l) || (decide (2 + nxF l ≤ l.length) && !decOk (l.take (2 + nxF l))))
noncomputable def nxL (l : List UInt8) : List UInt8 := cond (nxOk l) (l.drop (2 + nxF l)) (cond (nxBad l) [] l)
theorem nx_short {l : List UInt8} (h : l.length < 2) : nxOk l = false ∧ nxBad l = false := by
  unfold nxOk nxBad
  rw [decide_eq_false (show ¬ 2 ≤ l.length by omega)]; exact ⟨rfl, rfl⟩
theorem nx_over {l : List UInt8} (h2 : 2 ≤ l.length) (h : 200 < nxF l) : nxOk l = false ∧ nxBad l = true := by
  unfold nxOk nxBad
  rw [decide_eq_true h2, decide_eq_true h, decide_eq_false (show ¬ nxF l ≤ 200 by omega)]; exact ⟨rfl, rfl⟩
theorem nx_wait {l : List UInt8} (h2 : 2 ≤ l.length) (h : nxF l ≤ 200) (hw : l.length < 2 + nxF l) : nxOk l = false ∧ nxBad l = false := by
  unfold nxOk nxBad
  rw [decide_eq_true h2, decide_eq_false (show ¬ 200 < nxF l by omega), decide_eq_true h, decide_eq_false (show ¬ 2 + nxF l ≤ l.length by omega)]; exact ⟨rfl, rfl⟩
theorem nx_whole {l : List UInt8} (h2 : 2 ≤ l.length) (h : nxF l ≤ 200) (hw : 2 + nxF l ≤ l.length) : nxOk l = decOk (l.take (2 + nxF l)) ∧ nxBad l = !decOk (l.take (2 + nxF l)) := by
  unfold nxOk nxBad
  rw [decide_eq_true h2, decide_eq_false (show ¬ 200 < nxF l by omega), decide_eq_true h, decide_eq_true hw]; exact ⟨rfl, rfl⟩
theorem nxF_is {l : List UInt8} (h2 : 2 ≤ l.length) : ∃ x0 x1, l[0]? = some x0 ∧ l[1]? = some x1 ∧ x0.toNat * 256 + x1.toNat = nxF l := by
  obtain ⟨x0, h0⟩ : ∃ x, l[0]? = some x := ⟨_, List.getElem?_eq_getElem (by omega)⟩
  obtain ⟨x1, h1⟩ : ∃ x, l[1]? = some x := ⟨_, List.getElem?_eq_getElem (by omega)⟩
  exact ⟨x0, x1, h0, h1, by rw [nxF, getD_of h0, getD_of h1]⟩
theorem Mx.five {G : Option Nat} {w0 w : World} {R : List (Nat × Res)} (M : Mx G w0 w R) (k5 k6 k7 k8 k9 : Nat) : Mx G w0 w ((k9, bytR mZero.l9 vZero.v9) :: (k8, bytR mZero.l8 vZero.v8) :: (k7, bytR mZero.l7 vZero.v7) :: (k6, bytR mZero.l6 vZero.v6) :: (k5, bytR mZero.l5 vZero.v5) :: R) :=
  ((((M.nilB k5).nilB k6).nilB k7).nilB k8).nilB k9
theorem swrite_any {G : Option Nat} {w0 w : World} {R : List (Nat × Res)} (M0 : Mx G w0 w R) (k q kb g : Nat) (l c : List UInt8) (u v : Value) (n : Int) (b : Bool) (hk : look R k = some (blkR g 94 #[u, .int .i64 n, .bool b])) (hq : look R q = some (tlR l u)) (hb : look R kb = some (bytR c v)) (hne : k ≠ q) (hnb : ¬ (kb = k ∨ kb = q))
    (hl : l.length + c.length ≤ 1000000) (hnn : 0 ≤ n ∧ n ≤ 1000000) (ok : Bool) (hok : wrOk n b = ok) :
    Calls Try.prog 28 #[.pointer (some ⟨g, 0, none⟩), v] w fun e w' => ∃ t, e = .returned t ∧ ∃ u', Mx G w0 w' ((k, blkR g 94 #[u', .int .i64 (wrN ok n c), .bool (!ok)]) :: (q, tlR (wrL ok l c) u') :: R) ∧ t = .bool ok := by
  subst hok
  cases b with
  | true => exact swrite_bad M0 k q kb g l c u v n hk hq hb hne hnb hl hnn
  | false =>
    by_cases h : 100000 ≤ n
    · rw [show wrOk n false = false from by unfold wrOk; rw [decide_eq_false (by omega)]; rfl]
      exact swrite_big M0 k q kb g l c u v n hk hq hb hne hnb hl hnn h
    · rw [show wrOk n false = true from by unfold wrOk; rw [decide_eq_true (by omega)]; rfl]
      exact swrite_ok M0 k q kb g l c u v n hk hq hb hne hnb hl hnn h
theorem next_any {G : Option Nat} {w0 w : World} {R : List (Nat × Res)} (M0 : Mx G w0 w R) (k q g : Nat) (l : List UInt8) (u : Value) (n : Int) (b : Bool) (hk : look R k = some (blkR g 94 #[u, .int .i64 n, .bool b])) (hq : look R q = some (tlR l u)) (hne : k ≠ q) (hl : l.length ≤ 1000000) (k5 k6 k7 k8 k9 : Nat) :
    Calls Try.prog 30 #[.pointer (some ⟨g, 0, none⟩)] w fun e w' => ∃ t, e = .returned t ∧ ∃ u' V, Mx G w0 w' ((k9, bytR (nxM l).l9 V.v9) :: (k8, bytR (nxM l).l8 V.v8) :: (k7, bytR (nxM l).l7 V.v7) :: (k6, bytR (nxM l).l6 V.v6) :: (k5, bytR (nxM l).l5 V.v5) :: (k, blkR g 94 #[u', .int .i64 n, .bool (b || nxBad l)]) :: (q, tlR (nxL l) u') :: R) ∧ t = .tuple #[.agg (msgA (nxM l) V), .bool (nxOk l)] := by
  by_cases h2 : l.length < 2
  · obtain ⟨e1, e2⟩ := nx_short h2
    refine (next_short M0 k q g l u n b hk hq hne hl h2).mono fun e w' ⟨t, h1, u', M, ht⟩ => ⟨t, h1, u', vZero, ?_, ?_⟩
    · rw [show nxM l = mZero from by rw [nxM, e1]; rfl, show nxL l = l from by rw [nxL, e1, e2]; rfl, e2, Bool.or_false]; exact M.five k5 k6 k7 k8 k9
    · rw [show nxM l = mZero from by rw [nxM, e1]; rfl, e1]; exact ht
  · have h2 : 2 ≤ l.length := by omega
    obtain ⟨x0, x1, hx0, hx1, hF⟩ := nxF_is h2
    by_cases hf : 200 < nxF l
    · obtain ⟨e1, e2⟩ := nx_over h2 hf
      refine (next_over M0 k q g l u n b hk hq hne hl x0 x1 hx0 hx1 (nxF l) hF h2 hf).mono fun e w' ⟨t, h1, u', M, ht⟩ => ⟨t, h1, u', vZero, ?_, ?_⟩
      · rw [show nxM l = mZero from by rw [nxM, e1]; rfl, show nxL l = [] from by rw [nxL, e1, e2]; rfl, e2, Bool.or_true]; exact M.five k5 k6 k7 k8 k9
      · rw [show nxM l = mZero from by rw [nxM, e1]; rfl, e1]; exact ht
    · have hf : nxF l ≤ 200 := by omega
      by_cases hw : l.length < 2 + nxF l
      · obtain ⟨e1, e2⟩ := nx_wait h2 hf hw
        refine (next_wait M0 k q g l u n b hk hq hne hl x0 x1 hx0 hx1 (nxF l) hF h2 hf hw).mono fun e w' ⟨t, h1, u', M, ht⟩ => ⟨t, h1, u', vZero, ?_, ?_⟩
        · rw [show nxM l = mZero from by rw [nxM, e1]; rfl, show nxL l = l from by rw [nxL, e1, e2]; rfl, e2, Bool.or_false]; exact M.five k5 k6 k7 k8 k9
        · rw [show nxM l = mZero from by rw [nxM, e1]; rfl, e1]; exact ht
      · have hw : 2 + nxF l ≤ l.length := by omega
        obtain ⟨e1, e2⟩ := nx_whole h2 hf hw
        cases hD : decOk (l.take (2 + nxF l)) with
        | true =>
          rw [hD] at e1 e2
          refine (next_ok M0 k q g l u n b hk hq hne hl k5 k6 k7 k8 k9 x0 x1 hx0 hx1 (nxF l) hF h2 hf hw hD).mono fun e w' ⟨t, h1, u', V, M, ht⟩ => ⟨t, h1, u', V, ?_, ?_⟩
          · rw [show nxM l = decR (l.take (2 + nxF l)) from by rw [nxM, e1]; rfl, show nxL l = l.drop (2 + nxF l) from by rw [nxL, e1]; rfl, e2, Bool.not_true, Bool.or_false]; exact M
          · rw [show nxM l = decR (l.take (2 + nxF l)) from by rw [nxM, e1]; rfl, e1]; exact ht
        | false =>
          rw [hD] at e1 e2
          refine (next_no M0 k q g l u n b hk hq hne hl x0 x1 hx0 hx1 (nxF l) hF h2 hf hw hD).mono fun e w' ⟨t, h1, u', M, ht⟩ => ⟨t, h1, u', vZero, ?_, ?_⟩
          · rw [show nxM l = mZero from by rw [nxM, e1]; rfl, show nxL l = [] from by rw [nxL, e1, e2]; rfl, e2, Bool.not_false, Bool.or_true]; exact M.five k5 k6 k7 k8 k9
          · rw [show nxM l = mZero from by rw [nxM, e1]; rfl, e1]; exact ht
end Go.Proofs.Ytlbkogdmojlpmaa
namespace Go.Proofs.Ytlbkogdmojlpmaa
open Go.ChangeShapes Go.WideShapes Go.ChangeAt Go.RowKit
theorem z7 (a n : Int) (hn : 0 < n) (hn' : n < 9223372036854775808) (ha : -9223372036854775808 ≤ a) (ha' : a < 9223372036854775808) (w : World) :
    Calls Try.prog 22 #[.int .i64 a, .int .i64 n] w fun e w' => e = .returned (.int .i64 (a % n)) ∧ w = w' := by
  obtain ⟨h1, h2, h3, h4⟩ := tmod_case a n hn
  have hz : (n == 0) = false := by simp; omega
  by_cases h : a.tmod n < 0
  · have H := hid (h2 h)
    clear h1 h2
    go_enter Try.func22, Try.ntmps22
    go_wp2
    go_ret
    exact ⟨congrArg (fun x => Ending.returned (.int .i64 x)) H.out, rfl⟩
  · have H := hid (h1 (by omega))
    clear h1 h2
    go_enter Try.func22, Try.ntmps22
    go_wp2
    go_ret
    exact ⟨congrArg (fun x => Ending.returned (.int .i64 x)) H.out, rfl⟩
end Go.Proofs.Ytlbkogdmojlpmaa
namespace Go.Proofs.Ytlbkogdmojlpmaa
open Go.ChangeShapes Go.WideShapes Go.ChangeAt Go.RowKit
noncomputable def keepR (r : RecN) : Bool := !decide (r.p < 1) && !decide (2 < r.p) && nameB r.s && !decide (16 < (r.l2.length : Int)) && !decide (48 < (r.l5.length : Int)) && decide (topI r.a 8 ≤ 32) && decide (topI r.b 8 ≤ 32) && !decide (r.t < 0) && !decide (255 < r.t) && !decide (r.c < 0) && !decide (r.z < 0)
theorem zba (r : RecN) : keepR r = zx r := by
  have hp : protoB r.p = (!decide (r.p < 1) && !decide (2 < r.p)) := by
    unfold protoB
    rw [← decide_not, ← decide_not, ← Bool.decide_and]
    apply decide_eq_decide.2; omega
  have hn : ∀ a b : Int, (!decide (a < b)) = decide (b ≤ a) := fun a b => by
    rw [← decide_not]; apply decide_eq_decide.2; omega
  unfold keepR zx
  rw [hp]
  simp only [hn, Bool.and_assoc]
theorem recL_ref (r : RecN) : recL r = (((((((((([zc r.p, zc (r.s.size : Int)] ++ sBy r.s) ++ [zc (r.l2.length : Int)]) ++ r.l2) ++ [zc (r.l5.length : Int)]) ++ r.l5) ++ z6 r.a) ++ z6 r.b) ++ [zc r.t]) ++ zka r.c) ++ zka r.z) := by
  unfold recL cntL
  rw [← sBy_len]
  simp
theorem rrecord_any (r : RecN) (V : RecV) (ho : RecOk r) (w : World) (hm : RecIs w r V) :
  Calls Try.prog 36 #[.agg (recA r V)] w fun e w' => ∃ v, e = .returned (.tuple #[v, .bool (zx r)]) ∧ Byt w' w.heap.size v (recE r) ∧ Below w.heap.size w w' := by
 obtain ⟨bN, hN⟩ : ∃ b, nameB r.s = b := ⟨_, rfl⟩
 obtain ⟨bA, hA⟩ : ∃ b, decide (topI r.a 8 ≤ 32) = b := ⟨_, rfl⟩
 obtain ⟨bB, hB⟩ : ∃ b, decide (topI r.b 8 ≤ 32) = b := ⟨_, rfl⟩
 have h4a := fourL_len r.a
 have h4b := fourL_len r.b
 have h8c := zya r.c
 have h8z := zya r.z
 have hss := sBy_len r.s
 have hos := ho.s
 refine zf (args := [.agg (recA r V)]) 118 Try.func36 rfl rfl rfl ?_
 intro fa F
 have M := Mx.start w
 replace M := M.argB 0 hm.h2 (fun g e => by cases e)
 replace M := M.argB 1 hm.h5 (fun g e => by cases e)
 refine zT fun _ hK1 => ?_
 refine zn (za rfl) rfl F rfl M 2 (t := 54) (c := recA r V) (by unfold execOp; simp only [(F.get (t := 0) rfl)]; kernel_rfl) ?_
 intro g2 a2 w2 F2 M2
 clear F M
 refine rm rfl F2 fun _ F3 => ?_
 refine rm rfl F3 fun _ F4 => ?_
 refine hK1 _ _ (zS fun _ hK5 => ?_)
 refine zT fun _ hK6 => ?_
 refine exS 2 [(1, .pointer (some ⟨g2, 0, none⟩)), (2, zN), (3, .bool false), (6, .int .i64 r.p)] [0] (zm (M2.blk (k := 2) rfl) dnil) [g2] F4 (by kernel_rfl) fun _ F7 => ?_
 by_cases h8 : r.p < 1
 ·refine rn rfl rfl F7 rfl (.bool true) (z1a _ _ _ _ rfl (F7.get rfl) rfl (decide_eq_true h8)) fun _ F9 => ?_
  refine exS 55 [(1, .pointer (some ⟨g2, 0, none⟩)), (2, zN), (3, .bool false), (62, .bool true)] [] dnil [] F9 (by kernel_rfl) fun _ F10 => ?_
  refine hK6 _ _ (wp_cond_true (F10.get rfl) ?_)
  refine zT fun _ hK11 => ?_
  refine rm rfl F10 fun _ F12 => ?_
  refine rm rfl F12 fun _ F13 => ?_
  refine hK11 _ _ (wp_ret ?_)
  try simp only [Exit.then, Exit.inBlock, Exit.jump]
  exact bodyPost_ret (res2 rfl (F13.get (t := 2) rfl) (F13.get (t := 3) rfl)) F13.defers ⟨zN, (by rw [(show zx r = false from by rw [← zba]; unfold keepR; simp [hN, hA, hB, h8])]), (by rw [show recE r = [] from if_neg (by rw [(show zx r = false from by rw [← zba]; unfold keepR; simp [hN, hA, hB, h8])]; exact Bool.false_ne_true)]; exact Byt.nil _ _), M2.below⟩
 refine rn rfl rfl F7 rfl (.bool false) (z1a _ _ _ _ rfl (F7.get rfl) rfl (decide_eq_false h8)) fun _ F14 => ?_
 refine exS 3 [(1, .pointer (some ⟨g2, 0, none⟩)), (2, zN), (3, .bool false), (8, .bool false), (10, .int .i64 r.p)] [0] (zm (M2.blk (k := 2) rfl) dnil) [g2] F14 (by kernel_rfl) fun _ F15 => ?_
 by_cases h16 : 2 < r.p
 ·refine zd (w' := w2) (zb rfl rfl rfl (F15.get rfl)) rfl F15 rfl (.bool true) (zqa _ _ _ _ rfl (F15.get rfl) rfl (decide_eq_true h16)) fun _ F17 => ?_
  refine exS 51 [(1, .pointer (some ⟨g2, 0, none⟩)), (2, zN), (3, .bool false), (62, .bool true)] [] dnil [] F17 (by kernel_rfl) fun _ F18 => ?_
  refine hK6 _ _ (wp_cond_true (F18.get rfl) ?_)
  refine zT fun _ hK19 => ?_
  refine rm rfl F18 fun _ F20 => ?_
  refine rm rfl F20 fun _ F21 => ?_
  refine hK19 _ _ (wp_ret ?_)
  try simp only [Exit.then, Exit.inBlock, Exit.jump]
  exact bodyPost_ret (res2 rfl (F21.get (t := 2) rfl) (F21.get (t := 3) rfl)) F21.defers ⟨zN, (by rw [(show zx r = false from by rw [← zba]; unfold keepR; simp [hN, hA, hB, h8, h16])]), (by rw [show recE r = [] from if_neg (by rw [(show zx r = false from by rw [← zba]; unfold keepR; simp [hN, hA, hB, h8, h16])]; exact Bool.false_ne_true)]; exact Byt.nil _ _), M2.below⟩
 refine zd (w' := w2) (zb rfl rfl rfl (F15.get rfl)) rfl F15 rfl (.bool false) (zqa _ _ _ _ rfl (F15.get rfl) rfl (decide_eq_false h16)) fun _ F22 => ?_
 refine exS 4 [(1, .pointer (some ⟨g2, 0, none⟩)), (2, zN), (3, .bool false), (13, .bool false), (15, .string r.s)] [0] (zm (M2.blk (k := 2) rfl) dnil) [g2] F22 (by kernel_rfl) fun _ F23 => ?_
 refine ze (zb rfl rfl rfl (F23.get rfl)) rfl F23 rfl rfl (enters_of Try.func59 (by kernel_rfl) rfl) #[.string r.s] (zp (F23.get rfl)) (zk ((hN ▸ rnameB_any r.s ho.s w2))) ?_
 rintro _ w24 a24 ⟨rfl, b24⟩ F24
 have M24 := M2.step b24
 cases bN
 ·refine exS 46 [(1, .pointer (some ⟨g2, 0, none⟩)), (2, zN), (3, .bool false), (62, .bool true)] [] dnil [] F24 (by kernel_rfl) fun _ F25 => ?_
  refine hK6 _ _ (wp_cond_true (F25.get rfl) ?_)
  refine zT fun _ hK26 => ?_
  refine rm rfl F25 fun _ F27 => ?_
  refine rm rfl F27 fun _ F28 => ?_
  refine hK26 _ _ (wp_ret ?_)
  try simp only [Exit.then, Exit.inBlock, Exit.jump]
  exact bodyPost_ret (res2 rfl (F28.get (t := 2) rfl) (F28.get (t := 3) rfl)) F28.defers ⟨zN, (by rw [(show zx r = false from by rw [← zba]; unfold keepR; simp [hN, hA, hB, h8, h16])]), (by rw [show recE r = [] from if_neg (by rw [(show zx r = false from by rw [← zba]; unfold keepR; simp [hN, hA, hB, h8, h16])]; exact Bool.false_ne_true)]; exact Byt.nil _ _), M24.below⟩
 refine exS 5 [(1, .pointer (some ⟨g2, 0, none⟩)), (2, zN), (3, .bool false), (19, .bool false), (21, V.v2)] [0] (zm (M24.blk (k := 2) rfl) dnil) [g2] F24 (by kernel_rfl) fun _ F29 => ?_
 refine zd (w' := w24) (zb rfl rfl rfl (F29.get rfl)) rfl F29 rfl (.int .i64 (r.l2.length : Int)) (z0 _ rfl (F29.get rfl) (M24.isb (k := 0) rfl) rfl) fun _ F30 => ?_
 by_cases h31 : 16 < (r.l2.length : Int)
 ·refine zd (w' := w24) (zb rfl rfl rfl (F30.get rfl)) rfl F30 rfl (.bool true) (zqa _ _ _ _ rfl (F30.get rfl) rfl (decide_eq_true h31)) fun _ F32 => ?_
  refine exS 39 [(1, .pointer (some ⟨g2, 0, none⟩)), (2, zN), (3, .bool false), (62, .bool true)] [] dnil [] F32 (by kernel_rfl) fun _ F33 => ?_
  refine hK6 _ _ (wp_cond_true (F33.get rfl) ?_)
  refine zT fun _ hK34 => ?_
  refine rm rfl F33 fun _ F35 => ?_
  refine rm rfl F35 fun _ F36 => ?_
  refine hK34 _ _ (wp_ret ?_)
  try simp only [Exit.then, Exit.inBlock, Exit.jump]
  exact bodyPost_ret (res2 rfl (F36.get (t := 2) rfl) (F36.get (t := 3) rfl)) F36.defers ⟨zN, (by rw [(show zx r = false from by rw [← zba]; unfold keepR; simp [hN, hA, hB, h8, h16, h31])]), (by rw [show recE r = [] from if_neg (by rw [(show zx r = false from by rw [← zba]; unfold keepR; simp [hN, hA, hB, h8, h16, h31])]; exact Bool.false_ne_true)]; exact Byt.nil _ _), M24.below⟩
 refine zd (w' := w24) (zb rfl rfl rfl (F30.get rfl)) rfl F30 rfl (.bool false) (zqa _ _ _ _ rfl (F30.get rfl) rfl (decide_eq_false h31)) fun _ F37 => ?_
 refine exS 4 [(1, .pointer (some ⟨g2, 0, none⟩)), (2, zN), (3, .bool false), (25, .bool false), (27, V.v5)] [0] (zm (M24.blk (k := 2) rfl) dnil) [g2] F37 (by kernel_rfl) fun _ F38 => ?_
 refine zd (w' := w24) (zb rfl rfl rfl (F38.get rfl)) rfl F38 rfl (.int .i64 (r.l5.length : Int)) (z0 _ rfl (F38.get rfl) (M24.isb (k := 1) rfl) rfl) fun _ F39 => ?_
 by_cases h40 : 48 < (r.l5.length : Int)
 ·refine zd (w' := w24) (zb rfl rfl rfl (F39.get rfl)) rfl F39 rfl (.bool true) (zqa _ _ _ _ rfl (F39.get rfl) rfl (decide_eq_true h40)) fun _ F41 => ?_
  refine exS 33 [(1, .pointer (some ⟨g2, 0, none⟩)), (2, zN), (3, .bool false), (62, .bool true)] [] dnil [] F41 (by kernel_rfl) fun _ F42 => ?_
  refine hK6 _ _ (wp_cond_true (F42.get rfl) ?_)
  refine zT fun _ hK43 => ?_
  refine rm rfl F42 fun _ F44 => ?_
  refine rm rfl F44 fun _ F45 => ?_
  refine hK43 _ _ (wp_ret ?_)
  try simp only [Exit.then, Exit.inBlock, Exit.jump]
  exact bodyPost_ret (res2 rfl (F45.get (t := 2) rfl) (F45.get (t := 3) rfl)) F45.defers ⟨zN, (by rw [(show zx r = false from by rw [← zba]; unfold keepR; simp [hN, hA, hB, h8, h16, h31, h40])]), (by rw [show recE r = [] from if_neg (by rw [(show zx r = false from by rw [← zba]; unfold keepR; simp [hN, hA, hB, h8, h16, h31, h40])]; exact Bool.false_ne_true)]; exact Byt.nil _ _), M24.below⟩
 refine zd (w' := w24) (zb rfl rfl rfl (F39.get rfl)) rfl F39 rfl (.bool false) (zqa _ _ _ _ rfl (F39.get rfl) rfl (decide_eq_false h40)) fun _ F46 => ?_
 refine exS 4 [(1, .pointer (some ⟨g2, 0, none⟩)), (2, zN), (3, .bool false), (31, .bool false), (33, numV r.a)] [0] (zm (M24.blk (k := 2) rfl) dnil) [g2] F46 (by kernel_rfl) fun _ F47 => ?_
 refine ze (zb rfl rfl rfl (F47.get rfl)) rfl F47 rfl rfl (enters_of Try.func60 (by kernel_rfl) rfl) #[numV r.a] (zp (F47.get rfl)) (zk ((hA ▸ rsmallB_any r.a ho.a w24))) ?_
 rintro _ w48 a48 ⟨rfl, b48⟩ F48
 have M48 := M24.step b48
 cases bA
 ·refine exS 28 [(1, .pointer (some ⟨g2, 0, none⟩)), (2, zN), (3, .bool false), (62, .bool true)] [] dnil [] F48 (by kernel_rfl) fun _ F49 => ?_
  refine hK6 _ _ (wp_cond_true (F49.get rfl) ?_)
  refine zT fun _ hK50 => ?_
  refine rm rfl F49 fun _ F51 => ?_
  refine rm rfl F51 fun _ F52 => ?_
  refine hK50 _ _ (wp_ret ?_)
  try simp only [Exit.then, Exit.inBlock, Exit.jump]
  exact bodyPost_ret (res2 rfl (F52.get (t := 2) rfl) (F52.get (t := 3) rfl)) F52.defers ⟨zN, (by rw [(show zx r = false from by rw [← zba]; unfold keepR; simp [hN, hA, hB, h8, h16, h31, h40])]), (by rw [show recE r = [] from if_neg (by rw [(show zx r = false from by rw [← zba]; unfold keepR; simp [hN, hA, hB, h8, h16, h31, h40])]; exact Bool.false_ne_true)]; exact Byt.nil _ _), M48.below⟩
 refine exS 5 [(1, .pointer (some ⟨g2, 0, none⟩)), (2, zN), (3, .bool false), (37, .bool false), (39, numV r.b)] [0] (zm (M48.blk (k := 2) rfl) dnil) [g2] F48 (by kernel_rfl) fun _ F53 => ?_
 refine ze (zb rfl rfl rfl (F53.get rfl)) rfl F53 rfl rfl (enters_of Try.func60 (by kernel_rfl) rfl) #[numV r.b] (zp (F53.get rfl)) (zk ((hB ▸ rsmallB_any r.b ho.b w48))) ?_
 rintro _ w54 a54 ⟨rfl, b54⟩ F54
 have M54 := M48.step b54
 cases bB
 ·refine exS 22 [(1, .pointer (some ⟨g2, 0, none⟩)), (2, zN), (3, .bool false), (62, .bool true)] [] dnil [] F54 (by kernel_rfl) fun _ F55 => ?_
  refine hK6 _ _ (wp_cond_true (F55.get rfl) ?_)
  refine zT fun _ hK56 => ?_
  refine rm rfl F55 fun _ F57 => ?_
  refine rm rfl F57 fun _ F58 => ?_
  refine hK56 _ _ (wp_ret ?_)
  try simp only [Exit.then, Exit.inBlock, Exit.jump]
  exact bodyPost_ret (res2 rfl (F58.get (t := 2) rfl) (F58.get (t := 3) rfl)) F58.defers ⟨zN, (by rw [(show zx r = false from by rw [← zba]; unfold keepR; simp [hN, hA, hB, h8, h16, h31, h40])]), (by rw [show recE r = [] from if_neg (by rw [(show zx r = false from by rw [← zba]; unfold keepR; simp [hN, hA, hB, h8, h16, h31, h40])]; exact Bool.false_ne_true)]; exact Byt.nil _ _), M54.below⟩
 refine exS 5 [(1, .pointer (some ⟨g2, 0, none⟩)), (2, zN), (3, .bool false), (43, .bool false), (45, .int .i64 r.t)] [0] (zm (M54.blk (k := 2) rfl) dnil) [g2] F54 (by kernel_rfl) fun _ F59 => ?_
 by_cases h60 : r.t < 0
 ·refine zd (w' := w54) (zb rfl rfl rfl (F59.get rfl)) rfl F59 rfl (.bool true) (z1a _ _ _ _ rfl (F59.get rfl) rfl (decide_eq_true h60)) fun _ F61 => ?_
  refine exS 16 [(1, .pointer (some ⟨g2, 0, none⟩)), (2, zN), (3, .bool false), (62, .bool true)] [] dnil [] F61 (by kernel_rfl) fun _ F62 => ?_
  refine hK6 _ _ (wp_cond_true (F62.get rfl) ?_)
  refine zT fun _ hK63 => ?_
  refine rm rfl F62 fun _ F64 => ?_
  refine rm rfl F64 fun _ F65 => ?_
  refine hK63 _ _ (wp_ret ?_)
  try simp only [Exit.then, Exit.inBlock, Exit.jump]
  exact bodyPost_ret (res2 rfl (F65.get (t := 2) rfl) (F65.get (t := 3) rfl)) F65.defers ⟨zN, (by rw [(show zx r = false from by rw [← zba]; unfold keepR; simp [hN, hA, hB, h8, h16, h31, h40, h60])]), (by rw [show recE r = [] from if_neg (by rw [(show zx r = false from by rw [← zba]; unfold keepR; simp [hN, hA, hB, h8, h16, h31, h40, h60])]; exact Bool.false_ne_true)]; exact Byt.nil _ _), M54.below⟩
 refine zd (w' := w54) (zb rfl rfl rfl (F59.get rfl)) rfl F59 rfl (.bool false) (z1a _ _ _ _ rfl (F59.get rfl) rfl (decide_eq_false h60)) fun _ F66 => ?_
 refine exS 4 [(1, .pointer (some ⟨g2, 0, none⟩)), (2, zN), (3, .bool false), (48, .bool false), (50, .int .i64 r.t)] [0] (zm (M54.blk (k := 2) rfl) dnil) [g2] F66 (by kernel_rfl) fun _ F67 => ?_
 by_cases h68 : 255 < r.t
 ·refine zd (w' := w54) (zb rfl rfl rfl (F67.get rfl)) rfl F67 rfl (.bool true) (zqa _ _ _ _ rfl (F67.get rfl) rfl (decide_eq_true h68)) fun _ F69 => ?_
  refine exS 11 [(1, .pointer (some ⟨g2, 0, none⟩)), (2, zN), (3, .bool false), (62, .bool true)] [] dnil [] F69 (by kernel_rfl) fun _ F70 => ?_
  refine hK6 _ _ (wp_cond_true (F70.get rfl) ?_)
  refine zT fun _ hK71 => ?_
  refine rm rfl F70 fun _ F72 => ?_
  refine rm rfl F72 fun _ F73 => ?_
  refine hK71 _ _ (wp_ret ?_)
  try simp only [Exit.then, Exit.inBlock, Exit.jump]
  exact bodyPost_ret (res2 rfl (F73.get (t := 2) rfl) (F73.get (t := 3) rfl)) F73.defers ⟨zN, (by rw [(show zx r = false from by rw [← zba]; unfold keepR; simp [hN, hA, hB, h8, h16, h31, h40, h60, h68])]), (by rw [show recE r = [] from if_neg (by rw [(show zx r = false from by rw [← zba]; unfold keepR; simp [hN, hA, hB, h8, h16, h31, h40, h60, h68])]; exact Bool.false_ne_true)]; exact Byt.nil _ _), M54.below⟩
 refine zd (w' := w54) (zb rfl rfl rfl (F67.get rfl)) rfl F67 rfl (.bool false) (zqa _ _ _ _ rfl (F67.get rfl) rfl (decide_eq_false h68)) fun _ F74 => ?_
 refine exS 4 [(1, .pointer (some ⟨g2, 0, none⟩)), (2, zN), (3, .bool false), (53, .bool false), (55, .int .i64 r.c)] [0] (zm (M54.blk (k := 2) rfl) dnil) [g2] F74 (by kernel_rfl) fun _ F75 => ?_
 by_cases h76 : r.c < 0
 ·refine zd (w' := w54) (zb rfl rfl rfl (F75.get rfl)) rfl F75 rfl (.bool true) (z1a _ _ _ _ rfl (F75.get rfl) rfl (decide_eq_true h76)) fun _ F77 => ?_
  refine exS 6 [(1, .pointer (some ⟨g2, 0, none⟩)), (2, zN), (3, .bool false), (62, .bool true)] [] dnil [] F77 (by kernel_rfl) fun _ F78 => ?_
  refine hK6 _ _ (wp_cond_true (F78.get rfl) ?_)
  refine zT fun _ hK79 => ?_
  refine rm rfl F78 fun _ F80 => ?_
  refine rm rfl F80 fun _ F81 => ?_
  refine hK79 _ _ (wp_ret ?_)
  try simp only [Exit.then, Exit.inBlock, Exit.jump]
  exact bodyPost_ret (res2 rfl (F81.get (t := 2) rfl) (F81.get (t := 3) rfl)) F81.defers ⟨zN, (by rw [(show zx r = false from by rw [← zba]; unfold keepR; simp [hN, hA, hB, h8, h16, h31, h40, h60, h68, h76])]), (by rw [show recE r = [] from if_neg (by rw [(show zx r = false from by rw [← zba]; unfold keepR; simp [hN, hA, hB, h8, h16, h31, h40, h60, h68, h76])]; exact Bool.false_ne_true)]; exact Byt.nil _ _), M54.below⟩
 refine zd (w' := w54) (zb rfl rfl rfl (F75.get rfl)) rfl F75 rfl (.bool false) (z1a _ _ _ _ rfl (F75.get rfl) rfl (decide_eq_false h76)) fun _ F82 => ?_
 refine exS 4 [(1, .pointer (some ⟨g2, 0, none⟩)), (2, zN), (3, .bool false), (58, .bool false), (60, .int .i64 r.z)] [0] (zm (M54.blk (k := 2) rfl) dnil) [g2] F82 (by kernel_rfl) fun _ F83 => ?_
 by_cases h84 : r.z < 0
 ·refine zd (w' := w54) (zb rfl rfl rfl (F83.get rfl)) rfl F83 rfl (.bool true) (z1a _ _ _ _ rfl (F83.get rfl) rfl (decide_eq_true h84)) fun _ F85 => ?_
  refine rn rfl rfl F85 rfl (.bool true) (z9a rfl (F85.get rfl) (F85.get rfl)) fun _ F86 => ?_
  refine hK6 _ _ (wp_cond_true (F86.get rfl) ?_)
  refine zT fun _ hK87 => ?_
  refine rm rfl F86 fun _ F88 => ?_
  refine rm rfl F88 fun _ F89 => ?_
  refine hK87 _ _ (wp_ret ?_)
  try simp only [Exit.then, Exit.inBlock, Exit.jump]
  exact bodyPost_ret (res2 rfl (F89.get (t := 2) rfl) (F89.get (t := 3) rfl)) F89.defers ⟨zN, (by rw [(show zx r = false from by rw [← zba]; unfold keepR; simp [hN, hA, hB, h8, h16, h31, h40, h60, h68, h76, h84])]), (by rw [show recE r = [] from if_neg (by rw [(show zx r = false from by rw [← zba]; unfold keepR; simp [hN, hA, hB, h8, h16, h31, h40, h60, h68, h76, h84])]; exact Bool.false_ne_true)]; exact Byt.nil _ _), M54.below⟩
 refine zd (w' := w54) (zb rfl rfl rfl (F83.get rfl)) rfl F83 rfl (.bool false) (z1a _ _ _ _ rfl (F83.get rfl) rfl (decide_eq_false h84)) fun _ F90 => ?_
 refine rn rfl rfl F90 rfl (.bool false) (z9a rfl (F90.get rfl) (F90.get rfl)) fun _ F91 => ?_
 refine hK6 _ _ (wp_cond_false (F91.get rfl) ?_)
 refine wp_skip ?_
 refine hK5 _ _ (zS fun _ hK92 => ?_)
 refine zR ?_
 refine exS 2 [(1, .pointer (some ⟨g2, 0, none⟩)), (2, zN), (3, .bool false), (64, .int .i64 r.p)] [0] (zm (M54.blk (k := 2) rfl) dnil) [g2] F91 (by kernel_rfl) fun _ F93 => ?_
 refine rn rfl rfl F93 rfl (.int .u8 (((zc r.p).toNat : Nat) : Int)) (y_cvI _ _ _ rfl (F93.get rfl) Try.underlying3 Try.underlying5 (zia _)) fun _ F94 => ?_
 refine exA 2 [(66, .pointer (some ⟨g2, 1, none⟩)), (67, .string r.s)] [0] (zm (M54.blk (k := 2) rfl) dnil) [g2] F94 (by kernel_rfl) (by kernel_rfl) fun _ F95 => ?_
 refine rn rfl rfl F95 rfl (.int .i64 (r.s.size : Int)) (y_lenS _ rfl (F95.get rfl) rfl) fun _ F96 => ?_
 refine rn rfl rfl F96 rfl (.int .u8 (((zc (r.s.size : Int)).toNat : Nat) : Int)) (y_cvI _ _ _ rfl (F96.get rfl) Try.underlying3 Try.underlying5 (zia _)) fun _ F97 => ?_
 refine z5 (za rfl) rfl F97 rfl (zeb M54 3 [(zc r.p), (zc (r.s.size : Int))] 2 rfl (by decide) (by decide) rfl (by simp only [List.map_toArray, List.map_cons, List.map_nil, (F97.get (t := 65) rfl), (F97.get (t := 69) rfl)]; kernel_rfl)) ?_
 intro v98 a98 w98 F98 M98
 clear F97 M54
 obtain ⟨A98, c98, rfl⟩ := (M98.isO (k := 3) rfl).shape
 refine exA 2 [(71, .pointer (some ⟨g2, 1, none⟩)), (72, .string r.s)] [0] (zm (M98.blk (k := 2) rfl) dnil) [g2] F98 (by kernel_rfl) (by kernel_rfl) fun _ F99 => ?_
 refine z5 (za rfl) rfl F99 rfl (run_cvS M98 4 _ rfl (F99.get rfl) (Nat.le_trans ho.s (by omega))) ?_
 intro v100 a100 w100 F100 M100
 clear F99 M98
 have fr100 := M100.frN (k := 4) rfl
 replace M100 := M100.unN (k := 4) rfl
 obtain ⟨A100, c100, rfl⟩ := (M100.isb (k := 4) rfl).shape
 refine z5 (za rfl) rfl F100 rfl (zna M100 (k := 3) rfl _ _ rfl (F100.get rfl) (F100.get rfl) (M100.isb (k := 4) rfl) (by simp only [List.length_append, List.length_cons, List.length_nil]; omega)) ?_
 intro v101 a101 w101 F101 M101
 clear F100 M100
 obtain ⟨A101, c101, rfl⟩ := (M101.isO (k := 3) rfl).shape
 refine rm rfl F101 fun _ F102 => ?_
 refine hK92 _ _ (zS fun _ hK103 => ?_)
 refine zhb F102 [fun vE => vE = .slice A101 (([(zc r.p), (zc (r.s.size : Int))] ++ (sBy r.s))).length c101, fun vE => vE = .pointer (some ⟨g2, 2, none⟩), fun vE => vE = V.v2, fun vE => vE = .int .i64 (r.l2.length : Int), fun vE => vE = .int .u8 (((zc (r.l2.length : Int)).toNat : Nat) : Int), fun _ => True, fun _ => True, fun vE => vE = .pointer (some ⟨g2, 2, none⟩), fun vE => vE = V.v2] (JM none w fun SV pV => [(0, bytR r.l2 V.v2), (1, bytR r.l5 V.v5), (2, blkR g2 54 (recA r V)), (3, z7a (SV 6) (ownR (([(zc r.p), (zc (r.s.size : Int))] ++ (sBy r.s)) ++ [(zc (r.l2.length : Int))]) (pV 6)) (ownR ([(zc r.p), (zc (r.s.size : Int))] ++ (sBy r.s)) (.slice A101 (([(zc r.p), (zc (r.s.size : Int))] ++ (sBy r.s))).length c101))), (4, bytR (sBy r.s) (.slice A100 ((sBy r.s)).length c100)), (5, condR (SV 5) (ownR [(zc (r.l2.length : Int))] (pV 5)))]) 9 rfl (by kernel_rfl) rfl ⟨trivial, trivial, trivial, trivial, trivial, trivial, trivial, trivial, trivial, trivial⟩ (fun p => ((M101.step (zra _)).triv 5).sub ⟨rfl, rfl, rfl, rfl, rfl, rfl, trivial⟩) ⟨?_, ?_, ?_, ?_, ?_, ?_, ?_, ?_, ?_, trivial⟩ ?_
 ·intro ua uw SV pV M0 hk hn hd
  have M : Mx none w uw _ := M0
  clear M0
  have e4 : ua.eval (.tmp 4) = .slice A101 (([(zc r.p), (zc (r.s.size : Int))] ++ (sBy r.s))).length c101 := (show ua.eval (.tmp 4) = _ from hd 4 (by decide)).trans (F102.get (t := 4) rfl)
  exact zl (za rfl) (.slice A101 (([(zc r.p), (zc (r.s.size : Int))] ++ (sBy r.s))).length c101) (zta _ (.inl rfl) e4) rfl (M.sub ⟨rfl, rfl, rfl, rfl, rfl, rfl, trivial⟩)
 ·intro ua uw SV pV M0 hk hn hd
  have M : Mx none w uw _ := M0
  clear M0
  have e1 : ua.eval (.tmp 1) = .pointer (some ⟨g2, 0, none⟩) := (show ua.eval (.tmp 1) = _ from hd 1 (by decide)).trans (F102.get (t := 1) rfl)
  exact zl (za rfl) (.pointer (some ⟨g2, 2, none⟩)) (y_fa (off := 2) rfl e1 (by kernel_rfl) rfl) rfl (M.sub ⟨rfl, rfl, rfl, rfl, rfl, rfl, trivial⟩)
 ·intro ua uw SV pV M0 hk hn hd
  have M : Mx none w uw _ := M0
  clear M0
  obtain ⟨s1, f76, q76⟩ := (show SV 1 = true ∧ ua.eval (.tmp 76) = pV 1 ∧ stE _ 1 (pV 1) from hd 76 (by decide))
  have e76 : ua.eval (.tmp 76) = .pointer (some ⟨g2, 2, none⟩) := f76.trans q76
  exact zl (za rfl) (V.v2) (y_ld1 _ _ rfl e76 (M.blk (k := 2) rfl) rfl Try.underlying22 rfl) rfl (M.sub ⟨rfl, rfl, rfl, rfl, rfl, rfl, trivial⟩)
 ·intro ua uw SV pV M0 hk hn hd
  have M : Mx none w uw _ := M0
  clear M0
  obtain ⟨s2, f77, q77⟩ := (show SV 2 = true ∧ ua.eval (.tmp 77) = pV 2 ∧ stE _ 2 (pV 2) from hd 77 (by decide))
  have e77 : ua.eval (.tmp 77) = V.v2 := f77.trans q77
  exact zl (za rfl) (.int .i64 (r.l2.length : Int)) (z0 _ rfl e77 (M.isb (k := 0) rfl) rfl) rfl (M.sub ⟨rfl, rfl, rfl, rfl, rfl, rfl, trivial⟩)
 ·intro ua uw SV pV M0 hk hn hd
  have M : Mx none w uw _ := M0
  clear M0
  obtain ⟨s3, f78, q78⟩ := (show SV 3 = true ∧ ua.eval (.tmp 78) = pV 3 ∧ stE _ 3 (pV 3) from hd 78 (by decide))
  have e78 : ua.eval (.tmp 78) = .int .i64 (r.l2.length : Int) := f78.trans q78
  exact zl (za rfl) (.int .u8 (((zc (r.l2.length : Int)).toNat : Nat) : Int)) (y_cvI _ _ _ rfl e78 Try.underlying3 Try.underlying5 (zia _)) rfl (M.sub ⟨rfl, rfl, rfl, rfl, rfl, rfl, trivial⟩)
 ·intro ua uw SV pV M0 hk hn hd
  have M : Mx none w uw _ := M0
  clear M0
  obtain ⟨s4, f79, q79⟩ := (show SV 4 = true ∧ ua.eval (.tmp 79) = pV 4 ∧ stE _ 4 (pV 4) from hd 79 (by decide))
  have e79 : ua.eval (.tmp 79) = .int .u8 (((zc (r.l2.length : Int)).toNat : Nat) : Int) := f79.trans q79
  exact hopM_exM (za rfl) (zeb M 5 [(zc (r.l2.length : Int))] 1 rfl (by decide) (by decide) rfl (by simp only [List.map_toArray, List.map_cons, List.map_nil, e79]; kernel_rfl)) fun v w2 h2 => ⟨trivial, h2.sub ⟨rfl, rfl, rfl, rfl, rfl, rfl, trivial⟩⟩
 ·intro ua uw SV pV M0 hk hn hd
  have M : Mx none w uw _ := M0
  clear M0
  obtain ⟨s0, f75, q75⟩ := (show SV 0 = true ∧ ua.eval (.tmp 75) = pV 0 ∧ stE _ 0 (pV 0) from hd 75 (by decide))
  have e75 : ua.eval (.tmp 75) = .slice A101 (([(zc r.p), (zc (r.s.size : Int))] ++ (sBy r.s))).length c101 := f75.trans q75
  obtain ⟨s5, f80, q80⟩ := (show SV 5 = true ∧ ua.eval (.tmp 80) = pV 5 ∧ stE _ 5 (pV 5) from hd 80 (by decide))
  have e80 : ua.eval (.tmp 80) = (pV 5) := f80
  exact hopM_exM (za rfl) (zna M (k := 3) (eitherR_r hk rfl) _ _ rfl e75 e80 (M.isO (k := 5) (condR_look s5 rfl)) (by simp only [List.length_append, List.length_cons, List.length_nil]; omega)) fun v w2 h2 => ⟨trivial, h2.sub ⟨rfl, rfl, rfl, rfl, rfl, rfl, trivial⟩⟩
 ·intro ua uw SV pV M0 hk hn hd
  have M : Mx none w uw _ := M0
  clear M0
  have e1 : ua.eval (.tmp 1) = .pointer (some ⟨g2, 0, none⟩) := (show ua.eval (.tmp 1) = _ from hd 1 (by decide)).trans (F102.get (t := 1) rfl)
  exact zl (za rfl) (.pointer (some ⟨g2, 2, none⟩)) (y_fa (off := 2) rfl e1 (by kernel_rfl) rfl) rfl (M.sub ⟨rfl, rfl, rfl, rfl, rfl, rfl, trivial⟩)
 ·intro ua uw SV pV M0 hk hn hd
  have M : Mx none w uw _ := M0
  clear M0
  obtain ⟨s7, f82, q82⟩ := (show SV 7 = true ∧ ua.eval (.tmp 82) = pV 7 ∧ stE _ 7 (pV 7) from hd 82 (by decide))
  have e82 : ua.eval (.tmp 82) = .pointer (some ⟨g2, 2, none⟩) := f82.trans q82
  exact zl (za rfl) (V.v2) (y_ld1 _ _ rfl e82 (M.blk (k := 2) rfl) rfl Try.underlying22 rfl) rfl (M.sub ⟨rfl, rfl, rfl, rfl, rfl, rfl, trivial⟩)
 intro p104 a104 w104 M104 G104 y104
 obtain ⟨-, -, -, -, -, -, q6, -, q8, -⟩ := y104
 have r8 : p104 8 = V.v2 := q8
 replace M104 : Mx _ _ w104 [(0, bytR r.l2 V.v2), (1, bytR r.l5 V.v5), (2, blkR g2 54 (recA r V)), (3, z7a true (ownR (([(zc r.p), (zc (r.s.size : Int))] ++ (sBy r.s)) ++ [(zc (r.l2.length : Int))]) (p104 6)) (ownR ([(zc r.p), (zc (r.s.size : Int))] ++ (sBy r.s)) (.slice A101 (([(zc r.p), (zc (r.s.size : Int))] ++ (sBy r.s))).length c101))), (4, bytR (sBy r.s) (.slice A100 ((sBy r.s)).length c100)), (5, condR true (ownR [(zc (r.l2.length : Int))] (p104 5)))] := M104
 simp only [List.take_succ_cons, List.take_zero, layV, Nat.zero_add, Nat.reduceAdd, r8] at G104
 obtain ⟨Ap104_5, cp104_5, hp104_5⟩ := (M104.isO (k := 5) rfl).shape
 rw [hp104_5] at M104
 try rw [hp104_5] at G104
 refine z5 (za rfl) rfl G104 rfl (zna M104 (k := 3) rfl _ _ rfl (G104.get rfl) (G104.get rfl) (M104.isb (k := 0) rfl) (by simp only [List.length_append, List.length_cons, List.length_nil]; omega)) ?_
 intro v105 a105 w105 F105 M105
 clear G104 M104
 obtain ⟨A105, c105, rfl⟩ := (M105.isO (k := 3) rfl).shape
 refine rm rfl F105 fun _ F106 => ?_
 refine hK103 _ _ (zS fun _ hK107 => ?_)
 refine zhb F106 [fun vE => vE = .slice A105 (((([(zc r.p), (zc (r.s.size : Int))] ++ (sBy r.s)) ++ [(zc (r.l2.length : Int))]) ++ r.l2)).length c105, fun vE => vE = .pointer (some ⟨g2, 19, none⟩), fun vE => vE = V.v5, fun vE => vE = .int .i64 (r.l5.length : Int), fun vE => vE = .int .u8 (((zc (r.l5.length : Int)).toNat : Nat) : Int), fun _ => True, fun _ => True, fun vE => vE = .pointer (some ⟨g2, 19, none⟩), fun vE => vE = V.v5] (JM none w fun SV pV => [(0, bytR r.l2 V.v2), (1, bytR r.l5 V.v5), (2, blkR g2 54 (recA r V)), (3, z7a (SV 6) (ownR (((([(zc r.p), (zc (r.s.size : Int))] ++ (sBy r.s)) ++ [(zc (r.l2.length : Int))]) ++ r.l2) ++ [(zc (r.l5.length : Int))]) (pV 6)) (ownR ((([(zc r.p), (zc (r.s.size : Int))] ++ (sBy r.s)) ++ [(zc (r.l2.length : Int))]) ++ r.l2) (.slice A105 (((([(zc r.p), (zc (r.s.size : Int))] ++ (sBy r.s)) ++ [(zc (r.l2.length : Int))]) ++ r.l2)).length c105))), (4, bytR (sBy r.s) (.slice A100 ((sBy r.s)).length c100)), (5, ownR [(zc (r.l2.length : Int))] (.slice Ap104_5 ([(zc (r.l2.length : Int))]).length cp104_5)), (6, condR (SV 5) (ownR [(zc (r.l5.length : Int))] (pV 5)))]) 9 rfl (by kernel_rfl) rfl ⟨trivial, trivial, trivial, trivial, trivial, trivial, trivial, trivial, trivial, trivial⟩ (fun p => ((M105.step (zra _)).triv 6).sub ⟨rfl, rfl, rfl, rfl, rfl, rfl, rfl, trivial⟩) ⟨?_, ?_, ?_, ?_, ?_, ?_, ?_, ?_, ?_, trivial⟩ ?_
 ·intro ua uw SV pV M0 hk hn hd
  have M : Mx none w uw _ := M0
  clear M0
  have e4 : ua.eval (.tmp 4) = .slice A105 (((([(zc r.p), (zc (r.s.size : Int))] ++ (sBy r.s)) ++ [(zc (r.l2.length : Int))]) ++ r.l2)).length c105 := (show ua.eval (.tmp 4) = _ from hd 4 (by decide)).trans (F106.get (t := 4) rfl)
  exact zl (za rfl) (.slice A105 (((([(zc r.p), (zc (r.s.size : Int))] ++ (sBy r.s)) ++ [(zc (r.l2.length : Int))]) ++ r.l2)).length c105) (zta _ (.inl rfl) e4) rfl (M.sub ⟨rfl, rfl, rfl, rfl, rfl, rfl, rfl, trivial⟩)
 ·intro ua uw SV pV M0 hk hn hd
  have M : Mx none w uw _ := M0
  clear M0
  have e1 : ua.eval (.tmp 1) = .pointer (some ⟨g2, 0, none⟩) := (show ua.eval (.tmp 1) = _ from hd 1 (by decide)).trans (F106.get (t := 1) rfl)
  exact zl (za rfl) (.pointer (some ⟨g2, 19, none⟩)) (y_fa (off := 19) rfl e1 (by kernel_rfl) rfl) rfl (M.sub ⟨rfl, rfl, rfl, rfl, rfl, rfl, rfl, trivial⟩)
 ·intro ua uw SV pV M0 hk hn hd
  have M : Mx none w uw _ := M0
  clear M0
  obtain ⟨s1, f86, q86⟩ := (show SV 1 = true ∧ ua.eval (.tmp 86) = pV 1 ∧ stE _ 1 (pV 1) from hd 86 (by decide))
  have e86 : ua.eval (.tmp 86) = .pointer (some ⟨g2, 19, none⟩) := f86.trans q86
  exact zl (za rfl) (V.v5) (y_ld1 _ _ rfl e86 (M.blk (k := 2) rfl) rfl Try.underlying22 rfl) rfl (M.sub ⟨rfl, rfl, rfl, rfl, rfl, rfl, rfl, trivial⟩)
 ·intro ua uw SV pV M0 hk hn hd
  have M : Mx none w uw _ := M0
  clear M0
  obtain ⟨s2, f87, q87⟩ := (show SV 2 = true ∧ ua.eval (.tmp 87) = pV 2 ∧ stE _ 2 (pV 2) from hd 87 (by decide))
  have e87 : ua.eval (.tmp 87) = V.v5 := f87.trans q87
  exact zl (za rfl) (.int .i64 (r.l5.length : Int)) (z0 _ rfl e87 (M.isb (k := 1) rfl) rfl) rfl (M.sub ⟨rfl, rfl, rfl, rfl, rfl, rfl, rfl, trivial⟩)
 ·intro ua uw SV pV M0 hk hn hd
  have M : Mx none w uw _ := M0
  clear M0
  obtain ⟨s3, f88, q88⟩ := (show SV 3 = true ∧ ua.eval (.tmp 88) = pV 3 ∧ stE _ 3 (pV 3) from hd 88 (by decide))
  have e88 : ua.eval (.tmp 88) = .int .i64 (r.l5.length : Int) := f88.trans q88
  exact zl (za rfl) (.int .u8 (((zc (r.l5.length : Int)).toNat : Nat) : Int)) (y_cvI _ _ _ rfl e88 Try.underlying3 Try.underlying5 (zia _)) rfl (M.sub ⟨rfl, rfl, rfl, rfl, rfl, rfl, rfl, trivial⟩)
 ·intro ua uw SV pV M0 hk hn hd
  have M : Mx none w uw _ := M0
  clear M0
  obtain ⟨s4, f89, q89⟩ := (show SV 4 = true ∧ ua.eval (.tmp 89) = pV 4 ∧ stE _ 4 (pV 4) from hd 89 (by decide))
  have e89 : ua.eval (.tmp 89) = .int .u8 (((zc (r.l5.length : Int)).toNat : Nat) : Int) := f89.trans q89
  exact hopM_exM (za rfl) (zeb M 6 [(zc (r.l5.length : Int))] 1 rfl (by decide) (by decide) rfl (by simp only [List.map_toArray, List.map_cons, List.map_nil, e89]; kernel_rfl)) fun v w2 h2 => ⟨trivial, h2.sub ⟨rfl, rfl, rfl, rfl, rfl, rfl, rfl, trivial⟩⟩
 ·intro ua uw SV pV M0 hk hn hd
  have M : Mx none w uw _ := M0
  clear M0
  obtain ⟨s0, f85, q85⟩ := (show SV 0 = true ∧ ua.eval (.tmp 85) = pV 0 ∧ stE _ 0 (pV 0) from hd 85 (by decide))
  have e85 : ua.eval (.tmp 85) = .slice A105 (((([(zc r.p), (zc (r.s.size : Int))] ++ (sBy r.s)) ++ [(zc (r.l2.length : Int))]) ++ r.l2)).length c105 := f85.trans q85
  obtain ⟨s5, f90, q90⟩ := (show SV 5 = true ∧ ua.eval (.tmp 90) = pV 5 ∧ stE _ 5 (pV 5) from hd 90 (by decide))
  have e90 : ua.eval (.tmp 90) = (pV 5) := f90
  exact hopM_exM (za rfl) (zna M (k := 3) (eitherR_r hk rfl) _ _ rfl e85 e90 (M.isO (k := 6) (condR_look s5 rfl)) (by simp only [List.length_append, List.length_cons, List.length_nil]; omega)) fun v w2 h2 => ⟨trivial, h2.sub ⟨rfl, rfl, rfl, rfl, rfl, rfl, rfl, trivial⟩⟩
 ·intro ua uw SV pV M0 hk hn hd
  have M : Mx none w uw _ := M0
  clear M0
  have e1 : ua.eval (.tmp 1) = .pointer (some ⟨g2, 0, none⟩) := (show ua.eval (.tmp 1) = _ from hd 1 (by decide)).trans (F106.get (t := 1) rfl)
  exact zl (za rfl) (.pointer (some ⟨g2, 19, none⟩)) (y_fa (off := 19) rfl e1 (by kernel_rfl) rfl) rfl (M.sub ⟨rfl, rfl, rfl, rfl, rfl, rfl, rfl, trivial⟩)
 ·intro ua uw SV pV M0 hk hn hd
  have M : Mx none w uw _ := M0
  clear M0
  obtain ⟨s7, f92, q92⟩ := (show SV 7 = true ∧ ua.eval (.tmp 92) = pV 7 ∧ stE _ 7 (pV 7) from hd 92 (by decide))
  have e92 : ua.eval (.tmp 92) = .pointer (some ⟨g2, 19, none⟩) := f92.trans q92
  exact zl (za rfl) (V.v5) (y_ld1 _ _ rfl e92 (M.blk (k := 2) rfl) rfl Try.underlying22 rfl) rfl (M.sub ⟨rfl, rfl, rfl, rfl, rfl, rfl, rfl, trivial⟩)
 intro p108 a108 w108 M108 G108 y108
 obtain ⟨-, -, -, -, -, -, q6, -, q8, -⟩ := y108
 have r8 : p108 8 = V.v5 := q8
 replace M108 : Mx _ _ w108 [(0, bytR r.l2 V.v2), (1, bytR r.l5 V.v5), (2, blkR g2 54 (recA r V)), (3, z7a true (ownR (((([(zc r.p), (zc (r.s.size : Int))] ++ (sBy r.s)) ++ [(zc (r.l2.length : Int))]) ++ r.l2) ++ [(zc (r.l5.length : Int))]) (p108 6)) (ownR ((([(zc r.p), (zc (r.s.size : Int))] ++ (sBy r.s)) ++ [(zc (r.l2.length : Int))]) ++ r.l2) (.slice A105 (((([(zc r.p), (zc (r.s.size : Int))] ++ (sBy r.s)) ++ [(zc (r.l2.length : Int))]) ++ r.l2)).length c105))), (4, bytR (sBy r.s) (.slice A100 ((sBy r.s)).length c100)), (5, ownR [(zc (r.l2.length : Int))] (.slice Ap104_5 ([(zc (r.l2.length : Int))]).length cp104_5)), (6, condR true (ownR [(zc (r.l5.length : Int))] (p108 5)))] := M108
 simp only [List.take_succ_cons, List.take_zero, layV, Nat.zero_add, Nat.reduceAdd, r8] at G108
 obtain ⟨Ap108_6, cp108_6, hp108_6⟩ := (M108.isO (k := 6) rfl).shape
 rw [hp108_6] at M108
 try rw [hp108_6] at G108
 refine z5 (za rfl) rfl G108 rfl (zna M108 (k := 3) rfl _ _ rfl (G108.get rfl) (G108.get rfl) (M108.isb (k := 1) rfl) (by simp only [List.length_append, List.length_cons, List.length_nil]; omega)) ?_
 intro v109 a109 w109 F109 M109
 clear G108 M108
 obtain ⟨A109, c109, rfl⟩ := (M109.isO (k := 3) rfl).shape
 refine rm rfl F109 fun _ F110 => ?_
 refine hK107 _ _ (zS fun _ hK111 => ?_)
 refine zhb F110 [fun vE => vE = .slice A109 (((((([(zc r.p), (zc (r.s.size : Int))] ++ (sBy r.s)) ++ [(zc (r.l2.length : Int))]) ++ r.l2) ++ [(zc (r.l5.length : Int))]) ++ r.l5)).length c109, fun vE => vE = .pointer (some ⟨g2, 3, none⟩), fun vE => vE = numV r.a, fun _ => True, fun _ => True, fun vE => vE = .pointer (some ⟨g2, 11, none⟩), fun vE => vE = numV r.b, fun _ => True, fun _ => True, fun vE => vE = .pointer (some ⟨g2, 20, none⟩), fun vE => vE = .int .i64 r.t, fun vE => vE = .int .u8 (((zc r.t).toNat : Nat) : Int), fun _ => True] (JM none w fun SV pV => [(0, bytR r.l2 V.v2), (1, bytR r.l5 V.v5), (2, blkR g2 54 (recA r V)), (3, z7a (SV 8) (ownR ((((((([(zc r.p), (zc (r.s.size : Int))] ++ (sBy r.s)) ++ [(zc (r.l2.length : Int))]) ++ r.l2) ++ [(zc (r.l5.length : Int))]) ++ r.l5) ++ (z6 r.a)) ++ (z6 r.b)) (pV 8)) (z7a (SV 4) (ownR (((((([(zc r.p), (zc (r.s.size : Int))] ++ (sBy r.s)) ++ [(zc (r.l2.length : Int))]) ++ r.l2) ++ [(zc (r.l5.length : Int))]) ++ r.l5) ++ (z6 r.a)) (pV 4)) (ownR ((((([(zc r.p), (zc (r.s.size : Int))] ++ (sBy r.s)) ++ [(zc (r.l2.length : Int))]) ++ r.l2) ++ [(zc (r.l5.length : Int))]) ++ r.l5) (.slice A109 (((((([(zc r.p), (zc (r.s.size : Int))] ++ (sBy r.s)) ++ [(zc (r.l2.length : Int))]) ++ r.l2) ++ [(zc (r.l5.length : Int))]) ++ r.l5)).length c109)))), (4, bytR (sBy r.s) (.slice A100 ((sBy r.s)).length c100)), (5, ownR [(zc (r.l2.length : Int))] (.slice Ap104_5 ([(zc (r.l2.length : Int))]).length cp104_5)), (6, ownR [(zc (r.l5.length : Int))] (.slice Ap108_6 ([(zc (r.l5.length : Int))]).length cp108_6)), (7, condR (SV 3) (bytR (z6 r.a) (pV 3))), (8, condR (SV 7) (bytR (z6 r.b) (pV 7))), (9, condR (SV 12) (ownR [(zc r.t)] (pV 12)))]) 13 rfl (by kernel_rfl) rfl ⟨trivial, trivial, trivial, trivial, trivial, trivial, trivial, trivial, trivial, trivial, trivial, trivial, trivial, trivial⟩ (fun p => ((((M109.step (zra _)).triv 7).triv 8).triv 9).sub ⟨rfl, rfl, rfl, rfl, rfl, rfl, rfl, rfl, rfl, rfl, trivial⟩) ⟨?_, ?_, ?_, ?_, ?_, ?_, ?_, ?_, ?_, ?_, ?_, ?_, ?_, trivial⟩ ?_
 ·intro ua uw SV pV M0 hk hn hd
  have M : Mx none w uw _ := M0
  clear M0
  have e4 : ua.eval (.tmp 4) = .slice A109 (((((([(zc r.p), (zc (r.s.size : Int))] ++ (sBy r.s)) ++ [(zc (r.l2.length : Int))]) ++ r.l2) ++ [(zc (r.l5.length : Int))]) ++ r.l5)).length c109 := (show ua.eval (.tmp 4) = _ from hd 4 (by decide)).trans (F110.get (t := 4) rfl)
  exact zl (za rfl) (.slice A109 (((((([(zc r.p), (zc (r.s.size : Int))] ++ (sBy r.s)) ++ [(zc (r.l2.length : Int))]) ++ r.l2) ++ [(zc (r.l5.length : Int))]) ++ r.l5)).length c109) (zta _ (.inl rfl) e4) rfl (M.sub ⟨rfl, rfl, rfl, rfl, rfl, rfl, rfl, rfl, rfl, rfl, trivial⟩)
 ·intro ua uw SV pV M0 hk hn hd
  have M : Mx none w uw _ := M0
  clear M0
  have e1 : ua.eval (.tmp 1) = .pointer (some ⟨g2, 0, none⟩) := (show ua.eval (.tmp 1) = _ from hd 1 (by decide)).trans (F110.get (t := 1) rfl)
  exact zl (za rfl) (.pointer (some ⟨g2, 3, none⟩)) (y_fa (off := 3) rfl e1 (by kernel_rfl) rfl) rfl (M.sub ⟨rfl, rfl, rfl, rfl, rfl, rfl, rfl, rfl, rfl, rfl, trivial⟩)
 ·intro ua uw SV pV M0 hk hn hd
  have M : Mx none w uw _ := M0
  clear M0
  obtain ⟨s1, f96, q96⟩ := (show SV 1 = true ∧ ua.eval (.tmp 96) = pV 1 ∧ stE _ 1 (pV 1) from hd 96 (by decide))
  have e96 : ua.eval (.tmp 96) = .pointer (some ⟨g2, 3, none⟩) := f96.trans q96
  exact zl (za rfl) (numV r.a) (zwa _ _ rfl e96 (M.blk (k := 2) rfl) (numA r.a) (y_part8 rfl rfl rfl rfl rfl rfl rfl rfl) Try.underlying27 rfl zu) rfl (M.sub ⟨rfl, rfl, rfl, rfl, rfl, rfl, rfl, rfl, rfl, rfl, trivial⟩)
 ·intro ua uw SV pV M0 hk hn hd
  have M : Mx none w uw _ := M0
  clear M0
  obtain ⟨s2, f97, q97⟩ := (show SV 2 = true ∧ ua.eval (.tmp 97) = pV 2 ∧ stE _ 2 (pV 2) from hd 97 (by decide))
  have e97 : ua.eval (.tmp 97) = numV r.a := f97.trans q97
  exact hopM_call (za rfl) rfl #[numV r.a] (zp e97) (enters_of Try.func65 (by kernel_rfl) rfl) ((rfourN_any r.a uw).mono fun e w2 h => (by obtain ⟨u, h1, h2, h3, h4⟩ := h; exact ⟨u, h1, trivial, (M.newB h4 7 h2 h3).sub ⟨rfl, rfl, rfl, rfl, rfl, rfl, rfl, rfl, rfl, rfl, trivial⟩⟩))
 ·intro ua uw SV pV M0 hk hn hd
  have M : Mx none w uw _ := M0
  clear M0
  obtain ⟨s0, f95, q95⟩ := (show SV 0 = true ∧ ua.eval (.tmp 95) = pV 0 ∧ stE _ 0 (pV 0) from hd 95 (by decide))
  have e95 : ua.eval (.tmp 95) = .slice A109 (((((([(zc r.p), (zc (r.s.size : Int))] ++ (sBy r.s)) ++ [(zc (r.l2.length : Int))]) ++ r.l2) ++ [(zc (r.l5.length : Int))]) ++ r.l5)).length c109 := f95.trans q95
  obtain ⟨s3, f98, q98⟩ := (show SV 3 = true ∧ ua.eval (.tmp 98) = pV 3 ∧ stE _ 3 (pV 3) from hd 98 (by decide))
  have e98 : ua.eval (.tmp 98) = (pV 3) := f98
  exact hopM_exM (za rfl) (zna M (k := 3) (eitherR_r hk (eitherR_r (hn 8 (by kernel_rfl)) rfl)) _ _ rfl e95 e98 (M.isb (k := 7) (condR_look s3 rfl)) (by simp only [List.length_append, List.length_cons, List.length_nil]; omega)) fun v w2 h2 => ⟨trivial, h2.sub ⟨rfl, rfl, rfl, (eitherR_at (hn 8 (by kernel_rfl)) rfl), rfl, rfl, rfl, rfl, rfl, rfl, trivial⟩⟩
 ·intro ua uw SV pV M0 hk hn hd
  have M : Mx none w uw _ := M0
  clear M0
  have e1 : ua.eval (.tmp 1) = .pointer (some ⟨g2, 0, none⟩) := (show ua.eval (.tmp 1) = _ from hd 1 (by decide)).trans (F110.get (t := 1) rfl)
  exact zl (za rfl) (.pointer (some ⟨g2, 11, none⟩)) (y_fa (off := 11) rfl e1 (by kernel_rfl) rfl) rfl (M.sub ⟨rfl, rfl, rfl, rfl, rfl, rfl, rfl, rfl, rfl, rfl, trivial⟩)
 ·intro ua uw SV pV M0 hk hn hd
  have M : Mx none w uw _ := M0
  clear M0
  obtain ⟨s5, f100, q100⟩ := (show SV 5 = true ∧ ua.eval (.tmp 100) = pV 5 ∧ stE _ 5 (pV 5) from hd 100 (by decide))
  have e100 : ua.eval (.tmp 100) = .pointer (some ⟨g2, 11, none⟩) := f100.trans q100
  exact zl (za rfl) (numV r.b) (zwa _ _ rfl e100 (M.blk (k := 2) rfl) (numA r.b) (y_part8 rfl rfl rfl rfl rfl rfl rfl rfl) Try.underlying27 rfl zu) rfl (M.sub ⟨rfl, rfl, rfl, rfl, rfl, rfl, rfl, rfl, rfl, rfl, trivial⟩)
 ·intro ua uw SV pV M0 hk hn hd
  have M : Mx none w uw _ := M0
  clear M0
  obtain ⟨s6, f101, q101⟩ := (show SV 6 = true ∧ ua.eval (.tmp 101) = pV 6 ∧ stE _ 6 (pV 6) from hd 101 (by decide))
  have e101 : ua.eval (.tmp 101) = numV r.b := f101.trans q101
  exact hopM_call (za rfl) rfl #[numV r.b] (zp e101) (enters_of Try.func65 (by kernel_rfl) rfl) ((rfourN_any r.b uw).mono fun e w2 h => (by obtain ⟨u, h1, h2, h3, h4⟩ := h; exact ⟨u, h1, trivial, (M.newB h4 8 h2 h3).sub ⟨rfl, rfl, rfl, rfl, rfl, rfl, rfl, rfl, rfl, rfl, trivial⟩⟩))
 ·intro ua uw SV pV M0 hk hn hd
  have M : Mx none w uw _ := M0
  clear M0
  obtain ⟨s4, f99, q99⟩ := (show SV 4 = true ∧ ua.eval (.tmp 99) = pV 4 ∧ stE _ 4 (pV 4) from hd 99 (by decide))
  have e99 : ua.eval (.tmp 99) = (pV 4) := f99
  obtain ⟨s7, f102, q102⟩ := (show SV 7 = true ∧ ua.eval (.tmp 102) = pV 7 ∧ stE _ 7 (pV 7) from hd 102 (by decide))
  have e102 : ua.eval (.tmp 102) = (pV 7) := f102
  exact hopM_exM (za rfl) (zna M (k := 3) (eitherR_l s4 (eitherR_r hk rfl)) _ _ rfl e99 e102 (M.isb (k := 8) (condR_look s7 rfl)) (by simp only [List.length_append, List.length_cons, List.length_nil]; omega)) fun v w2 h2 => ⟨trivial, h2.sub ⟨rfl, rfl, rfl, rfl, rfl, rfl, rfl, rfl, rfl, rfl, trivial⟩⟩
 ·intro ua uw SV pV M0 hk hn hd
  have M : Mx none w uw _ := M0
  clear M0
  have e1 : ua.eval (.tmp 1) = .pointer (some ⟨g2, 0, none⟩) := (show ua.eval (.tmp 1) = _ from hd 1 (by decide)).trans (F110.get (t := 1) rfl)
  exact zl (za rfl) (.pointer (some ⟨g2, 20, none⟩)) (y_fa (off := 20) rfl e1 (by kernel_rfl) rfl) rfl (M.sub ⟨rfl, rfl, rfl, rfl, rfl, rfl, rfl, rfl, rfl, rfl, trivial⟩)
 ·intro ua uw SV pV M0 hk hn hd
  have M : Mx none w uw _ := M0
  clear M0
  obtain ⟨s9, f104, q104⟩ := (show SV 9 = true ∧ ua.eval (.tmp 104) = pV 9 ∧ stE _ 9 (pV 9) from hd 104 (by decide))
  have e104 : ua.eval (.tmp 104) = .pointer (some ⟨g2, 20, none⟩) := f104.trans q104
  exact zl (za rfl) (.int .i64 r.t) (y_ld1 _ _ rfl e104 (M.blk (k := 2) rfl) rfl Try.underlying3 rfl) rfl (M.sub ⟨rfl, rfl, rfl, rfl, rfl, rfl, rfl, rfl, rfl, rfl, trivial⟩)
 ·intro ua uw SV pV M0 hk hn hd
  have M : Mx none w uw _ := M0
  clear M0
  obtain ⟨s10, f105, q105⟩ := (show SV 10 = true ∧ ua.eval (.tmp 105) = pV 10 ∧ stE _ 10 (pV 10) from hd 105 (by decide))
  have e105 : ua.eval (.tmp 105) = .int .i64 r.t := f105.trans q105
  exact zl (za rfl) (.int .u8 (((zc r.t).toNat : Nat) : Int)) (y_cvI _ _ _ rfl e105 Try.underlying3 Try.underlying5 (zia _)) rfl (M.sub ⟨rfl, rfl, rfl, rfl, rfl, rfl, rfl, rfl, rfl, rfl, trivial⟩)
 ·intro ua uw SV pV M0 hk hn hd
  have M : Mx none w uw _ := M0
  clear M0
  obtain ⟨s11, f106, q106⟩ := (show SV 11 = true ∧ ua.eval (.tmp 106) = pV 11 ∧ stE _ 11 (pV 11) from hd 106 (by decide))
  have e106 : ua.eval (.tmp 106) = .int .u8 (((zc r.t).toNat : Nat) : Int) := f106.trans q106
  exact hopM_exM (za rfl) (zeb M 9 [(zc r.t)] 1 rfl (by decide) (by decide) rfl (by simp only [List.map_toArray, List.map_cons, List.map_nil, e106]; kernel_rfl)) fun v w2 h2 => ⟨trivial, h2.sub ⟨rfl, rfl, rfl, rfl, rfl, rfl, rfl, rfl, rfl, rfl, trivial⟩⟩
 intro p112 a112 w112 M112 G112 y112
 obtain ⟨-, -, -, -, -, -, -, -, q8, -, -, -, q12, -⟩ := y112
 replace M112 : Mx _ _ w112 [(0, bytR r.l2 V.v2), (1, bytR r.l5 V.v5), (2, blkR g2 54 (recA r V)), (3, z7a true (ownR ((((((([(zc r.p), (zc (r.s.size : Int))] ++ (sBy r.s)) ++ [(zc (r.l2.length : Int))]) ++ r.l2) ++ [(zc (r.l5.length : Int))]) ++ r.l5) ++ (z6 r.a)) ++ (z6 r.b)) (p112 8)) (z7a true (ownR (((((([(zc r.p), (zc (r.s.size : Int))] ++ (sBy r.s)) ++ [(zc (r.l2.length : Int))]) ++ r.l2) ++ [(zc (r.l5.length : Int))]) ++ r.l5) ++ (z6 r.a)) (p112 4)) (ownR ((((([(zc r.p), (zc (r.s.size : Int))] ++ (sBy r.s)) ++ [(zc (r.l2.length : Int))]) ++ r.l2) ++ [(zc (r.l5.length : Int))]) ++ r.l5) (.slice A109 (((((([(zc r.p), (zc (r.s.size : Int))] ++ (sBy r.s)) ++ [(zc (r.l2.length : Int))]) ++ r.l2) ++ [(zc (r.l5.length : Int))]) ++ r.l5)).length c109)))), (4, bytR (sBy r.s) (.slice A100 ((sBy r.s)).length c100)), (5, ownR [(zc (r.l2.length : Int))] (.slice Ap104_5 ([(zc (r.l2.length : Int))]).length cp104_5)), (6, ownR [(zc (r.l5.length : Int))] (.slice Ap108_6 ([(zc (r.l5.length : Int))]).length cp108_6)), (7, condR true (bytR (z6 r.a) (p112 3))), (8, condR true (bytR (z6 r.b) (p112 7))), (9, condR true (ownR [(zc r.t)] (p112 12)))] := M112
 simp only [List.take_succ_cons, List.take_zero, layV, Nat.zero_add, Nat.reduceAdd] at G112
 obtain ⟨Ap112_7, cp112_7, hp112_7⟩ := (M112.isb (k := 7) rfl).shape
 rw [hp112_7] at M112
 try rw [hp112_7] at G112
 obtain ⟨Ap112_8, cp112_8, hp112_8⟩ := (M112.isb (k := 8) rfl).shape
 rw [hp112_8] at M112
 try rw [hp112_8] at G112
 obtain ⟨Ap112_9, cp112_9, hp112_9⟩ := (M112.isO (k := 9) rfl).shape
 rw [hp112_9] at M112
 try rw [hp112_9] at G112
 refine z5 (za rfl) rfl G112 rfl (zna M112 (k := 3) rfl _ _ rfl (G112.get rfl) (G112.get rfl) (M112.isO (k := 9) rfl) (by simp only [List.length_append, List.length_cons, List.length_nil]; omega)) ?_
 intro v113 a113 w113 F113 M113
 clear G112 M112
 obtain ⟨A113, c113, rfl⟩ := (M113.isO (k := 3) rfl).shape
 refine rm rfl F113 fun _ F114 => ?_
 refine hK111 _ _ (zS fun _ hK115 => ?_)
 refine zhb F114 [fun vE => vE = .slice A113 ((((((((([(zc r.p), (zc (r.s.size : Int))] ++ (sBy r.s)) ++ [(zc (r.l2.length : Int))]) ++ r.l2) ++ [(zc (r.l5.length : Int))]) ++ r.l5) ++ (z6 r.a)) ++ (z6 r.b)) ++ [(zc r.t)])).length c113, fun vE => vE = .pointer (some ⟨g2, 21, none⟩), fun vE => vE = .int .i64 r.c, fun _ => True, fun _ => True, fun vE => vE = .pointer (some ⟨g2, 22, none⟩), fun vE => vE = .int .i64 r.z] (JM none w fun SV pV => [(0, bytR r.l2 V.v2), (1, bytR r.l5 V.v5), (2, blkR g2 54 (recA r V)), (3, z7a (SV 4) (ownR ((((((((([(zc r.p), (zc (r.s.size : Int))] ++ (sBy r.s)) ++ [(zc (r.l2.length : Int))]) ++ r.l2) ++ [(zc (r.l5.length : Int))]) ++ r.l5) ++ (z6 r.a)) ++ (z6 r.b)) ++ [(zc r.t)]) ++ (zka r.c)) (pV 4)) (ownR (((((((([(zc r.p), (zc (r.s.size : Int))] ++ (sBy r.s)) ++ [(zc (r.l2.length : Int))]) ++ r.l2) ++ [(zc (r.l5.length : Int))]) ++ r.l5) ++ (z6 r.a)) ++ (z6 r.b)) ++ [(zc r.t)]) (.slice A113 ((((((((([(zc r.p), (zc (r.s.size : Int))] ++ (sBy r.s)) ++ [(zc (r.l2.length : Int))]) ++ r.l2) ++ [(zc (r.l5.length : Int))]) ++ r.l5) ++ (z6 r.a)) ++ (z6 r.b)) ++ [(zc r.t)])).length c113))), (4, bytR (sBy r.s) (.slice A100 ((sBy r.s)).length c100)), (5, ownR [(zc (r.l2.length : Int))] (.slice Ap104_5 ([(zc (r.l2.length : Int))]).length cp104_5)), (6, ownR [(zc (r.l5.length : Int))] (.slice Ap108_6 ([(zc (r.l5.length : Int))]).length cp108_6)), (7, bytR (z6 r.a) (.slice Ap112_7 ((z6 r.a)).length cp112_7)), (8, bytR (z6 r.b) (.slice Ap112_8 ((z6 r.b)).length cp112_8)), (9, ownR [(zc r.t)] (.slice Ap112_9 ([(zc r.t)]).length cp112_9)), (10, condR (SV 3) (ownR (zka r.c) (pV 3)))]) 7 rfl (by kernel_rfl) rfl ⟨trivial, trivial, trivial, trivial, trivial, trivial, trivial, trivial⟩ (fun p => ((M113.step (zra _)).triv 10).sub ⟨rfl, rfl, rfl, rfl, rfl, rfl, rfl, rfl, rfl, rfl, rfl, trivial⟩) ⟨?_, ?_, ?_, ?_, ?_, ?_, ?_, trivial⟩ ?_
 ·intro ua uw SV pV M0 hk hn hd
  have M : Mx none w uw _ := M0
  clear M0
  have e4 : ua.eval (.tmp 4) = .slice A113 ((((((((([(zc r.p), (zc (r.s.size : Int))] ++ (sBy r.s)) ++ [(zc (r.l2.length : Int))]) ++ r.l2) ++ [(zc (r.l5.length : Int))]) ++ r.l5) ++ (z6 r.a)) ++ (z6 r.b)) ++ [(zc r.t)])).length c113 := (show ua.eval (.tmp 4) = _ from hd 4 (by decide)).trans (F114.get (t := 4) rfl)
  exact zl (za rfl) (.slice A113 ((((((((([(zc r.p), (zc (r.s.size : Int))] ++ (sBy r.s)) ++ [(zc (r.l2.length : Int))]) ++ r.l2) ++ [(zc (r.l5.length : Int))]) ++ r.l5) ++ (z6 r.a)) ++ (z6 r.b)) ++ [(zc r.t)])).length c113) (zta _ (.inl rfl) e4) rfl (M.sub ⟨rfl, rfl, rfl, rfl, rfl, rfl, rfl, rfl, rfl, rfl, rfl, trivial⟩)
 ·intro ua uw SV pV M0 hk hn hd
  have M : Mx none w uw _ := M0
  clear M0
  have e1 : ua.eval (.tmp 1) = .pointer (some ⟨g2, 0, none⟩) := (show ua.eval (.tmp 1) = _ from hd 1 (by decide)).trans (F114.get (t := 1) rfl)
  exact zl (za rfl) (.pointer (some ⟨g2, 21, none⟩)) (y_fa (off := 21) rfl e1 (by kernel_rfl) rfl) rfl (M.sub ⟨rfl, rfl, rfl, rfl, rfl, rfl, rfl, rfl, rfl, rfl, rfl, trivial⟩)
 ·intro ua uw SV pV M0 hk hn hd
  have M : Mx none w uw _ := M0
  clear M0
  obtain ⟨s1, f110, q110⟩ := (show SV 1 = true ∧ ua.eval (.tmp 110) = pV 1 ∧ stE _ 1 (pV 1) from hd 110 (by decide))
  have e110 : ua.eval (.tmp 110) = .pointer (some ⟨g2, 21, none⟩) := f110.trans q110
  exact zl (za rfl) (.int .i64 r.c) (y_ld1 _ _ rfl e110 (M.blk (k := 2) rfl) rfl Try.underlying3 rfl) rfl (M.sub ⟨rfl, rfl, rfl, rfl, rfl, rfl, rfl, rfl, rfl, rfl, rfl, trivial⟩)
 ·intro ua uw SV pV M0 hk hn hd
  have M : Mx none w uw _ := M0
  clear M0
  obtain ⟨s2, f111, q111⟩ := (show SV 2 = true ∧ ua.eval (.tmp 111) = pV 2 ∧ stE _ 2 (pV 2) from hd 111 (by decide))
  have e111 : ua.eval (.tmp 111) = .int .i64 r.c := f111.trans q111
  exact hopM_call (za rfl) rfl #[.int .i64 r.c] (zp e111) (enters_of Try.func66 (by kernel_rfl) rfl) ((reight_any r.c uw).mono fun e w2 h => (by obtain ⟨u, h1, h2, h3⟩ := h; exact ⟨u, h1, trivial, (M.newO h3 10 h2).sub ⟨rfl, rfl, rfl, rfl, rfl, rfl, rfl, rfl, rfl, rfl, rfl, trivial⟩⟩))
 ·intro ua uw SV pV M0 hk hn hd
  have M : Mx none w uw _ := M0
  clear M0
  obtain ⟨s0, f109, q109⟩ := (show SV 0 = true ∧ ua.eval (.tmp 109) = pV 0 ∧ stE _ 0 (pV 0) from hd 109 (by decide))
  have e109 : ua.eval (.tmp 109) = .slice A113 ((((((((([(zc r.p), (zc (r.s.size : Int))] ++ (sBy r.s)) ++ [(zc (r.l2.length : Int))]) ++ r.l2) ++ [(zc (r.l5.length : Int))]) ++ r.l5) ++ (z6 r.a)) ++ (z6 r.b)) ++ [(zc r.t)])).length c113 := f109.trans q109
  obtain ⟨s3, f112, q112⟩ := (show SV 3 = true ∧ ua.eval (.tmp 112) = pV 3 ∧ stE _ 3 (pV 3) from hd 112 (by decide))
  have e112 : ua.eval (.tmp 112) = (pV 3) := f112
  exact hopM_exM (za rfl) (zna M (k := 3) (eitherR_r hk rfl) _ _ rfl e109 e112 (M.isO (k := 10) (condR_look s3 rfl)) (by simp only [List.length_append, List.length_cons, List.length_nil]; omega)) fun v w2 h2 => ⟨trivial, h2.sub ⟨rfl, rfl, rfl, rfl, rfl, rfl, rfl, rfl, rfl, rfl, rfl, trivial⟩⟩
 ·intro ua uw SV pV M0 hk hn hd
  have M : Mx none w uw _ := M0
  clear M0
  have e1 : ua.eval (.tmp 1) = .pointer (some ⟨g2, 0, none⟩) := (show ua.eval (.tmp 1) = _ from hd 1 (by decide)).trans (F114.get (t := 1) rfl)
  exact zl (za rfl) (.pointer (some ⟨g2, 22, none⟩)) (y_fa (off := 22) rfl e1 (by kernel_rfl) rfl) rfl (M.sub ⟨rfl, rfl, rfl, rfl, rfl, rfl, rfl, rfl, rfl, rfl, rfl, trivial⟩)
 ·intro ua uw SV pV M0 hk hn hd
  have M : Mx none w uw _ := M0
  clear M0
  obtain ⟨s5, f114, q114⟩ := (show SV 5 = true ∧ ua.eval (.tmp 114) = pV 5 ∧ stE _ 5 (pV 5) from hd 114 (by decide))
  have e114 : ua.eval (.tmp 114) = .pointer (some ⟨g2, 22, none⟩) := f114.trans q114
  exact zl (za rfl) (.int .i64 r.z) (y_ld1 _ _ rfl e114 (M.blk (k := 2) rfl) rfl Try.underlying3 rfl) rfl (M.sub ⟨rfl, rfl, rfl, rfl, rfl, rfl, rfl, rfl, rfl, rfl, rfl, trivial⟩)
 intro p116 a116 w116 M116 G116 y116
 obtain ⟨-, -, -, -, q4, -, q6, -⟩ := y116
 have r6 : p116 6 = .int .i64 r.z := q6
 replace M116 : Mx _ _ w116 [(0, bytR r.l2 V.v2), (1, bytR r.l5 V.v5), (2, blkR g2 54 (recA r V)), (3, z7a true (ownR ((((((((([(zc r.p), (zc (r.s.size : Int))] ++ (sBy r.s)) ++ [(zc (r.l2.length : Int))]) ++ r.l2) ++ [(zc (r.l5.length : Int))]) ++ r.l5) ++ (z6 r.a)) ++ (z6 r.b)) ++ [(zc r.t)]) ++ (zka r.c)) (p116 4)) (ownR (((((((([(zc r.p), (zc (r.s.size : Int))] ++ (sBy r.s)) ++ [(zc (r.l2.length : Int))]) ++ r.l2) ++ [(zc (r.l5.length : Int))]) ++ r.l5) ++ (z6 r.a)) ++ (z6 r.b)) ++ [(zc r.t)]) (.slice A113 ((((((((([(zc r.p), (zc (r.s.size : Int))] ++ (sBy r.s)) ++ [(zc (r.l2.length : Int))]) ++ r.l2) ++ [(zc (r.l5.length : Int))]) ++ r.l5) ++ (z6 r.a)) ++ (z6 r.b)) ++ [(zc r.t)])).length c113))), (4, bytR (sBy r.s) (.slice A100 ((sBy r.s)).length c100)), (5, ownR [(zc (r.l2.length : Int))] (.slice Ap104_5 ([(zc (r.l2.length : Int))]).length cp104_5)), (6, ownR [(zc (r.l5.length : Int))] (.slice Ap108_6 ([(zc (r.l5.length : Int))]).length cp108_6)), (7, bytR (z6 r.a) (.slice Ap112_7 ((z6 r.a)).length cp112_7)), (8, bytR (z6 r.b) (.slice Ap112_8 ((z6 r.b)).length cp112_8)), (9, ownR [(zc r.t)] (.slice Ap112_9 ([(zc r.t)]).length cp112_9)), (10, condR true (ownR (zka r.c) (p116 3)))] := M116
 simp only [List.take_succ_cons, List.take_zero, layV, Nat.zero_add, Nat.reduceAdd, r6] at G116
 obtain ⟨Ap116_10, cp116_10, hp116_10⟩ := (M116.isO (k := 10) rfl).shape
 rw [hp116_10] at M116
 try rw [hp116_10] at G116
 refine ze (za rfl) rfl G116 rfl rfl (enters_of Try.func66 (by kernel_rfl) rfl) #[.int .i64 r.z] (zp (G116.get rfl)) (reight_any r.z w116) ?_
 rintro v117 w117 a117 h117 F117
 have M117 := M116.newO h117.2 11 h117.1
 clear M116 h117
 obtain ⟨A117, c117, rfl⟩ := (M117.isO (k := 11) rfl).shape
 refine z5 (za rfl) rfl F117 rfl (zna M117 (k := 3) rfl _ _ rfl (F117.get rfl) (F117.get rfl) (M117.isO (k := 11) rfl) (by simp only [List.length_append, List.length_cons, List.length_nil]; omega)) ?_
 intro v118 a118 w118 F118 M118
 clear F117 M117
 obtain ⟨A118, c118, rfl⟩ := (M118.isO (k := 3) rfl).shape
 refine rm rfl F118 fun _ F119 => ?_
 refine rm rfl F119 fun _ F120 => ?_
 refine hK115 _ _ (wp_ret ?_)
 try simp only [Exit.then, Exit.inBlock, Exit.jump]
 exact bodyPost_ret (res2 rfl (F120.get (t := 2) rfl) (F120.get (t := 3) rfl)) F120.defers ⟨_, (by rw [(show zx r = true from by rw [← zba]; unfold keepR; simp [hN, hA, hB, h8, h16, h31, h40, h60, h68, h76, h84])]), (by rw [show recE r = recL r from if_pos (show zx r = true from by rw [← zba]; unfold keepR; simp [hN, hA, hB, h8, h16, h31, h40, h60, h68, h76, h84]), recL_ref]; exact M118.byt (k := 3) rfl), M118.below⟩
end Go.Proofs.Ytlbkogdmojlpmaa
namespace Go.Proofs.Ytlbkogdmojlpmaa
open Go.ChangeShapes Go.WideShapes Go.ChangeAt Go.RowKit
theorem rrecord_ex (r : RecN) (V : RecV) (ho : RecOk r) (w : World) (hm : RecIs w r V) : Calls Try.prog 36 #[.agg (recA r V)] w fun e w' => ∃ t, e = .returned t ∧ ∃ v, t = .tuple #[v, .bool (zx r)] ∧ Byt w' w.heap.size v (recE r) ∧ Below w.heap.size w w' :=
  (rrecord_any r V ho w hm).mono fun e w' ⟨v, h1, h2, h3⟩ => ⟨_, h1, v, rfl, h2, h3⟩
end Go.Proofs.Ytlbkogdmojlpmaa
namespace Go.Proofs.Ytlbkogdmojlpmaa
open Go.ChangeShapes Go.WideShapes Go.ChangeAt Go.RowKit Go.Shelf
theorem one_slcB {w : World} {l : List UInt8} {v : Value} (h : IsB w l v) : (#[v]).all (·.oneCell') = true := by
  obtain ⟨A, c, rfl⟩ := h.shape
  simp [Value.oneCell']
theorem tdiv_in {p q : Int} (hp : -9223372036854775808 ≤ p ∧ p < 9223372036854775808) (hq : 0 < q) : -9223372036854775808 ≤ p.tdiv q ∧ p.tdiv q ≤ 9223372036854775807 := by
  by_cases h : 0 ≤ p
  · rw [Int.tdiv_eq_ediv_of_nonneg h]
    have h1 := Int.ediv_le_self q h
    have h2 := Int.ediv_nonneg h (Int.le_of_lt hq)
    omega
  · obtain ⟨r, rfl⟩ : ∃ r, p = -r := ⟨-p, by omega⟩
    rw [Int.neg_tdiv, Int.tdiv_eq_ediv_of_nonneg (by omega)]
    have h1 := Int.ediv_le_self q (show 0 ≤ r by omega)
    have h2 := Int.ediv_nonneg (show 0 ≤ r by omega) (Int.le_of_lt hq)
    omega
section
variable {P : Program} {a : Act} {w w0 : World} {o : Oper} {G : Option Nat} {R : List (Nat × Res)}
theorem y_quoT (ty tz : TypeId) (x y : Operand) {p q z : Int} (ho : o.op = .binOp .quo ty x y tz) (hx : a.eval x = .int .i64 p) (hy : a.eval y = .int .i64 q) (hp : -9223372036854775808 ≤ p ∧ p < 9223372036854775808) (hq : 0 < q) (hz : p.tdiv q = z) : (execOp a.eval o).run Try.prog w = .ok (.value (.int .i64 z)) w := by
  subst hz
  have h0 : ¬ q = 0 := by omega
  have h1 : IntKind.i64.wrap (p.tdiv q) = p.tdiv q := Go.IntWalk.i64_in _ (tdiv_in hp hq)
  unfold execOp; simp only [ho, hx, hy]; simp [go_sem, h0, h1]
end
end Go.Proofs.Ytlbkogdmojlpmaa
namespace Go.Proofs.Ytlbkogdmojlpmaa
open Go.ChangeShapes Go.WideShapes Go.ChangeAt Go.RowKit Go.Shelf
def Oz (w : World) (v : Value) (l : List UInt8) : Prop :=
  ∃ g c cur lo hi, v = .slice (some ⟨g, 0, none⟩) l.length c ∧ w.heap[g]? = some (.cells cur 5 (lo, hi)) ∧ l.length ≤ lo ∧ l.length ≤ c ∧ c ≤ maxLen ∧ ∀ (j : Nat) (b : UInt8), l[j]? = some b → cur[j]? = some (bv b)
def ozR (l : List UInt8) (v : Value) : Res := ⟨true, ofp v, fun w => Oz w v l⟩
theorem Oz.same {l : List UInt8} {v : Value} {u u' : World} (hs : Same (ofp v) u u') (h : Oz u v l) : Oz u' v l := by
  obtain ⟨g, c, cur, lo, hi, rfl, hg, h1, h2, h3, h4⟩ := h
  exact ⟨g, c, cur, lo, hi, rfl, hs g _ (by simp [ofp, Value.ownBlock]) hg, h1, h2, h3, h4⟩
theorem ozR_dep {l : List UInt8} {v : Value} : ∀ u u', Same (ozR l v).fp u u' → (ozR l v).F u → (ozR l v).F u' := fun _ _ hs h => Oz.same hs h
theorem Oz.isb {w : World} {v : Value} {l : List UInt8} (h : Oz w v l) : IsB w l v := by
  obtain ⟨g, c, cur, lo, hi, rfl, hg, h1, h2, h3, h4⟩ := h
  refine ⟨_, _, rfl, h2, h3, (fun e => by cases e), fun _ => ⟨_, rfl, heap_lt hg, fun j b hj => ?_⟩⟩
  rw [zsa, Nat.zero_add]
  simp [World.cell?, hg, h4 j b hj]
theorem Oz.lt {w : World} {v : Value} {l : List UInt8} (h : Oz w v l) : ∀ g, ofp v g → g < w.heap.size := fun q hq => by
  obtain ⟨g, c, cur, lo, hi, rfl, hg, h1, h2, h3, h4⟩ := h
  obtain rfl : g = q := by simpa [ofp, Value.ownBlock] using hq
  exact heap_lt hg
section
variable {G : Option Nat} {w0 w w' : World} {R : List (Nat × Res)} {l : List UInt8} {v : Value} {a : Act} {o : Oper}
theorem Mx.isZ (M : Mx G w0 w R) {k : Nat} (h : look R k = some (ozR l v)) : IsB w l v := Oz.isb (M.at_ k _ h)
theorem Mx.tameZ (M : Mx G w0 w R) {k : Nat} (hk : look R k = some (ozR l v)) : Mx G w0 w ((k, bytR l v) :: R) :=
  M.cons k _ (M.isZ hk) zfa (fun g hg => M.lt k _ hk g (zab hg)) (fun e => by cases e) fun j s e hj _ g hg hs => M.dis k j _ s hk e hj rfl g (zab hg) hs
theorem run_cvZ (M : Mx G w0 w R) (i : Nat) (x : Operand) (ho : o.op = .convert 9 22 x) {s : ByteArray} (hx : a.eval x = .string s) (hs : s.size ≤ 1000000) :
    ∃ v w', (execOp a.eval o).run Try.prog w = .ok (.value v) w' ∧ Mx G w0 w' ((i, ozR (sBy s) v) :: R) := by
  have hc := grownCap_ge w s.size 0 5
  have hm := grownCap_le_maxLen w s.size 0 5 (by unfold maxLen; omega)
  obtain ⟨w', hw'⟩ : ∃ w', w' = w.drew.alloc (.cells (bytesRow s (grownCap w s.size 0 5)) 5 ((bytesRow s (grownCap w s.size 0 5)).size, (bytesRow s (grownCap w s.size 0 5)).size + 1)) := ⟨_, rfl⟩
  have hh : w'.heap[w.heap.size]? = some (.cells (bytesRow s (grownCap w s.size 0 5)) 5 ((bytesRow s (grownCap w s.size 0 5)).size, (bytesRow s (grownCap w s.size 0 5)).size + 1)) := by
    rw [hw']; exact heap_alloc_new w.drew _
  have hcell : ∀ j b, (sBy s)[j]? = some b → (bytesRow s (grownCap w s.size 0 5))[j]? = some (bv b) := fun j b hj => by
    have hl := (List.getElem?_eq_some_iff.1 hj).1
    rw [sBy_len] at hl
    unfold bytesRow sBy at *
    rw [Array.getElem?_append]
    rw [if_pos (by simpa using hl)]
    rw [Array.getElem?_toList] at hj
    simp [hj, bv]
  have hlo : (sBy s).length ≤ (bytesRow s (grownCap w s.size 0 5)).size := by
    rw [sBy_len]; unfold bytesRow; simp
  refine ⟨.slice (some ⟨w.heap.size, 0, none⟩) s.size (grownCap w s.size 0 5), w', ?_, M.fresh (by rw [hw']; exact (zra w).trans (zza w.drew _)) i _ ⟨_, _, _, _, _, by rw [sBy_len], hh, hlo, by rw [sBy_len]; exact hc, hm, hcell⟩ ozR_dep fun g hg => ?_⟩
  · have h := run_bytes_of_string w 9 22 5 s Try.underlying9 Try.underlying22 Try.underlying5
    rw [hw']
    exact run_cv' _ _ x ho hx h
  · obtain rfl : w.heap.size = g := by simpa [ozR, ofp, Value.ownBlock] using hg
    exact ⟨Nat.le_refl _, heap_lt hh⟩
theorem run_setZ (M : Mx G w0 w R) {k : Nat} (hk : look R k = some (ozR l v)) (x y : Operand) (ho : o.op = .store 5 x y) {j : Nat} (hx : a.eval x = ixV v j) {z : Int} (b : UInt8) (hy : a.eval y = .int .u8 z) (hz : z = (b.toNat : Int)) (hj : j < l.length) :
    ∃ w', (execOp a.eval o).run Try.prog w = .ok .skip w' ∧ Mx G w0 w' ((k, ozR (l.set j b) v) :: R) := by
  subst hz
  have hown : Oz w v l := M.at_ k _ hk
  obtain ⟨g, c, cur, lo, hi, rfl, hg, h1, h2, h3, h4⟩ := hown
  have hi1 : (Try.prog.info? 5).map (·.size) = some 1 := by kernel_rfl
  have hold := h4 j l[j] (List.getElem?_eq_getElem hj)
  have hrun := run_storeCells_cells (P := Try.prog) g j [bv b] 0 w (fun q hq => by
      obtain rfl : q = 0 := by simpa using hq
      simp [World.cell?, hg, hold]) (fun q hq => by
      obtain rfl : q = 0 := by simpa using hq
      simp only [Nat.add_zero, World.frozen?, hg]
      simp; omega) (fun u hu => by
      obtain rfl : u = bv b := by simpa using hu
      simp [bv, Value.oneCell'])
  obtain ⟨cur', k1, k2, k3, k4⟩ := heap_setCells g [bv b] j w cur 5 (lo, hi) hg
  have hjc : j < cur.size := (Array.getElem?_eq_some_iff.1 hold).1
  refine ⟨w.setCells g j [bv b], ?_, M.write hk rfl (grown_setCells g _ _ _) (fun q e => by cases e; simp [ozR, ofp, Value.ownBlock]) _ ⟨g, c, cur', lo, hi, by rw [List.length_set], k1, by rw [List.length_set]; exact h1, by rw [List.length_set]; exact h2, h3, fun q u hq => ?_⟩ ozR_dep fun q hq => ?_⟩
  · have hrun2 : (Instr.storeAt 5 (.pointer (some ⟨g, j, none⟩)) (.int .u8 (b.toNat : Int))).run Try.prog w = .ok () (w.setCells g j [bv b]) := by
      simp only [Instr.storeAt, Instr.sureAddr, Sem.run_bind, Sem.run_pure, Result.andThen_ok]
      simp only [Nat.add_zero] at hrun
      cases hq : Try.prog.info? 5 with
      | none => simp [hq] at hi1
      | some i =>
        have hz : i.size = 1 := by simpa [hq] using hi1
        simp [storeVar, Sem.run_bind, sizeOf, typeInfo, hq, hz, Value.cells]
        simpa [bv] using hrun
    have hx' : a.eval x = .pointer (some ⟨g, j, none⟩) := by rw [hx]; simp [ixV, zsa]
    unfold execOp
    simp only [ho, hx', hy, Sem.run_bind, hrun2, Result.andThen_ok, Sem.run_pure]
  · rw [List.getElem?_set] at hq
    by_cases e : j = q
    · subst e
      rw [if_pos rfl, if_pos hj] at hq
      obtain rfl := Option.some.inj hq
      have := k3 0 (by simp) (by simpa using hjc)
      simpa using this
    · rw [if_neg e] at hq
      rw [k4 q (by simp; omega)]
      exact h4 q u hq
  · have e : g = q := by simpa [ozR, ofp, Value.ownBlock] using hq
    subst e
    refine ⟨heap_lt k1, .inl (by simp [ozR, ofp, Value.ownBlock])⟩
end
end Go.Proofs.Ytlbkogdmojlpmaa
namespace Go.Proofs.Ytlbkogdmojlpmaa
open Go.ChangeShapes Go.WideShapes Go.ChangeAt Go.RowKit
def nmC (x : UInt8) : UInt8 := zc (33 + ((x.toNat : Nat) : Int) % 94)
def nmL (l : List UInt8) : List UInt8 := l.map nmC
theorem nmL_len (l : List UInt8) : (nmL l).length = l.length := by simp [nmL]
def nmP (l : List UInt8) (j : Nat) : List UInt8 := (l.take j).map nmC ++ l.drop j
theorem nmP_len (l : List UInt8) (j : Nat) : (nmP l j).length = l.length := by simp [nmP]; omega
theorem nmP_zero (l : List UInt8) : nmP l 0 = l := by simp [nmP]
theorem nmP_all (l : List UInt8) : nmP l l.length = nmL l := by simp [nmP, nmL]
theorem nmP_at {l : List UInt8} {j : Nat} {x : UInt8} (h : l[j]? = some x) : (nmP l j)[j]? = some x := by
  have hl := (List.getElem?_eq_some_iff.1 h).1
  unfold nmP
  rw [List.getElem?_append_right (by simp; omega)]
  simp [Nat.min_eq_left (Nat.le_of_lt hl), h]
theorem nmP_set {l : List UInt8} {j : Nat} {x : UInt8} (h : l[j]? = some x) : (nmP l j).set j (zc (33 + ((x.toNat : Nat) : Int) % 94)) = nmP l (j + 1) := by
  have hl := (List.getElem?_eq_some_iff.1 h).1
  unfold nmP
  rw [List.set_append_right _ _ (by simp; omega), List.take_add_one, h, List.map_append, List.append_assoc]
  congr 1
  rw [List.length_map, List.length_take, Nat.min_eq_left (Nat.le_of_lt hl), Nat.sub_self, List.drop_eq_getElem_cons hl]
  simp [nmC, (List.getElem?_eq_some_iff.1 h).2]
def nmB (s : ByteArray) : ByteArray := if (sBy s).length = 0 then ⟨#[117]⟩ else ⟨((nmL (sBy s)).take (min (sBy s).length 16)).toArray⟩
theorem nmB_nil {s : ByteArray} (h : (sBy s).length = 0) : nmB s = ⟨#[117]⟩ := if_pos h
theorem nmB_some {s : ByteArray} (h : ¬ (sBy s).length = 0) : nmB s = ⟨((nmL (sBy s)).take (min (sBy s).length 16)).toArray⟩ := if_neg h
theorem nmC_in (x : UInt8) : 33 ≤ (nmC x).toNat ∧ (nmC x).toNat ≤ 126 := by
  have h := byteI_val (33 + ((x.toNat : Nat) : Int) % 94)
  have h1 := Int.emod_nonneg ((x.toNat : Nat) : Int) (show (94 : Int) ≠ 0 by decide)
  have h2 := Int.emod_lt_of_pos ((x.toNat : Nat) : Int) (show (0 : Int) < 94 by decide)
  show 33 ≤ (zc _).toNat ∧ (zc _).toNat ≤ 126
  omega
theorem lname_any (s : ByteArray) (hs : s.size ≤ 40) (w : World) :
  Calls Try.prog 42 #[.string s] w fun e w' => e = .returned (.string (nmB s)) ∧ Below w.heap.size w w' := by
 have hsl : (sBy s).length ≤ 40 := by rw [sBy_len]; exact hs
 refine zf (args := [.string s]) 33 Try.func42 rfl rfl rfl ?_
 intro fa F
 have M := Mx.start w
 refine zT fun _ hK1 => ?_
 refine rm rfl F fun _ F2 => ?_
 refine hK1 _ _ (zS fun _ hK3 => ?_)
 refine zR ?_
 refine rm rfl F2 fun _ F4 => ?_
 refine z5 (za rfl) rfl F4 rfl (run_cvZ M 0 _ rfl (F4.get rfl) (Nat.le_trans hs (by omega))) ?_
 intro v5 a5 w5 F5 M5
 clear F4 M
 obtain ⟨A5, c5, rfl⟩ := (M5.isZ (k := 0) rfl).shape
 refine rm rfl F5 fun _ F6 => ?_
 refine hK3 _ _ (zS fun _ hK7 => ?_)
 refine zT fun _ hK8 => ?_
 refine rm rfl F6 fun _ F9 => ?_
 refine hK8 _ _ (wp_block ?_)
 have hz := nmP_zero (sBy s)
 refine loop_fx (α := Nat) (n := 33) (G := none) (w0 := w) (fun x => [(0, .string s), (2, .string ({ data := #[] })), (5, .string s), (6, .slice A5 ((sBy s)).length c5), (3, .slice A5 ((sBy s)).length c5), (4, .int .i64 (x : Int))]) (fun x => [(0, ozR (nmP (sBy s) x) (.slice A5 ((sBy s)).length c5))]) (fun k x => k = (sBy s).length - x ∧ (x ≤ (sBy s).length)) _ 0 ⟨rfl, (Nat.zero_le _)⟩ (F9.sub ⟨rfl, rfl, rfl, rfl, rfl, rfl, trivial⟩) (M5.sub ⟨(by rw [hz]; rfl), trivial⟩) ?_
 clear F9 M5
 rintro k10 jn a10 w10 K10 ⟨ek10, I10⟩ F10 M10 hK10
 replace F10 : Fx 33 a10 [(0, .string s), (2, .string ({ data := #[] })), (5, .string s), (6, .slice A5 ((sBy s)).length c5), (3, .slice A5 ((sBy s)).length c5), (4, .int .i64 (jn : Int))] := F10
 replace M10 : Mx _ _ w10 [(0, ozR (nmP (sBy s) jn) (.slice A5 ((sBy s)).length c5))] := M10
 replace I10 : jn ≤ (sBy s).length := I10
 replace ek10 : k10 = (sBy s).length - jn := ek10
 by_cases hlt : jn < (sBy s).length
 rotate_left
 ·obtain rfl : jn = (sBy s).length := by omega
  have hal := nmP_all (sBy s)
  rw [hal] at M10
  refine zS fun _ hK33 => zS fun _ hK34 => ?_
  refine zR ?_
  refine rm rfl F10 fun _ F35 => ?_
  refine rm rfl F35 fun _ F36 => ?_
  refine rn rfl rfl F36 rfl (.int .i64 ((sBy s).length : Int)) (z0 _ rfl (F36.get rfl) (M10.isZ (k := 0) rfl) (by rw [nmL_len])) fun _ F37 => ?_
  refine rn rfl rfl F37 rfl (.bool false) (z1a _ _ _ _ rfl (F37.get rfl) (F37.get rfl) (decide_eq_false (Int.lt_irrefl _))) fun _ F38 => ?_
  refine hK34 _ _ (wp_cond_false (F38.get rfl) ?_)
  refine wp_exit ?_
  simp only [Exit.then, Exit.inBlock, ↓reduceIte, Nat.reduceEqDiff]
  refine hK7 _ _ (zS fun _ hK39 => ?_)
  refine zT fun _ hK40 => ?_
  refine rm rfl F38 fun _ F41 => ?_
  refine rn rfl rfl F41 rfl (.int .i64 ((sBy s).length : Int)) (z0 _ rfl (F41.get rfl) (M10.isZ (k := 0) rfl) (by rw [nmL_len])) fun _ F42 => ?_
  by_cases h43 : ((sBy s).length : Int) = 0
  ·refine rn rfl rfl F42 rfl (.bool true) (zh _ _ _ _ rfl (F42.get rfl) rfl Try.underlying3 (z8 h43)) fun _ F44 => ?_
   refine hK40 _ _ (wp_cond_true (F44.get rfl) ?_)
   refine zT fun _ hK45 => ?_
   refine rm rfl F44 fun _ F46 => ?_
   refine hK45 _ _ (wp_ret ?_)
   try simp only [Exit.then, Exit.inBlock, Exit.jump]
   exact bodyPost_ret (res1 rfl (F46.get (t := 2) rfl)) F46.defers ⟨by rw [nmB_nil (by omega)], M10.below⟩
  refine rn rfl rfl F42 rfl (.bool false) (zh _ _ _ _ rfl (F42.get rfl) rfl Try.underlying3 (zi h43)) fun _ F47 => ?_
  refine hK40 _ _ (wp_cond_false (F47.get rfl) ?_)
  refine wp_skip ?_
  refine hK39 _ _ (zS fun _ hK48 => ?_)
  refine zR ?_
  refine rm rfl F47 fun _ F49 => ?_
  refine rm rfl F49 fun _ F50 => ?_
  refine rn rfl rfl F50 rfl (.int .i64 ((sBy s).length : Int)) (z0 _ rfl (F50.get rfl) (M10.isZ (k := 0) rfl) (by rw [nmL_len])) fun _ F51 => ?_
  refine rn rfl rfl F51 rfl (.int .i64 ((min ((sBy s).length) 16 : Nat) : Int)) (y_min _ _ rfl (F51.get rfl) rfl (by split <;> omega)) fun _ F52 => ?_
  refine wl_runE (za rfl) rfl F52 rfl (y_slTo _ _ rfl (F52.get rfl) (M10.isZ (k := 0) rfl) (F52.get rfl) (j := (min (sBy s).length 16)) rfl (by rw [nmL_len]; omega)) ?_
  intro v53 a53 h53 F53
  have M54 := M10.tameZ (k := 0) rfl
  clear M10
  have M53 := M54.partB 1 (k := 0) rfl h53.1 h53.2
  clear M54
  obtain ⟨A53, c53, rfl⟩ := (M53.isb (k := 1) rfl).shape
  refine rn rfl rfl F53 rfl (.string (⟨(((nmL (sBy s)).take (min (sBy s).length 16))).toArray⟩)) (y_str _ rfl (F53.get rfl) (M53.isb (k := 1) rfl)) fun _ F55 => ?_
  refine rm rfl F55 fun _ F56 => ?_
  refine hK48 _ _ (wp_ret ?_)
  try simp only [Exit.then, Exit.inBlock, Exit.jump]
  exact bodyPost_ret (res1 rfl (F56.get (t := 2) rfl)) F56.defers ⟨by rw [nmB_some (by omega)], M53.below⟩
 obtain ⟨x, hx⟩ : ∃ x, (sBy s)[jn]? = some x := ⟨_, List.getElem?_eq_getElem hlt⟩
 have hxl := x.toNat_lt
 have hpx := nmP_at hx
 have hps := nmP_set hx
 have hpl := nmP_len (sBy s) jn
 refine zS fun _ hK11 => zS fun _ hK12 => ?_
 refine zR ?_
 refine rm rfl F10 fun _ F13 => ?_
 refine rm rfl F13 fun _ F14 => ?_
 refine rn rfl rfl F14 rfl (.int .i64 ((sBy s).length : Int)) (z0 _ rfl (F14.get rfl) (M10.isZ (k := 0) rfl) (by rw [nmP_len])) fun _ F15 => ?_
 refine rn rfl rfl F15 rfl (.bool true) (z1a _ _ _ _ rfl (F15.get rfl) (F15.get rfl) (decide_eq_true (show (jn : Int) < ((sBy s).length : Int) by omega))) fun _ F16 => ?_
 refine hK12 _ _ (wp_cond_true (F16.get rfl) ?_)
 refine wp_skip ?_
 refine hK11 _ _ (zS fun _ hK17 => ?_)
 refine wp_block ?_
 refine zR ?_
 refine rm rfl F16 fun _ F18 => ?_
 refine rm rfl F18 fun _ F19 => ?_
 refine rm rfl F19 fun _ F20 => ?_
 refine rm rfl F20 fun _ F21 => ?_
 refine rn rfl rfl F21 rfl ((ixV (.slice A5 ((sBy s)).length c5) jn)) (y_ixB _ _ rfl (F21.get rfl) (M10.isZ (k := 0) rfl) (F21.get rfl) rfl (by rw [nmP_len]; omega)) fun _ F22 => ?_
 refine rn rfl rfl F22 rfl (.int .u8 ((x.toNat : Nat) : Int)) (y_ldB _ rfl (F22.get rfl) (M10.isZ (k := 0) rfl) hpx rfl) fun _ F23 => ?_
 refine rn rfl rfl F23 rfl (.int .i64 ((x.toNat : Nat) : Int)) (y_cvI _ _ _ rfl (F23.get rfl) Try.underlying5 Try.underlying3 (zgb _)) fun _ F24 => ?_
 refine ze (za rfl) rfl F24 rfl rfl (enters_of Try.func22 (by kernel_rfl) rfl) #[.int .i64 ((x.toNat : Nat) : Int), .int .i64 94] (zla (F24.get rfl) rfl) (zk ((z7 ((x.toNat : Nat) : Int) 94 (by omega) (by omega) (by omega) (by omega) w10))) ?_
 rintro _ w25 a25 ⟨rfl, rfl⟩ F25
 refine rn rfl rfl F25 rfl (.int .i64 (33 + (((x.toNat : Nat) : Int) % 94))) (y_addI _ _ _ _ rfl rfl (F25.get rfl) rfl (by omega)) fun _ F26 => ?_
 refine rn rfl rfl F26 rfl (.int .u8 (((zc (33 + (((x.toNat : Nat) : Int) % 94))).toNat : Nat) : Int)) (y_cvI _ _ _ rfl (F26.get rfl) Try.underlying3 Try.underlying5 (zia _)) fun _ F27 => ?_
 refine rn rfl rfl F27 rfl ((ixV (.slice A5 ((sBy s)).length c5) jn)) (y_ixB _ _ rfl (F27.get rfl) (M10.isZ (k := 0) rfl) (F27.get rfl) rfl (by rw [nmP_len]; omega)) fun _ F28 => ?_
 refine wl_doM (za rfl) rfl F28 (run_setZ M10 (k := 0) rfl _ _ rfl (F28.get rfl) (zc (33 + (((x.toNat : Nat) : Int) % 94))) (F28.get rfl) rfl (by rw [nmP_len]; omega)) ?_
 intro w29 M29
 clear M10
 refine hK17 _ _ (zR ?_)
 refine rm rfl F28 fun _ F30 => ?_
 refine rn rfl rfl F30 rfl (.int .i64 ((jn + 1 : Nat) : Int)) (y_addI _ _ _ _ rfl (F30.get rfl) rfl (by omega) (by omega)) fun _ F31 => ?_
 refine rm rfl F31 fun _ F32 => ?_
 subst ek10
 exact hK10 _ (jn + 1) _ _ (by omega) ⟨rfl, (by omega)⟩ (F32.sub ⟨rfl, rfl, rfl, rfl, rfl, rfl, trivial⟩) (M29.sub ⟨(by rw [← hps]; rfl), trivial⟩)
end Go.Proofs.Ytlbkogdmojlpmaa
namespace Go.Proofs.Ytlbkogdmojlpmaa
open Go.ChangeShapes Go.WideShapes Go.ChangeAt Go.RowKit
theorem zbb {p q : Int} (hp : -9223372036854775808 ≤ p ∧ p < 9223372036854775808) (hq : 0 < q) : -9223372036854775808 ≤ p.tdiv q ∧ p.tdiv q < 9223372036854775808 :=
  ⟨(tdiv_in hp hq).1, Int.lt_of_le_of_lt (tdiv_in hp hq).2 (by decide)⟩
end Go.Proofs.Ytlbkogdmojlpmaa
namespace Go.Proofs.Ytlbkogdmojlpmaa
open Go.ChangeShapes Go.WideShapes Go.ChangeAt Go.RowKit
def mkR (n : Int) (s : ByteArray) (b : List UInt8) : RecN :=
  ⟨1 + n % 2, nmB s, b.take (n % ((min b.length 16 + 1 : Nat) : Int)).toNat, ((n.tdiv 2) % 4294967296).toNat, ((n.tdiv 7) % 4294967296).toNat, b.take ((n.tdiv 3) % ((min b.length 48 + 1 : Nat) : Int)).toNat, (n.tdiv 11) % 6, (n.tdiv 13) % 1000, (n.tdiv 17) % 1099511627776⟩
theorem make_rec (n : Int) (s : ByteArray) (b : List UInt8) (v : Value) (hN : -9223372036854775808 ≤ n ∧ n < 9223372036854775808) (hs : s.size ≤ 40) (hbl : b.length ≤ 1000) (w : World) (hv : IsB w b v) :
  Calls Try.prog 34 #[.int .i64 n, .string s, v] w fun e w' => ∃ t, e = .returned t ∧ ∃ V, t = .agg (recA (mkR n s b) V) ∧ RecIs w' (mkR n s b) V ∧ (∀ g, bfp V.v2 g ∨ bfp V.v5 g → w.heap.size ≤ g) ∧ Below w.heap.size w w' := by
 obtain ⟨K2, hK2⟩ : ∃ K : Nat, n % ((min b.length 16 + 1 : Nat) : Int) = (K : Int) := ⟨(n % ((min b.length 16 + 1 : Nat) : Int)).toNat, (Int.toNat_of_nonneg (Int.emod_nonneg _ (by omega))).symm⟩
 obtain ⟨K5, hK5⟩ : ∃ K : Nat, (n.tdiv 3) % ((min b.length 48 + 1 : Nat) : Int) = (K : Int) := ⟨((n.tdiv 3) % ((min b.length 48 + 1 : Nat) : Int)).toNat, (Int.toNat_of_nonneg (Int.emod_nonneg _ (by omega))).symm⟩
 have hK2l := Int.emod_lt_of_pos n (show 0 < ((min b.length 16 + 1 : Nat) : Int) by omega)
 have hK5l := Int.emod_lt_of_pos (n.tdiv 3) (show 0 < ((min b.length 48 + 1 : Nat) : Int) by omega)
 have hK2b : K2 ≤ b.length := by omega
 have hK5b : K5 ≤ b.length := by omega
 refine zf (args := [.int .i64 n, .string s, v]) 57 Try.func34 rfl rfl rfl ?_
 intro fa F
 have M := Mx.start w
 replace M := M.argB 0 hv (fun g e => by cases e)
 refine zT fun _ hK1 => ?_
 refine zn (za rfl) rfl F rfl M 1 (t := 54) (c := recA ⟨0, "".toUTF8, [], 0, 0, [], 0, 0, 0⟩ ⟨zN, zN⟩) (by unfold execOp; kernel_rfl) ?_
 intro g2 a2 w2 F2 M2
 clear F M
 refine hK1 _ _ (zS fun _ hK3 => ?_)
 refine zR ?_
 refine rm rfl F2 fun _ F4 => ?_
 refine ze (za rfl) rfl F4 rfl rfl (enters_of Try.func22 (by kernel_rfl) rfl) #[.int .i64 n, .int .i64 2] (zla (F4.get rfl) rfl) (zk ((z7 n 2 (by omega) (by omega) hN.1 hN.2 w2))) ?_
 rintro _ w5 a5 ⟨rfl, rfl⟩ F5
 refine rn rfl rfl F5 rfl (.int .i64 (1 + (n % 2))) (y_addI _ _ _ _ rfl rfl (F5.get rfl) rfl (by omega)) fun _ F6 => ?_
 refine rm rfl F6 fun _ F7 => ?_
 refine ze (za rfl) rfl F7 rfl rfl (enters_of Try.func42 (by kernel_rfl) rfl) #[.string s] (zp (F7.get rfl)) (zk ((lname_any s hs w2))) ?_
 rintro _ w8 a8 ⟨rfl, b8⟩ F8
 have M8 := M2.step b8
 refine rm rfl F8 fun _ F9 => ?_
 refine rn rfl rfl F9 rfl (.int .i64 (n.tdiv 2)) (y_quoT _ _ _ _ rfl (F9.get rfl) rfl hN (by decide) rfl) fun _ F10 => ?_
 refine ze (za rfl) rfl F10 rfl rfl (enters_of Try.func22 (by kernel_rfl) rfl) #[.int .i64 (n.tdiv 2), .int .i64 4294967296] (zla (F10.get rfl) rfl) (zk ((z7 (n.tdiv 2) 4294967296 (by omega) (by omega) (zbb hN (show (0 : Int) < 2 by decide)).1 (zbb hN (show (0 : Int) < 2 by decide)).2 w8))) ?_
 rintro _ w11 a11 ⟨rfl, rfl⟩ F11
 refine ze (za rfl) rfl F11 rfl rfl (enters_of Try.func24 (by kernel_rfl) rfl) #[.int .i64 ((n.tdiv 2) % 4294967296)] (zp (F11.get rfl)) (zk ((from_ref ((n.tdiv 2) % 4294967296) (by omega) (by omega) w8))) ?_
 rintro _ w12 a12 ⟨rfl, b12⟩ F12
 have M12 := M8.step b12
 refine rm rfl F12 fun _ F13 => ?_
 refine rn rfl rfl F13 rfl (.int .i64 (n.tdiv 7)) (y_quoT _ _ _ _ rfl (F13.get rfl) rfl hN (by decide) rfl) fun _ F14 => ?_
 refine ze (za rfl) rfl F14 rfl rfl (enters_of Try.func22 (by kernel_rfl) rfl) #[.int .i64 (n.tdiv 7), .int .i64 4294967296] (zla (F14.get rfl) rfl) (zk ((z7 (n.tdiv 7) 4294967296 (by omega) (by omega) (zbb hN (show (0 : Int) < 7 by decide)).1 (zbb hN (show (0 : Int) < 7 by decide)).2 w12))) ?_
 rintro _ w15 a15 ⟨rfl, rfl⟩ F15
 refine ze (za rfl) rfl F15 rfl rfl (enters_of Try.func24 (by kernel_rfl) rfl) #[.int .i64 ((n.tdiv 7) % 4294967296)] (zp (F15.get rfl)) (zk ((from_ref ((n.tdiv 7) % 4294967296) (by omega) (by omega) w12))) ?_
 rintro _ w16 a16 ⟨rfl, b16⟩ F16
 have M16 := M12.step b16
 refine rm rfl F16 fun _ F17 => ?_
 refine rn rfl rfl F17 rfl (.int .i64 (n.tdiv 11)) (y_quoT _ _ _ _ rfl (F17.get rfl) rfl hN (by decide) rfl) fun _ F18 => ?_
 refine ze (za rfl) rfl F18 rfl rfl (enters_of Try.func22 (by kernel_rfl) rfl) #[.int .i64 (n.tdiv 11), .int .i64 6] (zla (F18.get rfl) rfl) (zk ((z7 (n.tdiv 11) 6 (by omega) (by omega) (zbb hN (show (0 : Int) < 11 by decide)).1 (zbb hN (show (0 : Int) < 11 by decide)).2 w16))) ?_
 rintro _ w19 a19 ⟨rfl, rfl⟩ F19
 refine rm rfl F19 fun _ F20 => ?_
 refine rn rfl rfl F20 rfl (.int .i64 (n.tdiv 13)) (y_quoT _ _ _ _ rfl (F20.get rfl) rfl hN (by decide) rfl) fun _ F21 => ?_
 refine ze (za rfl) rfl F21 rfl rfl (enters_of Try.func22 (by kernel_rfl) rfl) #[.int .i64 (n.tdiv 13), .int .i64 1000] (zla (F21.get rfl) rfl) (zk ((z7 (n.tdiv 13) 1000 (by omega) (by omega) (zbb hN (show (0 : Int) < 13 by decide)).1 (zbb hN (show (0 : Int) < 13 by decide)).2 w16))) ?_
 rintro _ w22 a22 ⟨rfl, rfl⟩ F22
 refine rm rfl F22 fun _ F23 => ?_
 refine rn rfl rfl F23 rfl (.int .i64 (n.tdiv 17)) (y_quoT _ _ _ _ rfl (F23.get rfl) rfl hN (by decide) rfl) fun _ F24 => ?_
 refine ze (za rfl) rfl F24 rfl rfl (enters_of Try.func22 (by kernel_rfl) rfl) #[.int .i64 (n.tdiv 17), .int .i64 1099511627776] (zla (F24.get rfl) rfl) (zk ((z7 (n.tdiv 17) 1099511627776 (by omega) (by omega) (zbb hN (show (0 : Int) < 17 by decide)).1 (zbb hN (show (0 : Int) < 17 by decide)).2 w16))) ?_
 rintro _ w25 a25 ⟨rfl, rfl⟩ F25
 refine rn rfl rfl F25 rfl (.agg (recA ⟨1 + (n % 2), (nmB s), [], (((n.tdiv 2) % 4294967296)).toNat, (((n.tdiv 7) % 4294967296)).toNat, [], ((n.tdiv 11) % 6), ((n.tdiv 13) % 1000), ((n.tdiv 17) % 1099511627776)⟩ ⟨zN, zN⟩)) (by unfold execOp; simp only [List.map_toArray, List.map_cons, List.map_nil, (F25.get (t := 10) rfl), (F25.get (t := 12) rfl), (F25.get (t := 16) rfl), (F25.get (t := 20) rfl), (F25.get (t := 23) rfl), (F25.get (t := 26) rfl), (F25.get (t := 29) rfl)]; kernel_rfl) fun _ F26 => ?_
 refine zn (za rfl) rfl F26 rfl M16 2 (t := 54) (c := recA ⟨0, "".toUTF8, [], 0, 0, [], 0, 0, 0⟩ ⟨zN, zN⟩) (by unfold execOp; kernel_rfl) ?_
 intro g27 a27 w27 F27 M27
 clear F26 M16
 refine zy (za rfl) rfl F27 M27 (k := 2) rfl _ _ _ rfl (F27.get rfl) (F27.get rfl) (recA ⟨1 + (n % 2), (nmB s), [], (((n.tdiv 2) % 4294967296)).toNat, (((n.tdiv 7) % 4294967296)).toNat, [], ((n.tdiv 11) % 6), ((n.tdiv 13) % 1000), ((n.tdiv 17) % 1099511627776)⟩ ⟨zN, zN⟩) (recA ⟨1 + (n % 2), (nmB s), [], (((n.tdiv 2) % 4294967296)).toNat, (((n.tdiv 7) % 4294967296)).toNat, [], ((n.tdiv 11) % 6), ((n.tdiv 13) % 1000), ((n.tdiv 17) % 1099511627776)⟩ ⟨zN, zN⟩) rfl (Nat.le_of_ble_eq_true rfl) (recA_one (w := w27) ⟨(zq _), (zq _)⟩) (zga rfl) (by kernel_rfl) ?_
 intro w28 M28
 clear M27
 refine hK3 _ _ (zS fun _ hK29 => ?_)
 refine zhb F27 [fun vE => vE = .pointer (some ⟨g27, 2, none⟩), fun vE => vE = zN, fun vE => vE = v, fun vE => vE = .int .i64 n, fun vE => vE = v, fun vE => vE = .int .i64 (b.length : Int), fun vE => vE = .int .i64 ((min b.length 16 : Nat) : Int), fun vE => vE = .int .i64 ((min b.length 16 + 1 : Nat) : Int), fun vE => vE = .int .i64 (K2 : Int), fun _ => True] (JM none w fun SV pV => [(0, bytR b v), (1, blkR g2 54 (recA ⟨0, "".toUTF8, [], 0, 0, [], 0, 0, 0⟩ ⟨zN, zN⟩)), (2, blkR g27 54 (recA ⟨1 + (n % 2), (nmB s), [], (((n.tdiv 2) % 4294967296)).toNat, (((n.tdiv 7) % 4294967296)).toNat, [], ((n.tdiv 11) % 6), ((n.tdiv 13) % 1000), ((n.tdiv 17) % 1099511627776)⟩ ⟨zN, zN⟩)), (3, condR (SV 9) (bytR (b.take K2) (pV 9)))]) 10 rfl (by kernel_rfl) rfl ⟨trivial, trivial, trivial, trivial, trivial, trivial, trivial, trivial, trivial, trivial, trivial⟩ (fun p => ((M28.step (zra _)).triv 3).sub ⟨rfl, rfl, rfl, rfl, trivial⟩) ⟨?_, ?_, ?_, ?_, ?_, ?_, ?_, ?_, ?_, ?_, trivial⟩ ?_
 ·intro ua uw SV pV M0 hk hn hd
  have M : Mx none w uw _ := M0
  clear M0
  have e7 : ua.eval (.tmp 7) = .pointer (some ⟨g27, 0, none⟩) := (show ua.eval (.tmp 7) = _ from hd 7 (by decide)).trans (F27.get (t := 7) rfl)
  exact zl (za rfl) (.pointer (some ⟨g27, 2, none⟩)) (y_fa (off := 2) rfl e7 (by kernel_rfl) rfl) rfl (M.sub ⟨rfl, rfl, rfl, rfl, trivial⟩)
 ·intro ua uw SV pV M0 hk hn hd
  have M : Mx none w uw _ := M0
  clear M0
  obtain ⟨s0, f31, q31⟩ := (show SV 0 = true ∧ ua.eval (.tmp 31) = pV 0 ∧ stE _ 0 (pV 0) from hd 31 (by decide))
  have e31 : ua.eval (.tmp 31) = .pointer (some ⟨g27, 2, none⟩) := f31.trans q31
  exact zl (za rfl) (zN) (y_ld1 _ _ rfl e31 (M.blk (k := 2) rfl) rfl Try.underlying22 rfl) rfl (M.sub ⟨rfl, rfl, rfl, rfl, trivial⟩)
 ·intro ua uw SV pV M0 hk hn hd
  have M : Mx none w uw _ := M0
  clear M0
  have e2 : ua.eval (.tmp 2) = v := (show ua.eval (.tmp 2) = _ from hd 2 (by decide)).trans (F27.get (t := 2) rfl)
  exact zl (za rfl) (v) (zta _ (.inl rfl) e2) rfl (M.sub ⟨rfl, rfl, rfl, rfl, trivial⟩)
 ·intro ua uw SV pV M0 hk hn hd
  have M : Mx none w uw _ := M0
  clear M0
  have e0 : ua.eval (.tmp 0) = .int .i64 n := (show ua.eval (.tmp 0) = _ from hd 0 (by decide)).trans (F27.get (t := 0) rfl)
  exact zl (za rfl) (.int .i64 n) (zta _ (.inl rfl) e0) rfl (M.sub ⟨rfl, rfl, rfl, rfl, trivial⟩)
 ·intro ua uw SV pV M0 hk hn hd
  have M : Mx none w uw _ := M0
  clear M0
  have e2 : ua.eval (.tmp 2) = v := (show ua.eval (.tmp 2) = _ from hd 2 (by decide)).trans (F27.get (t := 2) rfl)
  exact zl (za rfl) (v) (zta _ (.inl rfl) e2) rfl (M.sub ⟨rfl, rfl, rfl, rfl, trivial⟩)
 ·intro ua uw SV pV M0 hk hn hd
  have M : Mx none w uw _ := M0
  clear M0
  obtain ⟨s4, f35, q35⟩ := (show SV 4 = true ∧ ua.eval (.tmp 35) = pV 4 ∧ stE _ 4 (pV 4) from hd 35 (by decide))
  have e35 : ua.eval (.tmp 35) = v := f35.trans q35
  exact zl (za rfl) (.int .i64 (b.length : Int)) (z0 _ rfl e35 (M.isb (k := 0) rfl) rfl) rfl (M.sub ⟨rfl, rfl, rfl, rfl, trivial⟩)
 ·intro ua uw SV pV M0 hk hn hd
  have M : Mx none w uw _ := M0
  clear M0
  obtain ⟨s5, f36, q36⟩ := (show SV 5 = true ∧ ua.eval (.tmp 36) = pV 5 ∧ stE _ 5 (pV 5) from hd 36 (by decide))
  have e36 : ua.eval (.tmp 36) = .int .i64 (b.length : Int) := f36.trans q36
  exact zl (za rfl) (.int .i64 ((min b.length 16 : Nat) : Int)) (y_min _ _ rfl e36 rfl (by split <;> omega)) rfl (M.sub ⟨rfl, rfl, rfl, rfl, trivial⟩)
 ·intro ua uw SV pV M0 hk hn hd
  have M : Mx none w uw _ := M0
  clear M0
  obtain ⟨s6, f37, q37⟩ := (show SV 6 = true ∧ ua.eval (.tmp 37) = pV 6 ∧ stE _ 6 (pV 6) from hd 37 (by decide))
  have e37 : ua.eval (.tmp 37) = .int .i64 ((min b.length 16 : Nat) : Int) := f37.trans q37
  exact zl (za rfl) (.int .i64 ((min b.length 16 + 1 : Nat) : Int)) (y_addI _ _ _ _ rfl e37 rfl (by omega) (by omega)) rfl (M.sub ⟨rfl, rfl, rfl, rfl, trivial⟩)
 ·intro ua uw SV pV M0 hk hn hd
  have M : Mx none w uw _ := M0
  clear M0
  obtain ⟨s3, f34, q34⟩ := (show SV 3 = true ∧ ua.eval (.tmp 34) = pV 3 ∧ stE _ 3 (pV 3) from hd 34 (by decide))
  have e34 : ua.eval (.tmp 34) = .int .i64 n := f34.trans q34
  obtain ⟨s7, f38, q38⟩ := (show SV 7 = true ∧ ua.eval (.tmp 38) = pV 7 ∧ stE _ 7 (pV 7) from hd 38 (by decide))
  have e38 : ua.eval (.tmp 38) = .int .i64 ((min b.length 16 + 1 : Nat) : Int) := f38.trans q38
  exact hopM_call (za rfl) rfl #[.int .i64 n, .int .i64 ((min b.length 16 + 1 : Nat) : Int)] (zla e34 e38) (enters_of Try.func22 (by kernel_rfl) rfl) (((same_eq ((hK2 ▸ z7 n ((min b.length 16 + 1 : Nat) : Int) (by omega) (by omega) hN.1 hN.2 uw)))).mono fun e w2 h => ⟨_, h.1, rfl, (M.step h.2).sub ⟨rfl, rfl, rfl, rfl, trivial⟩⟩)
 ·intro ua uw SV pV M0 hk hn hd
  have M : Mx none w uw _ := M0
  clear M0
  obtain ⟨s2, f33, q33⟩ := (show SV 2 = true ∧ ua.eval (.tmp 33) = pV 2 ∧ stE _ 2 (pV 2) from hd 33 (by decide))
  have e33 : ua.eval (.tmp 33) = v := f33.trans q33
  obtain ⟨s8, f39, q39⟩ := (show SV 8 = true ∧ ua.eval (.tmp 39) = pV 8 ∧ stE _ 8 (pV 8) from hd 39 (by decide))
  have e39 : ua.eval (.tmp 39) = .int .i64 (K2 : Int) := f39.trans q39
  exact hopM_exE (za rfl) (y_slTo _ _ rfl e33 (M.isb (k := 0) rfl) e39 (j := K2) rfl hK2b) fun v h => ⟨trivial, (M.partB 3 (k := 0) rfl h.1 h.2).sub ⟨rfl, rfl, rfl, rfl, trivial⟩⟩
 intro p30 a30 w30 M30 G30 y30
 obtain ⟨-, q1, -, -, -, -, -, -, -, q9, -⟩ := y30
 have r1 : p30 1 = zN := q1
 replace M30 : Mx _ _ w30 [(0, bytR b v), (1, blkR g2 54 (recA ⟨0, "".toUTF8, [], 0, 0, [], 0, 0, 0⟩ ⟨zN, zN⟩)), (2, blkR g27 54 (recA ⟨1 + (n % 2), (nmB s), [], (((n.tdiv 2) % 4294967296)).toNat, (((n.tdiv 7) % 4294967296)).toNat, [], ((n.tdiv 11) % 6), ((n.tdiv 13) % 1000), ((n.tdiv 17) % 1099511627776)⟩ ⟨zN, zN⟩)), (3, condR true (bytR (b.take K2) (p30 9)))] := M30
 simp only [List.take_succ_cons, List.take_zero, layV, Nat.zero_add, Nat.reduceAdd, r1] at G30
 obtain ⟨Ap30_3, cp30_3, hp30_3⟩ := (M30.isb (k := 3) rfl).shape
 rw [hp30_3] at M30
 try rw [hp30_3] at G30
 have M31 := M30.nilO 4
 clear M30
 refine z5 (za rfl) rfl G30 rfl (zna M31 (k := 4) rfl _ _ rfl (G30.get rfl) (G30.get rfl) (M31.isb (k := 3) rfl) (by simp only [List.length_nil, List.length_take]; omega)) ?_
 intro v32 a32 w32 F32 M32
 clear G30 M31
 obtain ⟨A32, c32, rfl⟩ := (M32.isO (k := 4) rfl).shape
 refine rn rfl rfl F32 rfl (.pointer (some ⟨g27, 2, none⟩)) (y_fa (off := 2) rfl (F32.get rfl) (by kernel_rfl) rfl) fun _ F33 => ?_
 refine zy (za rfl) rfl F33 M32 (k := 2) rfl _ _ _ rfl (F33.get rfl) (F33.get rfl) (#[.slice A32 (([] ++ (b.take K2))).length c32]) (recA ⟨1 + (n % 2), (nmB s), ([] ++ (b.take K2)), (((n.tdiv 2) % 4294967296)).toNat, (((n.tdiv 7) % 4294967296)).toNat, [], ((n.tdiv 11) % 6), ((n.tdiv 13) % 1000), ((n.tdiv 17) % 1099511627776)⟩ ⟨.slice A32 (([] ++ (b.take K2))).length c32, zN⟩) rfl (Nat.le_of_ble_eq_true rfl) (one_slcB (M32.isO (k := 4) rfl)) (by kernel_rfl) (by kernel_rfl) ?_
 intro w34 M34
 clear M32
 refine hK29 _ _ (zS fun _ hK35 => ?_)
 refine zhb F33 [fun vE => vE = .pointer (some ⟨g27, 19, none⟩), fun vE => vE = zN, fun vE => vE = v, fun vE => vE = .int .i64 n, fun vE => vE = .int .i64 (n.tdiv 3), fun vE => vE = v, fun vE => vE = .int .i64 (b.length : Int), fun vE => vE = .int .i64 ((min b.length 48 : Nat) : Int), fun vE => vE = .int .i64 ((min b.length 48 + 1 : Nat) : Int), fun vE => vE = .int .i64 (K5 : Int), fun _ => True] (JM none w fun SV pV => [(0, bytR b v), (1, blkR g2 54 (recA ⟨0, "".toUTF8, [], 0, 0, [], 0, 0, 0⟩ ⟨zN, zN⟩)), (2, blkR g27 54 (recA ⟨1 + (n % 2), (nmB s), ([] ++ (b.take K2)), (((n.tdiv 2) % 4294967296)).toNat, (((n.tdiv 7) % 4294967296)).toNat, [], ((n.tdiv 11) % 6), ((n.tdiv 13) % 1000), ((n.tdiv 17) % 1099511627776)⟩ ⟨.slice A32 (([] ++ (b.take K2))).length c32, zN⟩)), (3, bytR (b.take K2) (.slice Ap30_3 ((b.take K2)).length cp30_3)), (4, ownR ([] ++ (b.take K2)) (.slice A32 (([] ++ (b.take K2))).length c32)), (5, condR (SV 10) (bytR (b.take K5) (pV 10)))]) 11 rfl (by kernel_rfl) rfl ⟨trivial, trivial, trivial, trivial, trivial, trivial, trivial, trivial, trivial, trivial, trivial, trivial⟩ (fun p => ((M34.step (zra _)).triv 5).sub ⟨rfl, rfl, rfl, rfl, rfl, rfl, trivial⟩) ⟨?_, ?_, ?_, ?_, ?_, ?_, ?_, ?_, ?_, ?_, ?_, trivial⟩ ?_
 ·intro ua uw SV pV M0 hk hn hd
  have M : Mx none w uw _ := M0
  clear M0
  have e7 : ua.eval (.tmp 7) = .pointer (some ⟨g27, 0, none⟩) := (show ua.eval (.tmp 7) = _ from hd 7 (by decide)).trans (F33.get (t := 7) rfl)
  exact zl (za rfl) (.pointer (some ⟨g27, 19, none⟩)) (y_fa (off := 19) rfl e7 (by kernel_rfl) rfl) rfl (M.sub ⟨rfl, rfl, rfl, rfl, rfl, rfl, trivial⟩)
 ·intro ua uw SV pV M0 hk hn hd
  have M : Mx none w uw _ := M0
  clear M0
  obtain ⟨s0, f43, q43⟩ := (show SV 0 = true ∧ ua.eval (.tmp 43) = pV 0 ∧ stE _ 0 (pV 0) from hd 43 (by decide))
  have e43 : ua.eval (.tmp 43) = .pointer (some ⟨g27, 19, none⟩) := f43.trans q43
  exact zl (za rfl) (zN) (y_ld1 _ _ rfl e43 (M.blk (k := 2) rfl) rfl Try.underlying22 rfl) rfl (M.sub ⟨rfl, rfl, rfl, rfl, rfl, rfl, trivial⟩)
 ·intro ua uw SV pV M0 hk hn hd
  have M : Mx none w uw _ := M0
  clear M0
  have e2 : ua.eval (.tmp 2) = v := (show ua.eval (.tmp 2) = _ from hd 2 (by decide)).trans (F33.get (t := 2) rfl)
  exact zl (za rfl) (v) (zta _ (.inl rfl) e2) rfl (M.sub ⟨rfl, rfl, rfl, rfl, rfl, rfl, trivial⟩)
 ·intro ua uw SV pV M0 hk hn hd
  have M : Mx none w uw _ := M0
  clear M0
  have e0 : ua.eval (.tmp 0) = .int .i64 n := (show ua.eval (.tmp 0) = _ from hd 0 (by decide)).trans (F33.get (t := 0) rfl)
  exact zl (za rfl) (.int .i64 n) (zta _ (.inl rfl) e0) rfl (M.sub ⟨rfl, rfl, rfl, rfl, rfl, rfl, trivial⟩)
 ·intro ua uw SV pV M0 hk hn hd
  have M : Mx none w uw _ := M0
  clear M0
  obtain ⟨s3, f46, q46⟩ := (show SV 3 = true ∧ ua.eval (.tmp 46) = pV 3 ∧ stE _ 3 (pV 3) from hd 46 (by decide))
  have e46 : ua.eval (.tmp 46) = .int .i64 n := f46.trans q46
  exact zl (za rfl) (.int .i64 (n.tdiv 3)) (y_quoT _ _ _ _ rfl e46 rfl hN (by decide) rfl) rfl (M.sub ⟨rfl, rfl, rfl, rfl, rfl, rfl, trivial⟩)
 ·intro ua uw SV pV M0 hk hn hd
  have M : Mx none w uw _ := M0
  clear M0
  have e2 : ua.eval (.tmp 2) = v := (show ua.eval (.tmp 2) = _ from hd 2 (by decide)).trans (F33.get (t := 2) rfl)
  exact zl (za rfl) (v) (zta _ (.inl rfl) e2) rfl (M.sub ⟨rfl, rfl, rfl, rfl, rfl, rfl, trivial⟩)
 ·intro ua uw SV pV M0 hk hn hd
  have M : Mx none w uw _ := M0
  clear M0
  obtain ⟨s5, f48, q48⟩ := (show SV 5 = true ∧ ua.eval (.tmp 48) = pV 5 ∧ stE _ 5 (pV 5) from hd 48 (by decide))
  have e48 : ua.eval (.tmp 48) = v := f48.trans q48
  exact zl (za rfl) (.int .i64 (b.length : Int)) (z0 _ rfl e48 (M.isb (k := 0) rfl) rfl) rfl (M.sub ⟨rfl, rfl, rfl, rfl, rfl, rfl, trivial⟩)
 ·intro ua uw SV pV M0 hk hn hd
  have M : Mx none w uw _ := M0
  clear M0
  obtain ⟨s6, f49, q49⟩ := (show SV 6 = true ∧ ua.eval (.tmp 49) = pV 6 ∧ stE _ 6 (pV 6) from hd 49 (by decide))
  have e49 : ua.eval (.tmp 49) = .int .i64 (b.length : Int) := f49.trans q49
  exact zl (za rfl) (.int .i64 ((min b.length 48 : Nat) : Int)) (y_min _ _ rfl e49 rfl (by split <;> omega)) rfl (M.sub ⟨rfl, rfl, rfl, rfl, rfl, rfl, trivial⟩)
 ·intro ua uw SV pV M0 hk hn hd
  have M : Mx none w uw _ := M0
  clear M0
  obtain ⟨s7, f50, q50⟩ := (show SV 7 = true ∧ ua.eval (.tmp 50) = pV 7 ∧ stE _ 7 (pV 7) from hd 50 (by decide))
  have e50 : ua.eval (.tmp 50) = .int .i64 ((min b.length 48 : Nat) : Int) := f50.trans q50
  exact zl (za rfl) (.int .i64 ((min b.length 48 + 1 : Nat) : Int)) (y_addI _ _ _ _ rfl e50 rfl (by omega) (by omega)) rfl (M.sub ⟨rfl, rfl, rfl, rfl, rfl, rfl, trivial⟩)
 ·intro ua uw SV pV M0 hk hn hd
  have M : Mx none w uw _ := M0
  clear M0
  obtain ⟨s4, f47, q47⟩ := (show SV 4 = true ∧ ua.eval (.tmp 47) = pV 4 ∧ stE _ 4 (pV 4) from hd 47 (by decide))
  have e47 : ua.eval (.tmp 47) = .int .i64 (n.tdiv 3) := f47.trans q47
  obtain ⟨s8, f51, q51⟩ := (show SV 8 = true ∧ ua.eval (.tmp 51) = pV 8 ∧ stE _ 8 (pV 8) from hd 51 (by decide))
  have e51 : ua.eval (.tmp 51) = .int .i64 ((min b.length 48 + 1 : Nat) : Int) := f51.trans q51
  exact hopM_call (za rfl) rfl #[.int .i64 (n.tdiv 3), .int .i64 ((min b.length 48 + 1 : Nat) : Int)] (zla e47 e51) (enters_of Try.func22 (by kernel_rfl) rfl) (((same_eq ((hK5 ▸ z7 (n.tdiv 3) ((min b.length 48 + 1 : Nat) : Int) (by omega) (by omega) (zbb hN (show (0 : Int) < 3 by decide)).1 (zbb hN (show (0 : Int) < 3 by decide)).2 uw)))).mono fun e w2 h => ⟨_, h.1, rfl, (M.step h.2).sub ⟨rfl, rfl, rfl, rfl, rfl, rfl, trivial⟩⟩)
 ·intro ua uw SV pV M0 hk hn hd
  have M : Mx none w uw _ := M0
  clear M0
  obtain ⟨s2, f45, q45⟩ := (show SV 2 = true ∧ ua.eval (.tmp 45) = pV 2 ∧ stE _ 2 (pV 2) from hd 45 (by decide))
  have e45 : ua.eval (.tmp 45) = v := f45.trans q45
  obtain ⟨s9, f52, q52⟩ := (show SV 9 = true ∧ ua.eval (.tmp 52) = pV 9 ∧ stE _ 9 (pV 9) from hd 52 (by decide))
  have e52 : ua.eval (.tmp 52) = .int .i64 (K5 : Int) := f52.trans q52
  exact hopM_exE (za rfl) (y_slTo _ _ rfl e45 (M.isb (k := 0) rfl) e52 (j := K5) rfl hK5b) fun v h => ⟨trivial, (M.partB 5 (k := 0) rfl h.1 h.2).sub ⟨rfl, rfl, rfl, rfl, rfl, rfl, trivial⟩⟩
 intro p36 a36 w36 M36 G36 y36
 obtain ⟨-, q1, -, -, -, -, -, -, -, -, q10, -⟩ := y36
 have r1 : p36 1 = zN := q1
 replace M36 : Mx _ _ w36 [(0, bytR b v), (1, blkR g2 54 (recA ⟨0, "".toUTF8, [], 0, 0, [], 0, 0, 0⟩ ⟨zN, zN⟩)), (2, blkR g27 54 (recA ⟨1 + (n % 2), (nmB s), ([] ++ (b.take K2)), (((n.tdiv 2) % 4294967296)).toNat, (((n.tdiv 7) % 4294967296)).toNat, [], ((n.tdiv 11) % 6), ((n.tdiv 13) % 1000), ((n.tdiv 17) % 1099511627776)⟩ ⟨.slice A32 (([] ++ (b.take K2))).length c32, zN⟩)), (3, bytR (b.take K2) (.slice Ap30_3 ((b.take K2)).length cp30_3)), (4, ownR ([] ++ (b.take K2)) (.slice A32 (([] ++ (b.take K2))).length c32)), (5, condR true (bytR (b.take K5) (p36 10)))] := M36
 simp only [List.take_succ_cons, List.take_zero, layV, Nat.zero_add, Nat.reduceAdd, r1] at G36
 obtain ⟨Ap36_5, cp36_5, hp36_5⟩ := (M36.isb (k := 5) rfl).shape
 rw [hp36_5] at M36
 try rw [hp36_5] at G36
 have M37 := M36.nilO 6
 clear M36
 refine z5 (za rfl) rfl G36 rfl (zna M37 (k := 6) rfl _ _ rfl (G36.get rfl) (G36.get rfl) (M37.isb (k := 5) rfl) (by simp only [List.length_nil, List.length_take]; omega)) ?_
 intro v38 a38 w38 F38 M38
 clear G36 M37
 obtain ⟨A38, c38, rfl⟩ := (M38.isO (k := 6) rfl).shape
 refine rn rfl rfl F38 rfl (.pointer (some ⟨g27, 19, none⟩)) (y_fa (off := 19) rfl (F38.get rfl) (by kernel_rfl) rfl) fun _ F39 => ?_
 refine zy (za rfl) rfl F39 M38 (k := 2) rfl _ _ _ rfl (F39.get rfl) (F39.get rfl) (#[.slice A38 (([] ++ (b.take K5))).length c38]) (recA ⟨1 + (n % 2), (nmB s), ([] ++ (b.take K2)), (((n.tdiv 2) % 4294967296)).toNat, (((n.tdiv 7) % 4294967296)).toNat, ([] ++ (b.take K5)), ((n.tdiv 11) % 6), ((n.tdiv 13) % 1000), ((n.tdiv 17) % 1099511627776)⟩ ⟨.slice A32 (([] ++ (b.take K2))).length c32, .slice A38 (([] ++ (b.take K5))).length c38⟩) rfl (Nat.le_of_ble_eq_true rfl) (one_slcB (M38.isO (k := 6) rfl)) (by kernel_rfl) (by kernel_rfl) ?_
 intro w40 M40
 clear M38
 refine hK35 _ _ (zS fun _ hK41 => ?_)
 refine zR ?_
 refine rn rfl rfl F39 rfl (.agg (recA ⟨1 + (n % 2), (nmB s), ([] ++ (b.take K2)), (((n.tdiv 2) % 4294967296)).toNat, (((n.tdiv 7) % 4294967296)).toNat, ([] ++ (b.take K5)), ((n.tdiv 11) % 6), ((n.tdiv 13) % 1000), ((n.tdiv 17) % 1099511627776)⟩ ⟨.slice A32 (([] ++ (b.take K2))).length c32, .slice A38 (([] ++ (b.take K5))).length c38⟩)) (zwa _ _ rfl (F39.get rfl) (M40.blk (k := 2) rfl) (recA ⟨1 + (n % 2), (nmB s), ([] ++ (b.take K2)), (((n.tdiv 2) % 4294967296)).toNat, (((n.tdiv 7) % 4294967296)).toNat, ([] ++ (b.take K5)), ((n.tdiv 11) % 6), ((n.tdiv 13) % 1000), ((n.tdiv 17) % 1099511627776)⟩ ⟨.slice A32 (([] ++ (b.take K2))).length c32, .slice A38 (([] ++ (b.take K5))).length c38⟩) (y_all rfl) Try.underlying54 rfl (by kernel_rfl)) fun _ F42 => ?_
 refine zy (za rfl) rfl F42 M40 (k := 1) rfl _ _ _ rfl (F42.get rfl) (F42.get rfl) (recA ⟨1 + (n % 2), (nmB s), ([] ++ (b.take K2)), (((n.tdiv 2) % 4294967296)).toNat, (((n.tdiv 7) % 4294967296)).toNat, ([] ++ (b.take K5)), ((n.tdiv 11) % 6), ((n.tdiv 13) % 1000), ((n.tdiv 17) % 1099511627776)⟩ ⟨.slice A32 (([] ++ (b.take K2))).length c32, .slice A38 (([] ++ (b.take K5))).length c38⟩) (recA ⟨1 + (n % 2), (nmB s), ([] ++ (b.take K2)), (((n.tdiv 2) % 4294967296)).toNat, (((n.tdiv 7) % 4294967296)).toNat, ([] ++ (b.take K5)), ((n.tdiv 11) % 6), ((n.tdiv 13) % 1000), ((n.tdiv 17) % 1099511627776)⟩ ⟨.slice A32 (([] ++ (b.take K2))).length c32, .slice A38 (([] ++ (b.take K5))).length c38⟩) rfl (Nat.le_of_ble_eq_true rfl) (recA_one (w := w40) ⟨(M40.isO (k := 4) rfl), (M40.isO (k := 6) rfl)⟩) (zga rfl) (by kernel_rfl) ?_
 intro w43 M43
 clear M40
 refine hK41 _ _ (wp_ret ?_)
 try simp only [Exit.then, Exit.inBlock, Exit.jump]
 exact bodyPost_ret (results_cell_row rfl _ _ _ _ _ (0, 0) _ (F42.get (t := 6) rfl) (M43.blk (k := 1) rfl) Try.underlying54 rfl (by kernel_rfl)) F42.defers ⟨_, rfl, ⟨.slice A32 (([] ++ (b.take K2))).length c32, .slice A38 (([] ++ (b.take K5))).length c38⟩, (by rw [(show mkR n s b = (⟨1 + (n % 2), (nmB s), ((b.take K2)), (((n.tdiv 2) % 4294967296)).toNat, (((n.tdiv 7) % 4294967296)).toNat, ((b.take K5)), ((n.tdiv 11) % 6), ((n.tdiv 13) % 1000), ((n.tdiv 17) % 1099511627776)⟩ : RecN) from by unfold mkR; rw [hK2, hK5]; rfl)]; rfl), (by rw [(show mkR n s b = (⟨1 + (n % 2), (nmB s), ((b.take K2)), (((n.tdiv 2) % 4294967296)).toNat, (((n.tdiv 7) % 4294967296)).toNat, ((b.take K5)), ((n.tdiv 11) % 6), ((n.tdiv 13) % 1000), ((n.tdiv 17) % 1099511627776)⟩ : RecN) from by unfold mkR; rw [hK2, hK5]; rfl)]; exact ⟨M43.isO (k := 4) rfl, M43.isO (k := 6) rfl⟩), (fun g h => h.elim (fun h => M43.owns (k := 4) rfl g (zab h)) (fun h => M43.owns (k := 6) rfl g (zab h))), M43.below⟩
end Go.Proofs.Ytlbkogdmojlpmaa
namespace Go.Proofs.Ytlbkogdmojlpmaa
open Go.ChangeShapes Go.WideShapes Go.ChangeAt Go.RowKit
theorem enc_is (m : MsgN) (V : MsgV) (ho : MsgOk m) (hs : m.s.size ≤ 1000) (ok : Bool) (l : List UInt8) (h1 : encOk m = ok) (h2 : encL m = l) (w : World) (hm : MsgIs w m V) : Calls Try.prog 17 #[.agg (msgA m V)] w fun e w' => ∃ t, e = .returned t ∧ ∃ v, t = .tuple #[v, .bool ok] ∧ Byt w' w.heap.size v l ∧ Below w.heap.size w w' := by
  subst h1 h2; exact encode_ex m V ho hs w hm
theorem rec_is (r : RecN) (V : RecV) (ho : RecOk r) (ok : Bool) (l : List UInt8) (h1 : zx r = ok) (h2 : recE r = l) (w : World) (hm : RecIs w r V) : Calls Try.prog 35 #[.agg (recA r V)] w fun e w' => ∃ t, e = .returned t ∧ ∃ v, t = .tuple #[v, .bool ok] ∧ Byt w' w.heap.size v l ∧ Below w.heap.size w w' := by
  subst h1 h2; exact record_ex r V ho w hm
theorem rrec_is (r : RecN) (V : RecV) (ho : RecOk r) (ok : Bool) (l : List UInt8) (h1 : zx r = ok) (h2 : recE r = l) (w : World) (hm : RecIs w r V) : Calls Try.prog 36 #[.agg (recA r V)] w fun e w' => ∃ t, e = .returned t ∧ ∃ v, t = .tuple #[v, .bool ok] ∧ Byt w' w.heap.size v l ∧ Below w.heap.size w w' := by
  subst h1 h2; exact rrecord_ex r V ho w hm
theorem rd_is (b : List UInt8) (bv : Value) (hl : b.length ≤ 100000) (ok : Bool) (r : RecN) (h1 : rdOk b = ok) (h2 : rdR b = r) (w : World) (hb : IsB w b bv) : Calls Try.prog 37 #[bv] w fun e w' => ∃ t, e = .returned t ∧ ∃ V, t = .tuple #[.agg (recA r V), .bool ok] ∧ RecIs w' r V ∧ (∀ q, bfp V.v2 q ∨ bfp V.v5 q → w.heap.size ≤ q) ∧ Below w.heap.size w w' := by
  subst h1 h2; exact (readrec_any b bv hl w hb).mono fun e w' ⟨V, k1, k2, k3, k4⟩ => ⟨_, k1, V, rfl, k2, k3, k4⟩
theorem maker_is (n : Int) (s : ByteArray) (b : List UInt8) (v : Value) (hN : -9223372036854775808 ≤ n ∧ n < 9223372036854775808) (hs : s.size ≤ 40) (hbl : b.length ≤ 1000) (r : RecN) (hr : mkR n s b = r) (w : World) (hv : IsB w b v) : Calls Try.prog 34 #[.int .i64 n, .string s, v] w fun e w' => ∃ t, e = .returned t ∧ ∃ V, t = .agg (recA r V) ∧ RecIs w' r V ∧ (∀ g, bfp V.v2 g ∨ bfp V.v5 g → w.heap.size ≤ g) ∧ Below w.heap.size w w' := by
  subst hr; exact make_rec n s b v hN hs hbl w hv
section
variable {G : Option Nat} {w0 w : World} {R : List (Nat × Res)}
theorem Mx.nilT (M : Mx G w0 w R) (i : Nat) : Mx G w0 w ((i, tlR [] (zN)) :: R) :=
  M.cons i _ (show Tl w (zN) [] from .inl ⟨rfl, rfl⟩) tlR_dep (fun g hg => by cases hg) (fun _ g hg => by cases hg) fun _ _ _ _ _ g hg => by cases hg
theorem Mx.newRec {w' : World} (M : Mx G w0 w R) (h : Below w.heap.size w w') {r : RecN} {V : RecV} (hm : RecIs w' r V) (hlo : ∀ q, bfp V.v2 q ∨ bfp V.v5 q → w.heap.size ≤ q) (a b : Nat) : Mx G w0 w' ((b, bytR r.l5 V.v5) :: (a, bytR r.l2 V.v2) :: R) := by
  obtain ⟨M1, n1⟩ := (M.step h).roB2 (N := w.heap.size) (fun k s e _ g hg => M.lt k s e g hg) a hm.h2 (fun g hg => hlo g (.inl hg))
  exact (M1.roB2 n1 b hm.h5 (fun g hg => hlo g (.inr hg))).1
theorem next_is (M0 : Mx G w0 w R) (k q g : Nat) (l : List UInt8) (u : Value) (n : Int) (b : Bool) (hk : look R k = some (blkR g 94 #[u, .int .i64 n, .bool b])) (hq : look R q = some (tlR l u)) (hne : k ≠ q) (hl : l.length ≤ 1000000) (k5 k6 k7 k8 k9 : Nat) (m : MsgN) (ok bad : Bool) (l2 : List UInt8) (h1 : nxM l = m) (h2 : nxOk l = ok) (h3 : (b || nxBad l) = bad) (h4 : nxL l = l2) :
    Calls Try.prog 30 #[.pointer (some ⟨g, 0, none⟩)] w fun e w' => ∃ t, e = .returned t ∧ ∃ u' V, Mx G w0 w' ((k9, bytR m.l9 V.v9) :: (k8, bytR m.l8 V.v8) :: (k7, bytR m.l7 V.v7) :: (k6, bytR m.l6 V.v6) :: (k5, bytR m.l5 V.v5) :: (k, blkR g 94 #[u', .int .i64 n, .bool bad]) :: (q, tlR l2 u') :: R) ∧ t = .tuple #[.agg (msgA m V), .bool ok] := by
  subst h1 h2 h3 h4; exact next_any M0 k q g l u n b hk hq hne hl k5 k6 k7 k8 k9
end
end Go.Proofs.Ytlbkogdmojlpmaa
namespace Go.Proofs.Ytlbkogdmojlpmaa
open Go.ChangeShapes Go.WideShapes Go.ChangeAt Go.RowKit
def m7 : MsgN := ⟨7, 0, 0, 0, "".toUTF8, 0, 0, [], [], [], [], []⟩
def rA : RecN := ⟨1, ⟨#[97]⟩, [], 0, 0, [], 0, 0, 0⟩
theorem m7_ok : MsgOk m7 := ⟨by decide, by decide, by decide, by decide, by decide, by decide, by decide⟩
theorem rA_ok : RecOk rA := ⟨by decide, by decide, by decide, by decide, by decide, by decide, by decide⟩
theorem m7_right : zua m7 = true := by
  unfold zua
  rw [show wantOk m7.k m7.p = true from rfl, show decide (hasB m7 = wantN m7.k m7.p) = true from by decide]
  unfold zo
  rw [show nilB m7.s = true from decide_eq_true rfl, show topI m7.a 8 = 0 from topI_none 8, show topI m7.b 8 = 0 from topI_none 8]
  simp [m7]
theorem enc7 : encOk m7 = true ∧ encL m7 = [0, 1, 7] := by
  have h : encOk m7 = true := by
    unfold encOk
    rw [m7_right]
    decide
  exact ⟨h, by rw [encL_ok h]; decide⟩
theorem rA_name : NameOk rA.s := by
  refine ⟨by decide, by decide, fun i h => ?_⟩
  have : i = 0 := by have h1 : rA.s.size = 1 := rfl; omega
  subst this
  exact (show (33 : Int) ≤ ((97 : UInt8).toNat : Int) ∧ ((97 : UInt8).toNat : Int) ≤ 126 by decide)
theorem rA_keep : zx rA = true := by
  unfold zx
  rw [show nameB rA.s = true from @decide_eq_true _ (Classical.propDecidable _) rA_name, show topI rA.a 8 = 0 from topI_none 8, show topI rA.b 8 = 0 from topI_none 8]
  decide
theorem known_1 : wrN true 0 (([0, 1, 7] : List UInt8).take 1) = 1 ∧ nxM (([0, 1, 7] : List UInt8).take 1) = mZero ∧ nxOk (([0, 1, 7] : List UInt8).take 1) = false ∧ (false || nxBad (([0, 1, 7] : List UInt8).take 1)) = false ∧ nxL (([0, 1, 7] : List UInt8).take 1) = ([0, 1, 7] : List UInt8).take 1 := by
  obtain ⟨h1, h2⟩ := nx_short (l := ([0, 1, 7] : List UInt8).take 1) (by decide)
  refine ⟨rfl, by rw [nxM, h1]; rfl, h1, by rw [h2]; rfl, by rw [nxL, h1, h2]; rfl⟩
theorem known_2 : wrL true (([0, 1, 7] : List UInt8).take 1) (([0, 1, 7] : List UInt8).drop 1) = [0, 1, 7] ∧ wrN true 1 (([0, 1, 7] : List UInt8).drop 1) = 3 ∧ nxM ([0, 1, 7] : List UInt8) = m7 ∧ nxOk ([0, 1, 7] : List UInt8) = true ∧ (false || nxBad ([0, 1, 7] : List UInt8)) = false ∧ nxL ([0, 1, 7] : List UInt8) = [] := by
  obtain ⟨e1, e2⟩ := enc7
  obtain ⟨d1, d2⟩ := decOk_enc m7_ok e1
  rw [e2] at d1 d2
  have hF : nxF ([0, 1, 7] : List UInt8) = 1 := rfl
  have hT : ([0, 1, 7] : List UInt8).take (2 + nxF ([0, 1, 7] : List UInt8)) = [0, 1, 7] := rfl
  obtain ⟨h1, h2⟩ := nx_whole (l := ([0, 1, 7] : List UInt8)) (by decide) (by rw [hF]; decide) (by rw [hF]; decide)
  rw [hT, d1] at h1 h2
  exact ⟨rfl, rfl, by rw [nxM, h1, hT, d2]; rfl, h1, by rw [h2]; rfl, by rw [nxL, h1]; rfl⟩
theorem y_eqPN {a : Act} {w : World} {o : Oper} (ty tz : TypeId) (hu : Try.prog.underlying ty = some (.pointer (Try.prog.pointee ty))) (hgt : Try.prog.eqGuardType Try.prog.depth ty = false) (x : Operand) {p : Addr} (ho : o.op = .binOp .eql ty x (.const (.pointer none)) tz) (hx : a.eval x = .pointer (some p)) : (execOp a.eval o).run Try.prog w = .ok (.value (.bool false)) w :=
  y_eqV ty tz x _ ho hx (v := .pointer none) rfl (by simp [eqGuard, go_sem, hgt]) (by rw [run_eql_pointer_nil (h := hu)]; rfl)
theorem lknown_any  (w : World) :
  Calls Try.prog 15 #[] w fun e w' => e = .returned (.bool true) ∧ Below w.heap.size w w' := by
 obtain ⟨L, hL⟩ : ∃ L, L = ([0, 1, 7] : List UInt8) := ⟨_, rfl⟩
 obtain ⟨RB, hRB⟩ : ∃ l, recE rA = l := ⟨_, rfl⟩
 have hRl : RB.length ≤ 100000 := by rw [← hRB, show recE rA = recL rA from if_pos rA_keep]; decide
 have k1 := known_1
 have k2 := known_2
 have hL3 : L.length = 3 := by rw [hL]; rfl
 rw [← hL] at k1 k2
 obtain ⟨e1, e2⟩ := enc7
 rw [← hL] at e2
 obtain ⟨y1, y2⟩ := rd_rec rA_ok rA_keep
 rw [hRB] at y1 y2
 refine zf (args := []) 100 Try.func15 rfl rfl rfl ?_
 intro fa F
 have M := Mx.start w
 refine zT fun _ hK21 => ?_
 refine rm rfl F fun _ F22 => ?_
 refine hK21 _ _ (zS fun _ hK23 => ?_)
 refine zR ?_
 refine rn rfl rfl F22 rfl (.agg (msgA ⟨7, 0, 0, 0, "".toUTF8, 0, 0, [], [], [], [], []⟩ ⟨zN, zN, zN, zN, zN⟩)) (by unfold execOp; simp only [List.map_toArray, List.map_cons, List.map_nil, ]; kernel_rfl) fun _ F24 => ?_
 refine ze (za rfl) rfl F24 rfl rfl (enters_of Try.func17 (by kernel_rfl) rfl) #[.agg (msgA ⟨7, 0, 0, 0, "".toUTF8, 0, 0, [], [], [], [], []⟩ ⟨zN, zN, zN, zN, zN⟩)] (zp (F24.get rfl)) (enc_is m7 vZero m7_ok (by decide) true L e1 e2 w ⟨zq _, zq _, zq _, zq _, zq _⟩) ?_
 rintro _ w25 a25 ⟨v25, rfl, hv25, b25⟩ F25
 have M25 := M.newO b25 0 hv25
 clear M b25 hv25
 obtain ⟨A25, c25, rfl⟩ := (M25.isO (k := 0) rfl).shape
 refine exS 5 [(0, .bool false), (1, .slice A25 (L).length c25), (2, .bool true)] [] dnil [] F25 (by kernel_rfl) fun _ F26 => ?_
 refine hK23 _ _ (zS fun _ hK27 => ?_)
 refine zR ?_
 refine ze (za rfl) rfl F26 rfl rfl (enters_of Try.func26 (by kernel_rfl) rfl) #[] (args0) (new_any w25) ?_
 rintro _ w28 a28 ⟨g28, rfl, hg28, hc28, b28⟩ F28
 have M28 := (M25.newb b28 1 hg28 hc28).nilT 2
 clear M25 b28 hg28 hc28
 refine rm rfl F28 fun _ F29 => ?_
 refine hK27 _ _ (zS fun _ hK30 => ?_)
 refine zT fun _ hK31 => ?_
 refine rm rfl F29 fun _ F32 => ?_
 refine rn rfl rfl F32 rfl (.bool false) (y_eqPN 46 _ Try.underlying46 (by kernel_rfl) _ rfl (F32.get rfl)) fun _ F33 => ?_
 refine hK31 _ _ (wp_cond_false (F33.get rfl) ?_)
 refine wp_skip ?_
 refine hK30 _ _ (zS fun _ hK34 => ?_)
 refine zR ?_
 refine rm rfl F33 fun _ F35 => ?_
 refine rm rfl F35 fun _ F36 => ?_
 refine rm rfl F36 fun _ F37 => ?_
 refine rn rfl rfl F37 rfl (.int .i64 3) (z0 _ rfl (F37.get rfl) (M28.isO (k := 0) rfl) (by rw [hL3]; rfl)) fun _ F38 => ?_
 refine rn rfl rfl F38 rfl (.int .i64 1) (y_min _ _ rfl rfl (F38.get rfl) (by decide)) fun _ F39 => ?_
 refine wl_runE (za rfl) rfl F39 rfl (y_slTo _ _ rfl (F39.get rfl) (M28.isO (k := 0) rfl) (F39.get rfl) (j := 1) rfl (by omega)) ?_
 intro v40 a40 h40 F40
 have og41 := M28.owns (k := 0) rfl
 have M41 := M28.tame (k := 0) rfl
 clear M28
 have M40 := M41.partB 3 (k := 0) rfl h40.1 h40.2
 clear M41
 obtain ⟨A40, c40, rfl⟩ := (M40.isb (k := 3) rfl).shape
 refine ze (za rfl) rfl F40 rfl rfl (enters_of Try.func28 (by kernel_rfl) rfl) #[.pointer (some ⟨g28, 0, none⟩), .slice A40 ((L.take 1)).length c40] (zla (F40.get rfl) (F40.get rfl)) (swrite_any M40 1 2 3 g28 [] (L.take 1) (zN) (.slice A40 ((L.take 1)).length c40) 0 false rfl rfl rfl (by decide) (by decide) (by simp only [List.length_nil, List.length_take]; omega) (by decide) true rfl) ?_
 rintro _ w42 a42 ⟨u42, N42, rfl⟩ F42
 rw [(show wrL true [] (L.take 1) = L.take 1 from rfl)] at N42
 rw [k1.1] at N42
 clear M40
 replace N42 : Mx _ _ _ ((1, blkR g28 94 #[u42, .int .i64 1, .bool false]) :: _) := N42
 refine hK34 _ _ (zS fun _ hK43 => ?_)
 refine zR ?_
 refine rm rfl F42 fun _ F44 => ?_
 refine ze (za rfl) rfl F44 rfl rfl (enters_of Try.func30 (by kernel_rfl) rfl) #[.pointer (some ⟨g28, 0, none⟩)] (zp (F44.get rfl)) (next_is N42 1 2 g28 (L.take 1) u42 1 false rfl rfl (by decide) (by rw [List.length_take]; omega) 4 5 6 7 8 mZero false false (L.take 1) k1.2.1 k1.2.2.1 k1.2.2.2.1 k1.2.2.2.2) ?_
 rintro _ w45 a45 ⟨u45, V45, N45, rfl⟩ F45
 clear N42
 refine exS 3 [(0, .bool false), (1, .slice A25 (L).length c25), (2, .bool true), (3, .pointer (some ⟨g28, 0, none⟩)), (30, .agg (msgA mZero V45)), (31, .bool false)] [] dnil [] F45 (by kernel_rfl) fun _ F46 => ?_
 refine zn (za rfl) rfl F46 rfl N45 9 (t := 29) (c := msgA ⟨0, 0, 0, 0, "".toUTF8, 0, 0, [], [], [], [], []⟩ ⟨zN, zN, zN, zN, zN⟩) (by unfold execOp; kernel_rfl) ?_
 intro g47 a47 w47 F47 M47
 clear F46 N45
 refine zy (za rfl) rfl F47 M47 (k := 9) rfl _ _ _ rfl (F47.get rfl) (F47.get rfl) (msgA mZero V45) (msgA mZero V45) rfl (Nat.le_of_ble_eq_true rfl) (z2a (w := w47) ⟨(M47.isb (k := 4) rfl), (M47.isb (k := 5) rfl), (M47.isb (k := 6) rfl), (M47.isb (k := 7) rfl), (M47.isb (k := 8) rfl)⟩) (zga rfl) (by kernel_rfl) ?_
 intro w48 M48
 clear M47
 refine rm rfl F47 fun _ F49 => ?_
 refine hK43 _ _ (zS fun _ hK50 => ?_)
 refine zR ?_
 refine rm rfl F49 fun _ F51 => ?_
 refine rm rfl F51 fun _ F52 => ?_
 refine rm rfl F52 fun _ F53 => ?_
 refine rn rfl rfl F53 rfl (.int .i64 3) (z0 _ rfl (F53.get rfl) (M48.isb (k := 0) rfl) (by rw [hL3]; rfl)) fun _ F54 => ?_
 refine rn rfl rfl F54 rfl (.int .i64 1) (y_min _ _ rfl rfl (F54.get rfl) (by decide)) fun _ F55 => ?_
 refine wl_runE (za rfl) rfl F55 rfl (y_slFrom _ _ rfl (F55.get rfl) (M48.isb (k := 0) rfl) (F55.get rfl) (i := 1) rfl (by omega)) ?_
 intro v56 a56 h56 F56
 have M56 := M48.partB 10 (k := 0) rfl h56.1 h56.2
 clear M48
 obtain ⟨A56, c56, rfl⟩ := (M56.isb (k := 10) rfl).shape
 refine ze (za rfl) rfl F56 rfl rfl (enters_of Try.func28 (by kernel_rfl) rfl) #[.pointer (some ⟨g28, 0, none⟩), .slice A56 ((L.drop 1)).length c56] (zla (F56.get rfl) (F56.get rfl)) (swrite_any M56 1 2 10 g28 (L.take 1) (L.drop 1) u45 (.slice A56 ((L.drop 1)).length c56) 1 false rfl rfl rfl (by decide) (by decide) (by simp only [List.length_take, List.length_drop]; omega) (by decide) true (by decide)) ?_
 rintro _ w57 a57 ⟨u57, N57, rfl⟩ F57
 rw [k2.1] at N57
 rw [k2.2.1] at N57
 clear M56
 replace N57 : Mx _ _ _ ((1, blkR g28 94 #[u57, .int .i64 3, .bool false]) :: _) := N57
 refine hK50 _ _ (zS fun _ hK58 => ?_)
 refine zR ?_
 refine rm rfl F57 fun _ F59 => ?_
 refine ze (za rfl) rfl F59 rfl rfl (enters_of Try.func30 (by kernel_rfl) rfl) #[.pointer (some ⟨g28, 0, none⟩)] (zp (F59.get rfl)) (next_is N57 1 2 g28 L u57 3 false rfl rfl (by decide) (by omega) 11 12 13 14 15 m7 true false ([] : List UInt8) k2.2.2.1 k2.2.2.2.1 k2.2.2.2.2.1 k2.2.2.2.2.2) ?_
 rintro _ w60 a60 ⟨u60, V60, N60, rfl⟩ F60
 clear N57
 refine exA 3 [(39, .tuple #[.agg (msgA m7 V60), .bool true]), (42, .agg (msgA m7 V60)), (43, .bool true)] [] dnil [] F60 (by kernel_rfl) (by kernel_rfl) fun _ F61 => ?_
 refine zn (za rfl) rfl F61 rfl N60 16 (t := 29) (c := msgA ⟨0, 0, 0, 0, "".toUTF8, 0, 0, [], [], [], [], []⟩ ⟨zN, zN, zN, zN, zN⟩) (by unfold execOp; kernel_rfl) ?_
 intro g62 a62 w62 F62 M62
 clear F61 N60
 refine zy (za rfl) rfl F62 M62 (k := 16) rfl _ _ _ rfl (F62.get rfl) (F62.get rfl) (msgA m7 V60) (msgA m7 V60) rfl (Nat.le_of_ble_eq_true rfl) (z2a (w := w62) ⟨(M62.isb (k := 11) rfl), (M62.isb (k := 12) rfl), (M62.isb (k := 13) rfl), (M62.isb (k := 14) rfl), (M62.isb (k := 15) rfl)⟩) (zga rfl) (by kernel_rfl) ?_
 intro w63 M63
 clear M62
 refine rm rfl F62 fun _ F64 => ?_
 refine hK58 _ _ (zS fun _ hK65 => ?_)
 refine zR ?_
 refine rn rfl rfl F64 rfl (.agg (recA ⟨1, ({ data := #[97] }), [], 0, 0, [], 0, 0, 0⟩ ⟨zN, zN⟩)) (by unfold execOp; simp only [List.map_toArray, List.map_cons, List.map_nil, ]; kernel_rfl) fun _ F66 => ?_
 refine ze (za rfl) rfl F66 rfl rfl (enters_of Try.func35 (by kernel_rfl) rfl) #[.agg (recA ⟨1, ({ data := #[97] }), [], 0, 0, [], 0, 0, 0⟩ ⟨zN, zN⟩)] (zp (F66.get rfl)) (rec_is rA rvZero rA_ok true RB rA_keep hRB w63 ⟨zq _, zq _⟩) ?_
 rintro _ w67 a67 ⟨v67, rfl, hv67, b67⟩ F67
 have M67 := M63.newO b67 17 hv67
 clear M63 b67 hv67
 obtain ⟨A67, c67, rfl⟩ := (M67.isO (k := 17) rfl).shape
 refine exA 5 [(44, .tuple #[.slice A67 (RB).length c67, .bool true]), (47, .slice A67 (RB).length c67), (48, .bool true), (8, .slice A67 (RB).length c67), (9, .bool true)] [] dnil [] F67 (by kernel_rfl) (by kernel_rfl) fun _ F68 => ?_
 refine hK65 _ _ (zS fun _ hK69 => ?_)
 refine zR ?_
 refine rm rfl F68 fun _ F70 => ?_
 refine ze (za rfl) rfl F70 rfl rfl (enters_of Try.func37 (by kernel_rfl) rfl) #[.slice A67 (RB).length c67] (zp (F70.get rfl)) (rd_is RB (.slice A67 (RB).length c67) hRl true rA y1 y2 w67 (M67.isO (k := 17) rfl)) ?_
 rintro _ w71 a71 ⟨V71, rfl, is71, lo71, b71⟩ F71
 have M71 := M67.newRec b71 is71 lo71 18 19
 clear M67 b71 lo71
 refine exA 3 [(49, .tuple #[.agg (recA rA V71), .bool true]), (52, .agg (recA rA V71)), (53, .bool true)] [] dnil [] F71 (by kernel_rfl) (by kernel_rfl) fun _ F72 => ?_
 refine zn (za rfl) rfl F72 rfl M71 20 (t := 54) (c := recA ⟨0, "".toUTF8, [], 0, 0, [], 0, 0, 0⟩ ⟨zN, zN⟩) (by unfold execOp; kernel_rfl) ?_
 intro g73 a73 w73 F73 M73
 clear F72 M71
 refine zy (za rfl) rfl F73 M73 (k := 20) rfl _ _ _ rfl (F73.get rfl) (F73.get rfl) (recA rA V71) (recA rA V71) rfl (Nat.le_of_ble_eq_true rfl) (recA_one (w := w73) ⟨(M73.isb (k := 18) rfl), (M73.isb (k := 19) rfl)⟩) (zga rfl) (by kernel_rfl) ?_
 intro w74 M74
 clear M73
 refine rm rfl F73 fun _ F75 => ?_
 refine hK69 _ _ (zS fun _ hK76 => ?_)
 refine zR ?_
 refine rm rfl F75 fun _ F77 => ?_
 refine rm rfl F77 fun _ F78 => ?_
 refine rm rfl F78 fun _ F79 => ?_
 refine zd (w' := w74) (zb rfl rfl rfl (F79.get rfl)) rfl F79 rfl (.int .i64 3) (z0 _ rfl (F79.get rfl) (M74.isb (k := 0) rfl) (by rw [hL3]; rfl)) fun _ F80 => ?_
 refine exA 4 [(58, .bool true), (59, .bool true), (60, .bool true), (61, .slice A25 (L).length c25)] [] dnil [] F80 (by kernel_rfl) (by kernel_rfl) fun _ F81 => ?_
 refine zd (w' := w74) (zb rfl rfl rfl (F81.get rfl)) rfl F81 rfl ((ixV (.slice A25 (L).length c25) 1)) (y_ixB _ _ rfl (F81.get rfl) (M74.isb (k := 0) rfl) rfl rfl (by omega)) fun _ F82 => ?_
 refine zd (w' := w74) (zb rfl rfl rfl (F82.get rfl)) rfl F82 rfl (.int .u8 (((1 : UInt8).toNat : Nat) : Int)) (y_ldB _ rfl (F82.get rfl) (M74.isb (k := 0) rfl) (by rw [hL]; rfl) rfl) fun _ F83 => ?_
 refine zd (w' := w74) (zb rfl rfl rfl (F83.get rfl)) rfl F83 rfl (.bool true) (zh _ _ _ _ rfl (F83.get rfl) rfl Try.underlying5 (z8 (by decide))) fun _ F84 => ?_
 refine exA 3 [(65, .bool true), (66, .bool true), (67, .slice A25 (L).length c25)] [] dnil [] F84 (by kernel_rfl) (by kernel_rfl) fun _ F85 => ?_
 refine zd (w' := w74) (zb rfl rfl rfl (F85.get rfl)) rfl F85 rfl ((ixV (.slice A25 (L).length c25) 2)) (y_ixB _ _ rfl (F85.get rfl) (M74.isb (k := 0) rfl) rfl rfl (by omega)) fun _ F86 => ?_
 refine zd (w' := w74) (zb rfl rfl rfl (F86.get rfl)) rfl F86 rfl (.int .u8 (((7 : UInt8).toNat : Nat) : Int)) (y_ldB _ rfl (F86.get rfl) (M74.isb (k := 0) rfl) (by rw [hL]; rfl) rfl) fun _ F87 => ?_
 refine zd (w' := w74) (zb rfl rfl rfl (F87.get rfl)) rfl F87 rfl (.bool true) (zh _ _ _ _ rfl (F87.get rfl) rfl Try.underlying5 (z8 (by decide))) fun _ F88 => ?_
 refine exS 11 [(0, .bool false), (3, .pointer (some ⟨g28, 0, none⟩)), (9, .bool true), (10, .pointer (some ⟨g73, 0, none⟩)), (11, .bool true), (79, .bool true), (81, .int .i64 m7.k)] [0] (zm (M74.blk (k := 16) rfl) dnil) [g62] F88 (by kernel_rfl) fun _ F89 => ?_
 refine zd (w' := w74) (zb rfl rfl rfl (F89.get rfl)) rfl F89 rfl (.bool true) (zh _ _ _ _ rfl (F89.get rfl) rfl Try.underlying3 (z8 (show m7.k = 7 from rfl))) fun _ F90 => ?_
 refine exA 3 [(83, .bool true), (84, .bool true), (85, .pointer (some ⟨g28, 0, none⟩))] [] dnil [] F90 (by kernel_rfl) (by kernel_rfl) fun _ F91 => ?_
 refine ze (zb rfl rfl rfl (F91.get rfl)) rfl F91 rfl rfl (enters_of Try.func32 (by kernel_rfl) rfl) #[.pointer (some ⟨g28, 0, none⟩)] (zp (F91.get rfl)) (zk ((bad_any g28 u60 3 false w74 (M74.blk (k := 1) rfl)))) ?_
 rintro _ w92 a92 ⟨rfl, b92⟩ F92
 have M92 := M74.step b92
 refine exS 11 [(0, .bool false), (95, .bool true), (97, .string rA.s)] [0] (zm (M92.blk (k := 20) rfl) dnil) [g73] F92 (by kernel_rfl) fun _ F93 => ?_
 refine zd (w' := w92) (zb rfl rfl rfl (F93.get rfl)) rfl F93 rfl (.bool true) (y_eqS _ _ _ rfl (F93.get rfl) rfl (decide_eq_true rfl)) fun _ F94 => ?_
 refine exS 2 [(0, .bool true)] [] dnil [] F94 (by kernel_rfl) fun _ F95 => ?_
 refine hK76 _ _ (wp_ret ?_)
 try simp only [Exit.then, Exit.inBlock, Exit.jump]
 exact bodyPost_ret (res1 rfl (F95.get (t := 0) rfl)) F95.defers ⟨rfl, M92.below⟩
end Go.Proofs.Ytlbkogdmojlpmaa
