/- What WireStreams stands on, part 13. -/
import Derived.Test.YtlbkogdmojlpmaaWireStreamsP1
import Derived.Test.YtlbkogdmojlpmaaWireStreamsP2
import Derived.Test.YtlbkogdmojlpmaaWireStreamsP3
import Derived.Test.YtlbkogdmojlpmaaWireStreamsP4
import Derived.Test.YtlbkogdmojlpmaaWireStreamsP5
import Derived.Test.YtlbkogdmojlpmaaWireStreamsP6
import Derived.Test.YtlbkogdmojlpmaaWireStreamsP7
import Derived.Test.YtlbkogdmojlpmaaWireStreamsP8
import Derived.Test.YtlbkogdmojlpmaaWireStreamsP9
import Derived.Test.YtlbkogdmojlpmaaWireStreamsP10
import Derived.Test.YtlbkogdmojlpmaaWireStreamsP11
import Derived.Test.YtlbkogdmojlpmaaWireStreamsP12
set_option maxRecDepth 100000
set_option maxHeartbeats 8000000
set_option linter.unusedVariables false
set_option linter.unusedSimpArgs false
namespace Go.Proofs.Ytlbkogdmojlpmaa
open Go.ChangeShapes Go.WideShapes Go.ChangeAt Go.RowKit
theorem tdiv_bnd {p q : Int} (hp : -9223372036854775808 ≤ p ∧ p < 9223372036854775808) (hq : 0 < q) : -9223372036854775808 ≤ p.tdiv q ∧ p.tdiv q < 9223372036854775808 :=
  ⟨(zsa hp hq).1, Int.lt_of_le_of_lt (zsa hp hq).2 (by decide)⟩
def mkM (kind n : Int) (s : ByteArray) (b : List UInt8) : MsgN :=
  if kind % 12 = 0 then (if n % 2 = 0 then ⟨1, 1, 0, 0, nmB s, (1 + n % 4294967295).toNat, 0, [], [], [], [], []⟩ else ⟨1, 2, 0, 0, nmB s, (1 + n % 4294967295).toNat, (1 + (n.tdiv 3) % 70000).toNat, [], [], [], [], []⟩)
  else if kind % 12 = 1 then (if n % 2 = 0 then ⟨2, 1, 0, 0, "".toUTF8, 0, (1 + n % 4294967295).toNat, (zw b n (1 + n % 16).toNat), [], [], [], []⟩ else ⟨2, 2, 0, 0, "".toUTF8, (1 + (n.tdiv 3) % 70000).toNat, (1 + n % 4294967295).toNat, [], (zw b n (1 + n % 48).toNat), [], [], []⟩)
  else if kind % 12 = 2 then (⟨3, 0, 0, 0, "".toUTF8, 0, 0, [], [], (zw b n (1 + n % 16).toNat), [], []⟩)
  else if kind % 12 = 3 then (if (n.tdiv 2) % 2 = 0 then ⟨4, 0, 0, 0, "".toUTF8, 0, 0, [], [], (zw b (n.tdiv 7) (1 + (n.tdiv 7) % 16).toNat), (zw b n (1 + n % 80).toNat), []⟩ else ⟨4, 0, 0, 0, "".toUTF8, 0, 0, [], [], [], (zw b n (1 + n % 80).toNat), []⟩)
  else if kind % 12 = 4 then (⟨5, 0, 0, 1 + n % 11, "".toUTF8, 0, 0, [], [], [], [], []⟩)
  else if kind % 12 = 5 then (⟨6, 1 + n % 2, 0, 0, nmB s, 0, 0, [], [], [], [], (zw b n (1 + n % 120).toNat)⟩)
  else if kind % 12 = 6 then (⟨7, 0, 0, 0, "".toUTF8, 0, 0, [], [], [], [], []⟩)
  else if kind % 12 = 7 then (⟨8, 0, 1 + n % 1099511627776, 0, "".toUTF8, 0, 0, [], [], [], (zw b n (1 + n % 80).toNat), []⟩)
  else if kind % 12 = 8 then (⟨9, 0, 0, 0, "".toUTF8, 0, 0, [], [], [], (zw b n (1 + n % 80).toNat), []⟩)
  else if kind % 12 = 9 then (⟨10, 0, 0, 0, "".toUTF8, 0, 0, [], [], [], (zw b n (1 + n % 80).toNat), []⟩)
  else if kind % 12 = 10 then (⟨11, 1 + n % 2, 0, 0, "".toUTF8, 0, 0, [], [], [], (zw b n (1 + n % 80).toNat), (zw b (n.tdiv 5) (1 + (n.tdiv 5) % 110).toNat)⟩)
  else ⟨12, 0, 1 + n % 1099511627776, 0, "".toUTF8, 0, 0, [], [], [], (zw b n (1 + n % 80).toNat), []⟩
theorem make_msg (kind n : Int) (s : ByteArray) (b : List UInt8) (v : Value) (hkd : -9223372036854775808 ≤ kind ∧ kind < 9223372036854775808) (hN : -9223372036854775808 ≤ n ∧ n < 9223372036854775808) (hs : s.size ≤ 40) (w : World) (hv : IsB w b v) :
  Calls Try.prog 16 #[.int .i64 kind, .int .i64 n, .string s, v] w fun e w' => ∃ t, e = .returned t ∧ ∃ V, t = .agg (msgA (mkM kind n s b) V) ∧ MsgIs w' (mkM kind n s b) V ∧ (∀ g, z6a V g → w.heap.size ≤ g) ∧ Below w.heap.size w w' := by
 have hm0 := Int.emod_nonneg n (show (4294967295 : Int) ≠ 0 by decide)
 have hm1 := Int.emod_lt_of_pos n (show (0 : Int) < 4294967295 by decide)
 have hk : kind % 12 = 0 ∨ kind % 12 = 1 ∨ kind % 12 = 2 ∨ kind % 12 = 3 ∨ kind % 12 = 4 ∨ kind % 12 = 5 ∨ kind % 12 = 6 ∨ kind % 12 = 7 ∨ kind % 12 = 8 ∨ kind % 12 = 9 ∨ kind % 12 = 10 ∨ kind % 12 = 11 := by omega
 rcases hk with hkk | hkk | hkk | hkk | hkk | hkk | hkk | hkk | hkk | hkk | hkk | hkk
 ·have hq : n % 2 = 0 ∨ n % 2 = 1 := by omega
  rcases hq with hpp | hpp
  ·refine zg (args := [.int .i64 kind, .int .i64 n, .string s, v]) 132 Try.func16 rfl rfl rfl ?_
   intro fa F
   have M := Mx.start w
   replace M := M.argB 0 hv (fun g e => by cases e)
   refine zT fun _ hK1 => ?_
   refine zf (za rfl) rfl F rfl M 1 (t := 29) (c := msgA ⟨0, 0, 0, 0, "".toUTF8, 0, 0, [], [], [], [], []⟩ ⟨zN, zN, zN, zN, zN⟩) (by unfold execOp; kernel_rfl) ?_
   intro g2 a2 w2 F2 M2
   clear F M
   refine hK1 _ _ (zS fun _ hK3 => ?_)
   refine zR ?_
   refine rm rfl F2 fun _ F4 => ?_
   refine zd (za rfl) rfl F4 rfl rfl (zE Try.func22 rfl) #[.int .i64 kind, .int .i64 12] (zea (F4.get rfl) rfl) (zh ((hkk ▸ zo kind 12 (by omega) (by omega) hkd.1 hkd.2 w2))) ?_
   rintro _ w5 a5 ⟨rfl, rfl⟩ F5
   refine rn rfl rfl F5 rfl (.int .i64 1) (zz _ _ _ _ rfl rfl (F5.get rfl) rfl (by omega)) fun _ F6 => ?_
   refine rn rfl rfl F6 rfl (.agg (msgA ⟨1, 0, 0, 0, "".toUTF8, 0, 0, [], [], [], [], []⟩ ⟨zN, zN, zN, zN, zN⟩)) (by unfold execOp; simp only [List.map_toArray, List.map_cons, List.map_nil, (F6.get (t := 15) rfl)]; kernel_rfl) fun _ F7 => ?_
   refine zf (za rfl) rfl F7 rfl M2 2 (t := 29) (c := msgA ⟨0, 0, 0, 0, "".toUTF8, 0, 0, [], [], [], [], []⟩ ⟨zN, zN, zN, zN, zN⟩) (by unfold execOp; kernel_rfl) ?_
   intro g8 a8 w8 F8 M8
   clear F7 M2
   refine zn (za rfl) rfl F8 M8 (k := 2) rfl _ _ _ rfl (F8.get rfl) (F8.get rfl) (msgA ⟨1, 0, 0, 0, "".toUTF8, 0, 0, [], [], [], [], []⟩ ⟨zN, zN, zN, zN, zN⟩) _ rfl (zL rfl) (zy (w := w8) ⟨(zc _), (zc _), (zc _), (zc _), (zc _)⟩) (zt rfl) (by kernel_rfl) ?_
   intro w9 M9
   clear M8
   refine hK3 _ _ (zS fun _ hK10 => ?_)
   refine zR ?_
   refine rm rfl F8 fun _ F11 => ?_
   refine zd (za rfl) rfl F11 rfl rfl (zE Try.func22 rfl) #[.int .i64 n, .int .i64 2] (zea (F11.get rfl) rfl) (zh ((hpp ▸ zo n 2 (by omega) (by omega) hN.1 hN.2 w9))) ?_
   rintro _ w12 a12 ⟨rfl, rfl⟩ F12
   refine rn rfl rfl F12 rfl (.int .i64 1) (zz _ _ _ _ rfl rfl (F12.get rfl) rfl (by omega)) fun _ F13 => ?_
   refine rm rfl F13 fun _ F14 => ?_
   refine hK10 _ _ (zS fun _ hK15 => ?_)
   refine zR ?_
   refine rm rfl F14 fun _ F16 => ?_
   refine zd (za rfl) rfl F16 rfl rfl (zE Try.func22 rfl) #[.int .i64 n, .int .i64 4294967295] (zea (F16.get rfl) rfl) (zh ((zo n 4294967295 (by omega) (by omega) hN.1 hN.2 w9))) ?_
   rintro _ w17 a17 ⟨rfl, rfl⟩ F17
   refine rn rfl rfl F17 rfl (.int .i64 (1 + (n % 4294967295))) (zz _ _ _ _ rfl rfl (F17.get rfl) rfl (by omega)) fun _ F18 => ?_
   refine zd (za rfl) rfl F18 rfl rfl (zE Try.func24 rfl) #[.int .i64 (1 + (n % 4294967295))] (zp (F18.get rfl)) (zh ((zra (1 + (n % 4294967295)) (by omega) (by omega) w9))) ?_
   rintro _ w19 a19 ⟨rfl, b19⟩ F19
   have M19 := M9.step b19
   refine zf (za rfl) rfl F19 rfl M19 3 (t := 27) (c := numA 0) (zda rfl) ?_
   intro g20 a20 w20 F20 M20
   clear F19 M19
   refine zn (za rfl) rfl F20 M20 (k := 3) rfl _ _ _ rfl (F20.get rfl) (F20.get rfl) (numA ((1 + (n % 4294967295)).toNat)) _ rfl (zL rfl) (zaa _) (zt rfl) z7 ?_
   intro w21 M21
   clear M20
   refine hK15 _ _ (zS fun _ hK22 => ?_)
   refine zR ?_
   refine rm rfl F20 fun _ F23 => ?_
   refine rn rfl rfl F23 rfl (.int .i64 (n.tdiv 3)) (y_quoT _ _ _ _ rfl (F23.get rfl) rfl hN (by decide) rfl) fun _ F24 => ?_
   refine zd (za rfl) rfl F24 rfl rfl (zE Try.func22 rfl) #[.int .i64 (n.tdiv 3), .int .i64 70000] (zea (F24.get rfl) rfl) (zh ((zo (n.tdiv 3) 70000 (by omega) (by omega) (zsa hN (show (0 : Int) < 3 by decide)).1 (Int.lt_of_le_of_lt (zsa hN (show (0 : Int) < 3 by decide)).2 (by decide)) w21))) ?_
   rintro _ w25 a25 ⟨rfl, rfl⟩ F25
   refine rn rfl rfl F25 rfl (.int .i64 (1 + ((n.tdiv 3) % 70000))) (zz _ _ _ _ rfl rfl (F25.get rfl) rfl (by omega)) fun _ F26 => ?_
   refine zd (za rfl) rfl F26 rfl rfl (zE Try.func24 rfl) #[.int .i64 (1 + ((n.tdiv 3) % 70000))] (zp (F26.get rfl)) (zh ((zra (1 + ((n.tdiv 3) % 70000)) (by omega) (by omega) w21))) ?_
   rintro _ w27 a27 ⟨rfl, b27⟩ F27
   have M27 := M21.step b27
   refine zf (za rfl) rfl F27 rfl M27 4 (t := 27) (c := numA 0) (zda rfl) ?_
   intro g28 a28 w28 F28 M28
   clear F27 M27
   refine zn (za rfl) rfl F28 M28 (k := 4) rfl _ _ _ rfl (F28.get rfl) (F28.get rfl) (numA ((1 + ((n.tdiv 3) % 70000)).toNat)) _ rfl (zL rfl) (zaa _) (zt rfl) z7 ?_
   intro w29 M29
   clear M28
   refine hK22 _ _ (zS fun _ hK30 => ?_)
   refine zT fun _ hK31 => ?_
   refine zA 2 [(29, .pointer (some ⟨g8, 0, none⟩)), (30, .int .i64 1)] [0] (zj (M29.blk (k := 2) rfl) dnil) [g8] F28 fun _ F32 => ?_
   refine hK31 _ _ (wp_block ?_)
   refine zT fun _ hK33 => ?_
   refine zA 2 [(32, .bool true), (31, .bool true)] [] dnil [] F32 fun _ F34 => ?_
   refine hK33 _ _ (wp_cond_true (F34.get rfl) ?_)
   refine zS fun _ hK35 => ?_
   refine z1b F34 [fun vE => vE = .int .i64 1, fun vE => vE = .string s, fun vE => vE = .string (nmB s), fun vE => vE = numV ((1 + (n % 4294967295)).toNat), fun vE => vE = .pointer (some ⟨g8, 1, none⟩), fun vE => vE = undef, fun vE => vE = .pointer (some ⟨g8, 4, none⟩), fun vE => vE = undef] (JM none w fun SV pV => [(0, bytR b v), (1, blkR g2 29 (msgA ⟨0, 0, 0, 0, "".toUTF8, 0, 0, [], [], [], [], []⟩ ⟨zN, zN, zN, zN, zN⟩)), (2, blkR g8 29 (msgA ⟨1, (cond (SV 5) 1 0), 0, 0, (cond (SV 7) (nmB s) ("".toUTF8)), 0, 0, [], [], [], [], []⟩ ⟨zN, zN, zN, zN, zN⟩)), (3, blkR g20 27 (numA ((1 + (n % 4294967295)).toNat))), (4, blkR g28 27 (numA ((1 + ((n.tdiv 3) % 70000)).toNat)))]) 8 rfl (by kernel_rfl) rfl ⟨trivial, trivial, trivial, trivial, trivial, fun _ => Iff.rfl, trivial, fun _ => Iff.rfl, trivial⟩ (fun p => (M29.step (zib _)).sub ⟨rfl, rfl, rfl, rfl, rfl, trivial⟩) ⟨?_, ?_, ?_, ?_, ?_, ?_, ?_, ?_, trivial⟩ ?_
   ·intro ua uw SV pV M0 hk hn hd
    have M : Mx none w uw _ := M0
    clear M0
    have e10 : ua.eval (.tmp 10) = .int .i64 1 := (show ua.eval (.tmp 10) = _ from hd 10 (by decide)).trans (F34.get (t := 10) rfl)
    exact zl (za rfl) (.int .i64 1) (zua _ (.inl rfl) e10) rfl (M.sub ⟨rfl, rfl, rfl, rfl, rfl, trivial⟩)
   ·intro ua uw SV pV M0 hk hn hd
    have M : Mx none w uw _ := M0
    clear M0
    have e2 : ua.eval (.tmp 2) = .string s := (show ua.eval (.tmp 2) = _ from hd 2 (by decide)).trans (F34.get (t := 2) rfl)
    exact zl (za rfl) (.string s) (zua _ (.inl rfl) e2) rfl (M.sub ⟨rfl, rfl, rfl, rfl, rfl, trivial⟩)
   ·intro ua uw SV pV M0 hk hn hd
    have M : Mx none w uw _ := M0
    clear M0
    obtain ⟨s1, f34, q34⟩ := (show SV 1 = true ∧ ua.eval (.tmp 34) = pV 1 ∧ stE _ 1 (pV 1) from hd 34 (by decide))
    have e34 : ua.eval (.tmp 34) = .string s := f34.trans q34
    exact hopM_call (za rfl) rfl #[.string s] (zp e34) (zE Try.func42 rfl) (((lname_any s hs uw)).mono fun e w2 h => ⟨_, h.1, rfl, (M.step h.2).sub ⟨rfl, rfl, rfl, rfl, rfl, trivial⟩⟩)
   ·intro ua uw SV pV M0 hk hn hd
    have M : Mx none w uw _ := M0
    clear M0
    have e11 : ua.eval (.tmp 11) = .pointer (some ⟨g20, 0, none⟩) := (show ua.eval (.tmp 11) = _ from hd 11 (by decide)).trans (F34.get (t := 11) rfl)
    exact zl (za rfl) (numV ((1 + (n % 4294967295)).toNat)) (zja _ _ rfl e11 (M.blk (k := 3) rfl) (numA ((1 + (n % 4294967295)).toNat)) (zma rfl) Try.underlying27 rfl z7) rfl (M.sub ⟨rfl, rfl, rfl, rfl, rfl, trivial⟩)
   ·intro ua uw SV pV M0 hk hn hd
    have M : Mx none w uw _ := M0
    clear M0
    have e9 : ua.eval (.tmp 9) = .pointer (some ⟨g8, 0, none⟩) := (show ua.eval (.tmp 9) = _ from hd 9 (by decide)).trans (F34.get (t := 9) rfl)
    exact zl (za rfl) (.pointer (some ⟨g8, 1, none⟩)) (y_fa (off := 1) rfl e9 (by kernel_rfl) rfl) rfl (M.sub ⟨rfl, rfl, rfl, rfl, rfl, trivial⟩)
   ·intro ua uw SV pV M0 hk hn hd
    have M : Mx none w uw _ := M0
    clear M0
    obtain ⟨s4, f37, q37⟩ := (show SV 4 = true ∧ ua.eval (.tmp 37) = pV 4 ∧ stE _ 4 (pV 4) from hd 37 (by decide))
    have e37 : ua.eval (.tmp 37) = .pointer (some ⟨g8, 1, none⟩) := f37.trans q37
    obtain ⟨s0, f33, q33⟩ := (show SV 0 = true ∧ ua.eval (.tmp 33) = pV 0 ∧ stE _ 0 (pV 0) from hd 33 (by decide))
    have e33 : ua.eval (.tmp 33) = .int .i64 1 := f33.trans q33
    exact hopM_doM (za rfl) rfl (run_st M (k := 2) rfl _ _ _ rfl e37 e33 (#[.int .i64 1]) (msgA ⟨1, 1, 0, 0, (cond (SV 7) (nmB s) ("".toUTF8)), 0, 0, [], [], [], [], []⟩ ⟨zN, zN, zN, zN, zN⟩) rfl (zL rfl) (zeb _ _) (by kernel_rfl) (by kernel_rfl)) (fun w2 h2 => h2.sub ⟨rfl, rfl, rfl, rfl, rfl, trivial⟩) rfl
   ·intro ua uw SV pV M0 hk hn hd
    have M : Mx none w uw _ := M0
    clear M0
    have e9 : ua.eval (.tmp 9) = .pointer (some ⟨g8, 0, none⟩) := (show ua.eval (.tmp 9) = _ from hd 9 (by decide)).trans (F34.get (t := 9) rfl)
    exact zl (za rfl) (.pointer (some ⟨g8, 4, none⟩)) (y_fa (off := 4) rfl e9 (by kernel_rfl) rfl) rfl (M.sub ⟨rfl, rfl, rfl, rfl, rfl, trivial⟩)
   ·intro ua uw SV pV M0 hk hn hd
    have M : Mx none w uw _ := M0
    clear M0
    obtain ⟨s6, f38, q38⟩ := (show SV 6 = true ∧ ua.eval (.tmp 38) = pV 6 ∧ stE _ 6 (pV 6) from hd 38 (by decide))
    have e38 : ua.eval (.tmp 38) = .pointer (some ⟨g8, 4, none⟩) := f38.trans q38
    obtain ⟨s2, f35, q35⟩ := (show SV 2 = true ∧ ua.eval (.tmp 35) = pV 2 ∧ stE _ 2 (pV 2) from hd 35 (by decide))
    have e35 : ua.eval (.tmp 35) = .string (nmB s) := f35.trans q35
    exact hopM_doM (za rfl) rfl (run_st M (k := 2) rfl _ _ _ rfl e38 e35 (#[.string (nmB s)]) (msgA ⟨1, (cond (SV 5) 1 0), 0, 0, (nmB s), 0, 0, [], [], [], [], []⟩ ⟨zN, zN, zN, zN, zN⟩) rfl (zL rfl) (one_str _) (by kernel_rfl) (by kernel_rfl)) (fun w2 h2 => h2.sub ⟨rfl, rfl, rfl, rfl, rfl, trivial⟩) rfl
   intro p36 a36 w36 M36 G36 y36
   obtain ⟨-, -, -, q3, -, -, -, -, -⟩ := y36
   have r3 : p36 3 = numV ((1 + (n % 4294967295)).toNat) := q3
   replace M36 : Mx _ _ w36 [(0, bytR b v), (1, blkR g2 29 (msgA ⟨0, 0, 0, 0, "".toUTF8, 0, 0, [], [], [], [], []⟩ ⟨zN, zN, zN, zN, zN⟩)), (2, blkR g8 29 (msgA ⟨1, 1, 0, 0, (nmB s), 0, 0, [], [], [], [], []⟩ ⟨zN, zN, zN, zN, zN⟩)), (3, blkR g20 27 (numA ((1 + (n % 4294967295)).toNat))), (4, blkR g28 27 (numA ((1 + ((n.tdiv 3) % 70000)).toNat)))] := M36
   simp only [List.take, layV, Nat.zero_add, Nat.reduceAdd, r3] at G36
   refine rn rfl rfl G36 rfl (.pointer (some ⟨g8, 5, none⟩)) (y_fa (off := 5) rfl (G36.get rfl) (by kernel_rfl) rfl) fun _ F37 => ?_
   refine zn (za rfl) rfl F37 M36 (k := 2) rfl _ _ _ rfl (F37.get rfl) (F37.get rfl) (numA ((1 + (n % 4294967295)).toNat)) (msgA ⟨1, 1, 0, 0, (nmB s), (1 + (n % 4294967295)).toNat, 0, [], [], [], [], []⟩ ⟨zN, zN, zN, zN, zN⟩) rfl (zL rfl) (zaa _) (by kernel_rfl) z7 ?_
   intro w38 M38
   clear M36
   refine hK35 _ _ (zS fun _ hK39 => ?_)
   refine zR ?_
   refine zA 2 [(40, .int .i64 1), (41, .bool false)] [] dnil [] F37 fun _ F40 => ?_
   refine hK39 _ _ (wp_cond_false (F40.get rfl) ?_)
   refine wp_skip ?_
   refine hK30 _ _ (zS fun _ hK41 => ?_)
   refine zR ?_
   refine rn rfl rfl F40 rfl _ (zja _ _ rfl (F40.get rfl) (M38.blk (k := 2) rfl) (msgA ⟨1, 1, 0, 0, (nmB s), (1 + (n % 4294967295)).toNat, 0, [], [], [], [], []⟩ ⟨zN, zN, zN, zN, zN⟩) (zma rfl) Try.underlying29 rfl (by kernel_rfl)) fun _ F42 => ?_
   refine zn (za rfl) rfl F42 M38 (k := 1) rfl _ _ _ rfl (F42.get rfl) (F42.get rfl) (msgA ⟨1, 1, 0, 0, (nmB s), (1 + (n % 4294967295)).toNat, 0, [], [], [], [], []⟩ ⟨zN, zN, zN, zN, zN⟩) _ rfl (zL rfl) (zy (w := w38) ⟨(zc _), (zc _), (zc _), (zc _), (zc _)⟩) (zt rfl) (by kernel_rfl) ?_
   intro w43 M43
   clear M38
   refine hK41 _ _ (wp_ret ?_)
   try simp only [Exit.then, Exit.inBlock, Exit.jump]
   exact bodyPost_ret (results_cell_row rfl _ _ _ _ _ (0, 0) _ (F42.get rfl) (M43.blk (k := 1) rfl) Try.underlying29 rfl (by kernel_rfl)) F42.defers ⟨_, rfl, ⟨zN, zN, zN, zN, zN⟩, (by rw [(show mkM kind n s b = (⟨1, 1, 0, 0, (nmB s), (1 + (n % 4294967295)).toNat, 0, [], [], [], [], []⟩ : MsgN) from by unfold mkM; simp only [hkk, hpp, ↓reduceIte, Int.reduceEq])]), (by rw [(show mkM kind n s b = (⟨1, 1, 0, 0, (nmB s), (1 + (n % 4294967295)).toNat, 0, [], [], [], [], []⟩ : MsgN) from by unfold mkM; simp only [hkk, hpp, ↓reduceIte, Int.reduceEq])]; exact ⟨(zc _), (zc _), (zc _), (zc _), (zc _)⟩), (fun g h => h.elim (fun h => (z6 _ h).elim) fun h => h.elim (fun h => (z6 _ h).elim) fun h => h.elim (fun h => (z6 _ h).elim) fun h => h.elim (fun h => (z6 _ h).elim) (fun h => (z6 _ h).elim)), M43.below⟩
  refine zg (args := [.int .i64 kind, .int .i64 n, .string s, v]) 132 Try.func16 rfl rfl rfl ?_
  intro fa F
  have M := Mx.start w
  replace M := M.argB 0 hv (fun g e => by cases e)
  refine zT fun _ hK1 => ?_
  refine zf (za rfl) rfl F rfl M 1 (t := 29) (c := msgA ⟨0, 0, 0, 0, "".toUTF8, 0, 0, [], [], [], [], []⟩ ⟨zN, zN, zN, zN, zN⟩) (by unfold execOp; kernel_rfl) ?_
  intro g2 a2 w2 F2 M2
  clear F M
  refine hK1 _ _ (zS fun _ hK3 => ?_)
  refine zR ?_
  refine rm rfl F2 fun _ F4 => ?_
  refine zd (za rfl) rfl F4 rfl rfl (zE Try.func22 rfl) #[.int .i64 kind, .int .i64 12] (zea (F4.get rfl) rfl) (zh ((hkk ▸ zo kind 12 (by omega) (by omega) hkd.1 hkd.2 w2))) ?_
  rintro _ w5 a5 ⟨rfl, rfl⟩ F5
  refine rn rfl rfl F5 rfl (.int .i64 1) (zz _ _ _ _ rfl rfl (F5.get rfl) rfl (by omega)) fun _ F6 => ?_
  refine rn rfl rfl F6 rfl (.agg (msgA ⟨1, 0, 0, 0, "".toUTF8, 0, 0, [], [], [], [], []⟩ ⟨zN, zN, zN, zN, zN⟩)) (by unfold execOp; simp only [List.map_toArray, List.map_cons, List.map_nil, (F6.get (t := 15) rfl)]; kernel_rfl) fun _ F7 => ?_
  refine zf (za rfl) rfl F7 rfl M2 2 (t := 29) (c := msgA ⟨0, 0, 0, 0, "".toUTF8, 0, 0, [], [], [], [], []⟩ ⟨zN, zN, zN, zN, zN⟩) (by unfold execOp; kernel_rfl) ?_
  intro g8 a8 w8 F8 M8
  clear F7 M2
  refine zn (za rfl) rfl F8 M8 (k := 2) rfl _ _ _ rfl (F8.get rfl) (F8.get rfl) (msgA ⟨1, 0, 0, 0, "".toUTF8, 0, 0, [], [], [], [], []⟩ ⟨zN, zN, zN, zN, zN⟩) _ rfl (zL rfl) (zy (w := w8) ⟨(zc _), (zc _), (zc _), (zc _), (zc _)⟩) (zt rfl) (by kernel_rfl) ?_
  intro w9 M9
  clear M8
  refine hK3 _ _ (zS fun _ hK10 => ?_)
  refine zR ?_
  refine rm rfl F8 fun _ F11 => ?_
  refine zd (za rfl) rfl F11 rfl rfl (zE Try.func22 rfl) #[.int .i64 n, .int .i64 2] (zea (F11.get rfl) rfl) (zh ((hpp ▸ zo n 2 (by omega) (by omega) hN.1 hN.2 w9))) ?_
  rintro _ w12 a12 ⟨rfl, rfl⟩ F12
  refine rn rfl rfl F12 rfl (.int .i64 2) (zz _ _ _ _ rfl rfl (F12.get rfl) rfl (by omega)) fun _ F13 => ?_
  refine rm rfl F13 fun _ F14 => ?_
  refine hK10 _ _ (zS fun _ hK15 => ?_)
  refine zR ?_
  refine rm rfl F14 fun _ F16 => ?_
  refine zd (za rfl) rfl F16 rfl rfl (zE Try.func22 rfl) #[.int .i64 n, .int .i64 4294967295] (zea (F16.get rfl) rfl) (zh ((zo n 4294967295 (by omega) (by omega) hN.1 hN.2 w9))) ?_
  rintro _ w17 a17 ⟨rfl, rfl⟩ F17
  refine rn rfl rfl F17 rfl (.int .i64 (1 + (n % 4294967295))) (zz _ _ _ _ rfl rfl (F17.get rfl) rfl (by omega)) fun _ F18 => ?_
  refine zd (za rfl) rfl F18 rfl rfl (zE Try.func24 rfl) #[.int .i64 (1 + (n % 4294967295))] (zp (F18.get rfl)) (zh ((zra (1 + (n % 4294967295)) (by omega) (by omega) w9))) ?_
  rintro _ w19 a19 ⟨rfl, b19⟩ F19
  have M19 := M9.step b19
  refine zf (za rfl) rfl F19 rfl M19 3 (t := 27) (c := numA 0) (zda rfl) ?_
  intro g20 a20 w20 F20 M20
  clear F19 M19
  refine zn (za rfl) rfl F20 M20 (k := 3) rfl _ _ _ rfl (F20.get rfl) (F20.get rfl) (numA ((1 + (n % 4294967295)).toNat)) _ rfl (zL rfl) (zaa _) (zt rfl) z7 ?_
  intro w21 M21
  clear M20
  refine hK15 _ _ (zS fun _ hK22 => ?_)
  refine zR ?_
  refine rm rfl F20 fun _ F23 => ?_
  refine rn rfl rfl F23 rfl (.int .i64 (n.tdiv 3)) (y_quoT _ _ _ _ rfl (F23.get rfl) rfl hN (by decide) rfl) fun _ F24 => ?_
  refine zd (za rfl) rfl F24 rfl rfl (zE Try.func22 rfl) #[.int .i64 (n.tdiv 3), .int .i64 70000] (zea (F24.get rfl) rfl) (zh ((zo (n.tdiv 3) 70000 (by omega) (by omega) (zsa hN (show (0 : Int) < 3 by decide)).1 (Int.lt_of_le_of_lt (zsa hN (show (0 : Int) < 3 by decide)).2 (by decide)) w21))) ?_
  rintro _ w25 a25 ⟨rfl, rfl⟩ F25
  refine rn rfl rfl F25 rfl (.int .i64 (1 + ((n.tdiv 3) % 70000))) (zz _ _ _ _ rfl rfl (F25.get rfl) rfl (by omega)) fun _ F26 => ?_
  refine zd (za rfl) rfl F26 rfl rfl (zE Try.func24 rfl) #[.int .i64 (1 + ((n.tdiv 3) % 70000))] (zp (F26.get rfl)) (zh ((zra (1 + ((n.tdiv 3) % 70000)) (by omega) (by omega) w21))) ?_
  rintro _ w27 a27 ⟨rfl, b27⟩ F27
  have M27 := M21.step b27
  refine zf (za rfl) rfl F27 rfl M27 4 (t := 27) (c := numA 0) (zda rfl) ?_
  intro g28 a28 w28 F28 M28
  clear F27 M27
  refine zn (za rfl) rfl F28 M28 (k := 4) rfl _ _ _ rfl (F28.get rfl) (F28.get rfl) (numA ((1 + ((n.tdiv 3) % 70000)).toNat)) _ rfl (zL rfl) (zaa _) (zt rfl) z7 ?_
  intro w29 M29
  clear M28
  refine hK22 _ _ (zS fun _ hK30 => ?_)
  refine zT fun _ hK31 => ?_
  refine zA 2 [(29, .pointer (some ⟨g8, 0, none⟩)), (30, .int .i64 1)] [0] (zj (M29.blk (k := 2) rfl) dnil) [g8] F28 fun _ F32 => ?_
  refine hK31 _ _ (wp_block ?_)
  refine zT fun _ hK33 => ?_
  refine zA 2 [(32, .bool true), (31, .bool true)] [] dnil [] F32 fun _ F34 => ?_
  refine hK33 _ _ (wp_cond_true (F34.get rfl) ?_)
  refine zS fun _ hK35 => ?_
  refine z1b F34 [fun vE => vE = .int .i64 2, fun vE => vE = .string s, fun vE => vE = .string (nmB s), fun vE => vE = numV ((1 + (n % 4294967295)).toNat), fun vE => vE = .pointer (some ⟨g8, 1, none⟩), fun vE => vE = undef, fun vE => vE = .pointer (some ⟨g8, 4, none⟩), fun vE => vE = undef] (JM none w fun SV pV => [(0, bytR b v), (1, blkR g2 29 (msgA ⟨0, 0, 0, 0, "".toUTF8, 0, 0, [], [], [], [], []⟩ ⟨zN, zN, zN, zN, zN⟩)), (2, blkR g8 29 (msgA ⟨1, (cond (SV 5) 2 0), 0, 0, (cond (SV 7) (nmB s) ("".toUTF8)), 0, 0, [], [], [], [], []⟩ ⟨zN, zN, zN, zN, zN⟩)), (3, blkR g20 27 (numA ((1 + (n % 4294967295)).toNat))), (4, blkR g28 27 (numA ((1 + ((n.tdiv 3) % 70000)).toNat)))]) 8 rfl (by kernel_rfl) rfl ⟨trivial, trivial, trivial, trivial, trivial, fun _ => Iff.rfl, trivial, fun _ => Iff.rfl, trivial⟩ (fun p => (M29.step (zib _)).sub ⟨rfl, rfl, rfl, rfl, rfl, trivial⟩) ⟨?_, ?_, ?_, ?_, ?_, ?_, ?_, ?_, trivial⟩ ?_
  ·intro ua uw SV pV M0 hk hn hd
   have M : Mx none w uw _ := M0
   clear M0
   have e10 : ua.eval (.tmp 10) = .int .i64 2 := (show ua.eval (.tmp 10) = _ from hd 10 (by decide)).trans (F34.get (t := 10) rfl)
   exact zl (za rfl) (.int .i64 2) (zua _ (.inl rfl) e10) rfl (M.sub ⟨rfl, rfl, rfl, rfl, rfl, trivial⟩)
  ·intro ua uw SV pV M0 hk hn hd
   have M : Mx none w uw _ := M0
   clear M0
   have e2 : ua.eval (.tmp 2) = .string s := (show ua.eval (.tmp 2) = _ from hd 2 (by decide)).trans (F34.get (t := 2) rfl)
   exact zl (za rfl) (.string s) (zua _ (.inl rfl) e2) rfl (M.sub ⟨rfl, rfl, rfl, rfl, rfl, trivial⟩)
  ·intro ua uw SV pV M0 hk hn hd
   have M : Mx none w uw _ := M0
   clear M0
   obtain ⟨s1, f34, q34⟩ := (show SV 1 = true ∧ ua.eval (.tmp 34) = pV 1 ∧ stE _ 1 (pV 1) from hd 34 (by decide))
   have e34 : ua.eval (.tmp 34) = .string s := f34.trans q34
   exact hopM_call (za rfl) rfl #[.string s] (zp e34) (zE Try.func42 rfl) (((lname_any s hs uw)).mono fun e w2 h => ⟨_, h.1, rfl, (M.step h.2).sub ⟨rfl, rfl, rfl, rfl, rfl, trivial⟩⟩)
  ·intro ua uw SV pV M0 hk hn hd
   have M : Mx none w uw _ := M0
   clear M0
   have e11 : ua.eval (.tmp 11) = .pointer (some ⟨g20, 0, none⟩) := (show ua.eval (.tmp 11) = _ from hd 11 (by decide)).trans (F34.get (t := 11) rfl)
   exact zl (za rfl) (numV ((1 + (n % 4294967295)).toNat)) (zja _ _ rfl e11 (M.blk (k := 3) rfl) (numA ((1 + (n % 4294967295)).toNat)) (zma rfl) Try.underlying27 rfl z7) rfl (M.sub ⟨rfl, rfl, rfl, rfl, rfl, trivial⟩)
  ·intro ua uw SV pV M0 hk hn hd
   have M : Mx none w uw _ := M0
   clear M0
   have e9 : ua.eval (.tmp 9) = .pointer (some ⟨g8, 0, none⟩) := (show ua.eval (.tmp 9) = _ from hd 9 (by decide)).trans (F34.get (t := 9) rfl)
   exact zl (za rfl) (.pointer (some ⟨g8, 1, none⟩)) (y_fa (off := 1) rfl e9 (by kernel_rfl) rfl) rfl (M.sub ⟨rfl, rfl, rfl, rfl, rfl, trivial⟩)
  ·intro ua uw SV pV M0 hk hn hd
   have M : Mx none w uw _ := M0
   clear M0
   obtain ⟨s4, f37, q37⟩ := (show SV 4 = true ∧ ua.eval (.tmp 37) = pV 4 ∧ stE _ 4 (pV 4) from hd 37 (by decide))
   have e37 : ua.eval (.tmp 37) = .pointer (some ⟨g8, 1, none⟩) := f37.trans q37
   obtain ⟨s0, f33, q33⟩ := (show SV 0 = true ∧ ua.eval (.tmp 33) = pV 0 ∧ stE _ 0 (pV 0) from hd 33 (by decide))
   have e33 : ua.eval (.tmp 33) = .int .i64 2 := f33.trans q33
   exact hopM_doM (za rfl) rfl (run_st M (k := 2) rfl _ _ _ rfl e37 e33 (#[.int .i64 2]) (msgA ⟨1, 2, 0, 0, (cond (SV 7) (nmB s) ("".toUTF8)), 0, 0, [], [], [], [], []⟩ ⟨zN, zN, zN, zN, zN⟩) rfl (zL rfl) (zeb _ _) (by kernel_rfl) (by kernel_rfl)) (fun w2 h2 => h2.sub ⟨rfl, rfl, rfl, rfl, rfl, trivial⟩) rfl
  ·intro ua uw SV pV M0 hk hn hd
   have M : Mx none w uw _ := M0
   clear M0
   have e9 : ua.eval (.tmp 9) = .pointer (some ⟨g8, 0, none⟩) := (show ua.eval (.tmp 9) = _ from hd 9 (by decide)).trans (F34.get (t := 9) rfl)
   exact zl (za rfl) (.pointer (some ⟨g8, 4, none⟩)) (y_fa (off := 4) rfl e9 (by kernel_rfl) rfl) rfl (M.sub ⟨rfl, rfl, rfl, rfl, rfl, trivial⟩)
  ·intro ua uw SV pV M0 hk hn hd
   have M : Mx none w uw _ := M0
   clear M0
   obtain ⟨s6, f38, q38⟩ := (show SV 6 = true ∧ ua.eval (.tmp 38) = pV 6 ∧ stE _ 6 (pV 6) from hd 38 (by decide))
   have e38 : ua.eval (.tmp 38) = .pointer (some ⟨g8, 4, none⟩) := f38.trans q38
   obtain ⟨s2, f35, q35⟩ := (show SV 2 = true ∧ ua.eval (.tmp 35) = pV 2 ∧ stE _ 2 (pV 2) from hd 35 (by decide))
   have e35 : ua.eval (.tmp 35) = .string (nmB s) := f35.trans q35
   exact hopM_doM (za rfl) rfl (run_st M (k := 2) rfl _ _ _ rfl e38 e35 (#[.string (nmB s)]) (msgA ⟨1, (cond (SV 5) 2 0), 0, 0, (nmB s), 0, 0, [], [], [], [], []⟩ ⟨zN, zN, zN, zN, zN⟩) rfl (zL rfl) (one_str _) (by kernel_rfl) (by kernel_rfl)) (fun w2 h2 => h2.sub ⟨rfl, rfl, rfl, rfl, rfl, trivial⟩) rfl
  intro p36 a36 w36 M36 G36 y36
  obtain ⟨-, -, -, q3, -, -, -, -, -⟩ := y36
  have r3 : p36 3 = numV ((1 + (n % 4294967295)).toNat) := q3
  replace M36 : Mx _ _ w36 [(0, bytR b v), (1, blkR g2 29 (msgA ⟨0, 0, 0, 0, "".toUTF8, 0, 0, [], [], [], [], []⟩ ⟨zN, zN, zN, zN, zN⟩)), (2, blkR g8 29 (msgA ⟨1, 2, 0, 0, (nmB s), 0, 0, [], [], [], [], []⟩ ⟨zN, zN, zN, zN, zN⟩)), (3, blkR g20 27 (numA ((1 + (n % 4294967295)).toNat))), (4, blkR g28 27 (numA ((1 + ((n.tdiv 3) % 70000)).toNat)))] := M36
  simp only [List.take, layV, Nat.zero_add, Nat.reduceAdd, r3] at G36
  refine rn rfl rfl G36 rfl (.pointer (some ⟨g8, 5, none⟩)) (y_fa (off := 5) rfl (G36.get rfl) (by kernel_rfl) rfl) fun _ F37 => ?_
  refine zn (za rfl) rfl F37 M36 (k := 2) rfl _ _ _ rfl (F37.get rfl) (F37.get rfl) (numA ((1 + (n % 4294967295)).toNat)) (msgA ⟨1, 2, 0, 0, (nmB s), (1 + (n % 4294967295)).toNat, 0, [], [], [], [], []⟩ ⟨zN, zN, zN, zN, zN⟩) rfl (zL rfl) (zaa _) (by kernel_rfl) z7 ?_
  intro w38 M38
  clear M36
  refine hK35 _ _ (zS fun _ hK39 => ?_)
  refine zR ?_
  refine zA 2 [(40, .int .i64 2), (41, .bool true)] [] dnil [] F37 fun _ F40 => ?_
  refine hK39 _ _ (wp_cond_true (F40.get rfl) ?_)
  refine zR ?_
  refine zA 2 [(42, numV ((1 + ((n.tdiv 3) % 70000)).toNat)), (43, .pointer (some ⟨g8, 13, none⟩))] [0] (zj (M38.blk (k := 4) rfl) dnil) [g28] F40 fun a41 F41 => ?_
  refine zn (za rfl) rfl F41 M38 (k := 2) rfl _ _ _ rfl (F41.get rfl) (F41.get rfl) (numA ((1 + ((n.tdiv 3) % 70000)).toNat)) (msgA ⟨1, 2, 0, 0, (nmB s), (1 + (n % 4294967295)).toNat, (1 + ((n.tdiv 3) % 70000)).toNat, [], [], [], [], []⟩ ⟨zN, zN, zN, zN, zN⟩) rfl (zL rfl) (zaa _) (by kernel_rfl) z7 ?_
  intro w42 M42
  clear M38
  refine hK30 _ _ (zS fun _ hK43 => ?_)
  refine zR ?_
  refine rn rfl rfl F41 rfl _ (zja _ _ rfl (F41.get rfl) (M42.blk (k := 2) rfl) (msgA ⟨1, 2, 0, 0, (nmB s), (1 + (n % 4294967295)).toNat, (1 + ((n.tdiv 3) % 70000)).toNat, [], [], [], [], []⟩ ⟨zN, zN, zN, zN, zN⟩) (zma rfl) Try.underlying29 rfl (by kernel_rfl)) fun a44 F44 => ?_
  refine zn (za rfl) rfl F44 M42 (k := 1) rfl _ _ _ rfl (F44.get rfl) (F44.get rfl) (msgA ⟨1, 2, 0, 0, (nmB s), (1 + (n % 4294967295)).toNat, (1 + ((n.tdiv 3) % 70000)).toNat, [], [], [], [], []⟩ ⟨zN, zN, zN, zN, zN⟩) _ rfl (zL rfl) (zy (w := w42) ⟨(zc _), (zc _), (zc _), (zc _), (zc _)⟩) (zt rfl) (by kernel_rfl) ?_
  intro w45 M45
  clear M42
  refine hK43 _ _ (wp_ret ?_)
  try simp only [Exit.then, Exit.inBlock, Exit.jump]
  exact bodyPost_ret (results_cell_row rfl _ _ _ _ _ (0, 0) _ (F44.get rfl) (M45.blk (k := 1) rfl) Try.underlying29 rfl (by kernel_rfl)) F44.defers ⟨_, rfl, ⟨zN, zN, zN, zN, zN⟩, (by rw [(show mkM kind n s b = (⟨1, 2, 0, 0, (nmB s), (1 + (n % 4294967295)).toNat, (1 + ((n.tdiv 3) % 70000)).toNat, [], [], [], [], []⟩ : MsgN) from by unfold mkM; simp only [hkk, hpp, ↓reduceIte, Int.reduceEq])]), (by rw [(show mkM kind n s b = (⟨1, 2, 0, 0, (nmB s), (1 + (n % 4294967295)).toNat, (1 + ((n.tdiv 3) % 70000)).toNat, [], [], [], [], []⟩ : MsgN) from by unfold mkM; simp only [hkk, hpp, ↓reduceIte, Int.reduceEq])]; exact ⟨(zc _), (zc _), (zc _), (zc _), (zc _)⟩), (fun g h => h.elim (fun h => (z6 _ h).elim) fun h => h.elim (fun h => (z6 _ h).elim) fun h => h.elim (fun h => (z6 _ h).elim) fun h => h.elim (fun h => (z6 _ h).elim) (fun h => (z6 _ h).elim)), M45.below⟩
 ·have hq : n % 2 = 0 ∨ n % 2 = 1 := by omega
  rcases hq with hpp | hpp
  ·refine zg (args := [.int .i64 kind, .int .i64 n, .string s, v]) 132 Try.func16 rfl rfl rfl ?_
   intro fa F
   have M := Mx.start w
   replace M := M.argB 0 hv (fun g e => by cases e)
   refine zT fun _ hK1 => ?_
   refine zf (za rfl) rfl F rfl M 1 (t := 29) (c := msgA ⟨0, 0, 0, 0, "".toUTF8, 0, 0, [], [], [], [], []⟩ ⟨zN, zN, zN, zN, zN⟩) (by unfold execOp; kernel_rfl) ?_
   intro g2 a2 w2 F2 M2
   clear F M
   refine hK1 _ _ (zS fun _ hK3 => ?_)
   refine zR ?_
   refine rm rfl F2 fun _ F4 => ?_
   refine zd (za rfl) rfl F4 rfl rfl (zE Try.func22 rfl) #[.int .i64 kind, .int .i64 12] (zea (F4.get rfl) rfl) (zh ((hkk ▸ zo kind 12 (by omega) (by omega) hkd.1 hkd.2 w2))) ?_
   rintro _ w5 a5 ⟨rfl, rfl⟩ F5
   refine rn rfl rfl F5 rfl (.int .i64 2) (zz _ _ _ _ rfl rfl (F5.get rfl) rfl (by omega)) fun _ F6 => ?_
   refine rn rfl rfl F6 rfl (.agg (msgA ⟨2, 0, 0, 0, "".toUTF8, 0, 0, [], [], [], [], []⟩ ⟨zN, zN, zN, zN, zN⟩)) (by unfold execOp; simp only [List.map_toArray, List.map_cons, List.map_nil, (F6.get (t := 15) rfl)]; kernel_rfl) fun _ F7 => ?_
   refine zf (za rfl) rfl F7 rfl M2 2 (t := 29) (c := msgA ⟨0, 0, 0, 0, "".toUTF8, 0, 0, [], [], [], [], []⟩ ⟨zN, zN, zN, zN, zN⟩) (by unfold execOp; kernel_rfl) ?_
   intro g8 a8 w8 F8 M8
   clear F7 M2
   refine zn (za rfl) rfl F8 M8 (k := 2) rfl _ _ _ rfl (F8.get rfl) (F8.get rfl) (msgA ⟨2, 0, 0, 0, "".toUTF8, 0, 0, [], [], [], [], []⟩ ⟨zN, zN, zN, zN, zN⟩) _ rfl (zL rfl) (zy (w := w8) ⟨(zc _), (zc _), (zc _), (zc _), (zc _)⟩) (zt rfl) (by kernel_rfl) ?_
   intro w9 M9
   clear M8
   refine hK3 _ _ (zS fun _ hK10 => ?_)
   refine zR ?_
   refine rm rfl F8 fun _ F11 => ?_
   refine zd (za rfl) rfl F11 rfl rfl (zE Try.func22 rfl) #[.int .i64 n, .int .i64 2] (zea (F11.get rfl) rfl) (zh ((hpp ▸ zo n 2 (by omega) (by omega) hN.1 hN.2 w9))) ?_
   rintro _ w12 a12 ⟨rfl, rfl⟩ F12
   refine rn rfl rfl F12 rfl (.int .i64 1) (zz _ _ _ _ rfl rfl (F12.get rfl) rfl (by omega)) fun _ F13 => ?_
   refine rm rfl F13 fun _ F14 => ?_
   refine hK10 _ _ (zS fun _ hK15 => ?_)
   refine zR ?_
   refine rm rfl F14 fun _ F16 => ?_
   refine zd (za rfl) rfl F16 rfl rfl (zE Try.func22 rfl) #[.int .i64 n, .int .i64 4294967295] (zea (F16.get rfl) rfl) (zh ((zo n 4294967295 (by omega) (by omega) hN.1 hN.2 w9))) ?_
   rintro _ w17 a17 ⟨rfl, rfl⟩ F17
   refine rn rfl rfl F17 rfl (.int .i64 (1 + (n % 4294967295))) (zz _ _ _ _ rfl rfl (F17.get rfl) rfl (by omega)) fun _ F18 => ?_
   refine zd (za rfl) rfl F18 rfl rfl (zE Try.func24 rfl) #[.int .i64 (1 + (n % 4294967295))] (zp (F18.get rfl)) (zh ((zra (1 + (n % 4294967295)) (by omega) (by omega) w9))) ?_
   rintro _ w19 a19 ⟨rfl, b19⟩ F19
   have M19 := M9.step b19
   refine zf (za rfl) rfl F19 rfl M19 3 (t := 27) (c := numA 0) (zda rfl) ?_
   intro g20 a20 w20 F20 M20
   clear F19 M19
   refine zn (za rfl) rfl F20 M20 (k := 3) rfl _ _ _ rfl (F20.get rfl) (F20.get rfl) (numA ((1 + (n % 4294967295)).toNat)) _ rfl (zL rfl) (zaa _) (zt rfl) z7 ?_
   intro w21 M21
   clear M20
   refine hK15 _ _ (zS fun _ hK22 => ?_)
   refine zR ?_
   refine rm rfl F20 fun _ F23 => ?_
   refine rn rfl rfl F23 rfl (.int .i64 (n.tdiv 3)) (y_quoT _ _ _ _ rfl (F23.get rfl) rfl hN (by decide) rfl) fun _ F24 => ?_
   refine zd (za rfl) rfl F24 rfl rfl (zE Try.func22 rfl) #[.int .i64 (n.tdiv 3), .int .i64 70000] (zea (F24.get rfl) rfl) (zh ((zo (n.tdiv 3) 70000 (by omega) (by omega) (zsa hN (show (0 : Int) < 3 by decide)).1 (Int.lt_of_le_of_lt (zsa hN (show (0 : Int) < 3 by decide)).2 (by decide)) w21))) ?_
   rintro _ w25 a25 ⟨rfl, rfl⟩ F25
   refine rn rfl rfl F25 rfl (.int .i64 (1 + ((n.tdiv 3) % 70000))) (zz _ _ _ _ rfl rfl (F25.get rfl) rfl (by omega)) fun _ F26 => ?_
   refine zd (za rfl) rfl F26 rfl rfl (zE Try.func24 rfl) #[.int .i64 (1 + ((n.tdiv 3) % 70000))] (zp (F26.get rfl)) (zh ((zra (1 + ((n.tdiv 3) % 70000)) (by omega) (by omega) w21))) ?_
   rintro _ w27 a27 ⟨rfl, b27⟩ F27
   have M27 := M21.step b27
   refine zf (za rfl) rfl F27 rfl M27 4 (t := 27) (c := numA 0) (zda rfl) ?_
   intro g28 a28 w28 F28 M28
   clear F27 M27
   refine zn (za rfl) rfl F28 M28 (k := 4) rfl _ _ _ rfl (F28.get rfl) (F28.get rfl) (numA ((1 + ((n.tdiv 3) % 70000)).toNat)) _ rfl (zL rfl) (zaa _) (zt rfl) z7 ?_
   intro w29 M29
   clear M28
   refine hK22 _ _ (zS fun _ hK30 => ?_)
   refine zT fun _ hK31 => ?_
   refine zA 2 [(29, .pointer (some ⟨g8, 0, none⟩)), (30, .int .i64 2)] [0] (zj (M29.blk (k := 2) rfl) dnil) [g8] F28 fun _ F32 => ?_
   refine hK31 _ _ (wp_block ?_)
   refine zT fun _ hK33 => ?_
   refine zA 2 [(32, .bool false), (31, .bool false)] [] dnil [] F32 fun _ F34 => ?_
   refine hK33 _ _ (wp_cond_false (F34.get rfl) ?_)
   refine zT fun _ hK35 => ?_
   refine zA 2 [(45, .bool true), (44, .bool true)] [] dnil [] F34 fun a36 F36 => ?_
   refine hK35 _ _ (wp_cond_true (F36.get rfl) ?_)
   refine zS fun _ hK37 => ?_
   refine z1b F36 [fun vE => vE = .int .i64 1, fun vE => vE = numV ((1 + (n % 4294967295)).toNat), fun vE => vE = .pointer (some ⟨g8, 1, none⟩), fun vE => vE = undef] (JM none w fun SV pV => [(0, bytR b v), (1, blkR g2 29 (msgA ⟨0, 0, 0, 0, "".toUTF8, 0, 0, [], [], [], [], []⟩ ⟨zN, zN, zN, zN, zN⟩)), (2, blkR g8 29 (msgA ⟨2, (cond (SV 3) 1 0), 0, 0, "".toUTF8, 0, 0, [], [], [], [], []⟩ ⟨zN, zN, zN, zN, zN⟩)), (3, blkR g20 27 (numA ((1 + (n % 4294967295)).toNat))), (4, blkR g28 27 (numA ((1 + ((n.tdiv 3) % 70000)).toNat)))]) 4 rfl (by kernel_rfl) rfl ⟨trivial, trivial, trivial, fun _ => Iff.rfl, trivial⟩ (fun p => (M29.step (zib _)).sub ⟨rfl, rfl, rfl, rfl, rfl, trivial⟩) ⟨?_, ?_, ?_, ?_, trivial⟩ ?_
   ·intro ua uw SV pV M0 hk hn hd
    have M : Mx none w uw _ := M0
    clear M0
    have e10 : ua.eval (.tmp 10) = .int .i64 1 := (show ua.eval (.tmp 10) = _ from hd 10 (by decide)).trans (F36.get (t := 10) rfl)
    exact zl (za rfl) (.int .i64 1) (zua _ (.inl rfl) e10) rfl (M.sub ⟨rfl, rfl, rfl, rfl, rfl, trivial⟩)
   ·intro ua uw SV pV M0 hk hn hd
    have M : Mx none w uw _ := M0
    clear M0
    have e11 : ua.eval (.tmp 11) = .pointer (some ⟨g20, 0, none⟩) := (show ua.eval (.tmp 11) = _ from hd 11 (by decide)).trans (F36.get (t := 11) rfl)
    exact zl (za rfl) (numV ((1 + (n % 4294967295)).toNat)) (zja _ _ rfl e11 (M.blk (k := 3) rfl) (numA ((1 + (n % 4294967295)).toNat)) (zma rfl) Try.underlying27 rfl z7) rfl (M.sub ⟨rfl, rfl, rfl, rfl, rfl, trivial⟩)
   ·intro ua uw SV pV M0 hk hn hd
    have M : Mx none w uw _ := M0
    clear M0
    have e9 : ua.eval (.tmp 9) = .pointer (some ⟨g8, 0, none⟩) := (show ua.eval (.tmp 9) = _ from hd 9 (by decide)).trans (F36.get (t := 9) rfl)
    exact zl (za rfl) (.pointer (some ⟨g8, 1, none⟩)) (y_fa (off := 1) rfl e9 (by kernel_rfl) rfl) rfl (M.sub ⟨rfl, rfl, rfl, rfl, rfl, trivial⟩)
   ·intro ua uw SV pV M0 hk hn hd
    have M : Mx none w uw _ := M0
    clear M0
    obtain ⟨s2, f48, q48⟩ := (show SV 2 = true ∧ ua.eval (.tmp 48) = pV 2 ∧ stE _ 2 (pV 2) from hd 48 (by decide))
    have e48 : ua.eval (.tmp 48) = .pointer (some ⟨g8, 1, none⟩) := f48.trans q48
    obtain ⟨s0, f46, q46⟩ := (show SV 0 = true ∧ ua.eval (.tmp 46) = pV 0 ∧ stE _ 0 (pV 0) from hd 46 (by decide))
    have e46 : ua.eval (.tmp 46) = .int .i64 1 := f46.trans q46
    exact hopM_doM (za rfl) rfl (run_st M (k := 2) rfl _ _ _ rfl e48 e46 (#[.int .i64 1]) (msgA ⟨2, 1, 0, 0, "".toUTF8, 0, 0, [], [], [], [], []⟩ ⟨zN, zN, zN, zN, zN⟩) rfl (zL rfl) (zeb _ _) (by kernel_rfl) (by kernel_rfl)) (fun w2 h2 => h2.sub ⟨rfl, rfl, rfl, rfl, rfl, trivial⟩) rfl
   intro p38 a38 w38 M38 G38 y38
   obtain ⟨-, q1, -, -, -⟩ := y38
   have r1 : p38 1 = numV ((1 + (n % 4294967295)).toNat) := q1
   replace M38 : Mx _ _ w38 [(0, bytR b v), (1, blkR g2 29 (msgA ⟨0, 0, 0, 0, "".toUTF8, 0, 0, [], [], [], [], []⟩ ⟨zN, zN, zN, zN, zN⟩)), (2, blkR g8 29 (msgA ⟨2, 1, 0, 0, "".toUTF8, 0, 0, [], [], [], [], []⟩ ⟨zN, zN, zN, zN, zN⟩)), (3, blkR g20 27 (numA ((1 + (n % 4294967295)).toNat))), (4, blkR g28 27 (numA ((1 + ((n.tdiv 3) % 70000)).toNat)))] := M38
   simp only [List.take, layV, Nat.zero_add, Nat.reduceAdd, r1] at G38
   refine rn rfl rfl G38 rfl (.pointer (some ⟨g8, 13, none⟩)) (y_fa (off := 13) rfl (G38.get rfl) (by kernel_rfl) rfl) fun _ F39 => ?_
   refine zn (za rfl) rfl F39 M38 (k := 2) rfl _ _ _ rfl (F39.get rfl) (F39.get rfl) (numA ((1 + (n % 4294967295)).toNat)) (msgA ⟨2, 1, 0, 0, "".toUTF8, 0, (1 + (n % 4294967295)).toNat, [], [], [], [], []⟩ ⟨zN, zN, zN, zN, zN⟩) rfl (zL rfl) (zaa _) (by kernel_rfl) z7 ?_
   intro w40 M40
   clear M38
   refine hK37 _ _ (zS fun _ hK41 => ?_)
   refine zR ?_
   refine zA 2 [(50, .int .i64 1), (51, .bool false)] [] dnil [] F39 fun _ F42 => ?_
   refine hK41 _ _ (wp_cond_false (F42.get rfl) ?_)
   refine zR ?_
   refine rm rfl F42 fun a43 F43 => ?_
   refine rm rfl F43 fun a44 F44 => ?_
   refine zd (za rfl) rfl F44 rfl rfl (zE Try.func43 rfl) #[v, .int .i64 n, .int .i64 16] (args3 (F44.get rfl) (F44.get rfl) rfl) ((zac b (v) n 16 (1 + n % 16).toNat (by omega) (by decide) (by decide) hN w40 (M40.isb (k := 0) rfl))) ?_
   rintro v45 w45 a45 h45 F45
   have M45 := M40.newO h45.2 5 h45.1
   clear M40 h45
   obtain ⟨A45, c45, rfl⟩ := (M45.isO (k := 5) rfl).shape
   refine rn rfl rfl F45 rfl (.pointer (some ⟨g8, 21, none⟩)) (y_fa (off := 21) rfl (F45.get rfl) (by kernel_rfl) rfl) fun _ F46 => ?_
   refine zn (za rfl) rfl F46 M45 (k := 2) rfl _ _ _ rfl (F46.get rfl) (F46.get rfl) (#[.slice A45 ((zw b n (1 + n % 16).toNat)).length c45]) (msgA ⟨2, 1, 0, 0, "".toUTF8, 0, (1 + (n % 4294967295)).toNat, (zw b n (1 + n % 16).toNat), [], [], [], []⟩ ⟨.slice A45 ((zw b n (1 + n % 16).toNat)).length c45, zN, zN, zN, zN⟩) rfl (zL rfl) (z9b (M45.isO (k := 5) rfl)) (by kernel_rfl) (by kernel_rfl) ?_
   intro w47 M47
   clear M45
   refine hK30 _ _ (zS fun _ hK48 => ?_)
   refine zR ?_
   refine rn rfl rfl F46 rfl _ (zja _ _ rfl (F46.get rfl) (M47.blk (k := 2) rfl) (msgA ⟨2, 1, 0, 0, "".toUTF8, 0, (1 + (n % 4294967295)).toNat, (zw b n (1 + n % 16).toNat), [], [], [], []⟩ ⟨.slice A45 ((zw b n (1 + n % 16).toNat)).length c45, zN, zN, zN, zN⟩) (zma rfl) Try.underlying29 rfl (by kernel_rfl)) fun _ F49 => ?_
   refine zn (za rfl) rfl F49 M47 (k := 1) rfl _ _ _ rfl (F49.get rfl) (F49.get rfl) (msgA ⟨2, 1, 0, 0, "".toUTF8, 0, (1 + (n % 4294967295)).toNat, (zw b n (1 + n % 16).toNat), [], [], [], []⟩ ⟨.slice A45 ((zw b n (1 + n % 16).toNat)).length c45, zN, zN, zN, zN⟩) _ rfl (zL rfl) (zy (w := w47) ⟨(M47.isO (k := 5) rfl), (zc _), (zc _), (zc _), (zc _)⟩) (zt rfl) (by kernel_rfl) ?_
   intro w50 M50
   clear M47
   refine hK48 _ _ (wp_ret ?_)
   try simp only [Exit.then, Exit.inBlock, Exit.jump]
   exact bodyPost_ret (results_cell_row rfl _ _ _ _ _ (0, 0) _ (F49.get rfl) (M50.blk (k := 1) rfl) Try.underlying29 rfl (by kernel_rfl)) F49.defers ⟨_, rfl, ⟨.slice A45 ((zw b n (1 + n % 16).toNat)).length c45, zN, zN, zN, zN⟩, (by rw [(show mkM kind n s b = (⟨2, 1, 0, 0, "".toUTF8, 0, (1 + (n % 4294967295)).toNat, (zw b n (1 + n % 16).toNat), [], [], [], []⟩ : MsgN) from by unfold mkM; simp only [hkk, hpp, ↓reduceIte, Int.reduceEq])]), (by rw [(show mkM kind n s b = (⟨2, 1, 0, 0, "".toUTF8, 0, (1 + (n % 4294967295)).toNat, (zw b n (1 + n % 16).toNat), [], [], [], []⟩ : MsgN) from by unfold mkM; simp only [hkk, hpp, ↓reduceIte, Int.reduceEq])]; exact ⟨(M50.isO (k := 5) rfl), (zc _), (zc _), (zc _), (zc _)⟩), (fun g h => h.elim (fun h => M50.owns (k := 5) rfl g (zva h)) fun h => h.elim (fun h => (z6 _ h).elim) fun h => h.elim (fun h => (z6 _ h).elim) fun h => h.elim (fun h => (z6 _ h).elim) (fun h => (z6 _ h).elim)), M50.below⟩
  refine zg (args := [.int .i64 kind, .int .i64 n, .string s, v]) 132 Try.func16 rfl rfl rfl ?_
  intro fa F
  have M := Mx.start w
  replace M := M.argB 0 hv (fun g e => by cases e)
  refine zT fun _ hK1 => ?_
  refine zf (za rfl) rfl F rfl M 1 (t := 29) (c := msgA ⟨0, 0, 0, 0, "".toUTF8, 0, 0, [], [], [], [], []⟩ ⟨zN, zN, zN, zN, zN⟩) (by unfold execOp; kernel_rfl) ?_
  intro g2 a2 w2 F2 M2
  clear F M
  refine hK1 _ _ (zS fun _ hK3 => ?_)
  refine zR ?_
  refine rm rfl F2 fun _ F4 => ?_
  refine zd (za rfl) rfl F4 rfl rfl (zE Try.func22 rfl) #[.int .i64 kind, .int .i64 12] (zea (F4.get rfl) rfl) (zh ((hkk ▸ zo kind 12 (by omega) (by omega) hkd.1 hkd.2 w2))) ?_
  rintro _ w5 a5 ⟨rfl, rfl⟩ F5
  refine rn rfl rfl F5 rfl (.int .i64 2) (zz _ _ _ _ rfl rfl (F5.get rfl) rfl (by omega)) fun _ F6 => ?_
  refine rn rfl rfl F6 rfl (.agg (msgA ⟨2, 0, 0, 0, "".toUTF8, 0, 0, [], [], [], [], []⟩ ⟨zN, zN, zN, zN, zN⟩)) (by unfold execOp; simp only [List.map_toArray, List.map_cons, List.map_nil, (F6.get (t := 15) rfl)]; kernel_rfl) fun _ F7 => ?_
  refine zf (za rfl) rfl F7 rfl M2 2 (t := 29) (c := msgA ⟨0, 0, 0, 0, "".toUTF8, 0, 0, [], [], [], [], []⟩ ⟨zN, zN, zN, zN, zN⟩) (by unfold execOp; kernel_rfl) ?_
  intro g8 a8 w8 F8 M8
  clear F7 M2
  refine zn (za rfl) rfl F8 M8 (k := 2) rfl _ _ _ rfl (F8.get rfl) (F8.get rfl) (msgA ⟨2, 0, 0, 0, "".toUTF8, 0, 0, [], [], [], [], []⟩ ⟨zN, zN, zN, zN, zN⟩) _ rfl (zL rfl) (zy (w := w8) ⟨(zc _), (zc _), (zc _), (zc _), (zc _)⟩) (zt rfl) (by kernel_rfl) ?_
  intro w9 M9
  clear M8
  refine hK3 _ _ (zS fun _ hK10 => ?_)
  refine zR ?_
  refine rm rfl F8 fun _ F11 => ?_
  refine zd (za rfl) rfl F11 rfl rfl (zE Try.func22 rfl) #[.int .i64 n, .int .i64 2] (zea (F11.get rfl) rfl) (zh ((hpp ▸ zo n 2 (by omega) (by omega) hN.1 hN.2 w9))) ?_
  rintro _ w12 a12 ⟨rfl, rfl⟩ F12
  refine rn rfl rfl F12 rfl (.int .i64 2) (zz _ _ _ _ rfl rfl (F12.get rfl) rfl (by omega)) fun _ F13 => ?_
  refine rm rfl F13 fun _ F14 => ?_
  refine hK10 _ _ (zS fun _ hK15 => ?_)
  refine zR ?_
  refine rm rfl F14 fun _ F16 => ?_
  refine zd (za rfl) rfl F16 rfl rfl (zE Try.func22 rfl) #[.int .i64 n, .int .i64 4294967295] (zea (F16.get rfl) rfl) (zh ((zo n 4294967295 (by omega) (by omega) hN.1 hN.2 w9))) ?_
  rintro _ w17 a17 ⟨rfl, rfl⟩ F17
  refine rn rfl rfl F17 rfl (.int .i64 (1 + (n % 4294967295))) (zz _ _ _ _ rfl rfl (F17.get rfl) rfl (by omega)) fun _ F18 => ?_
  refine zd (za rfl) rfl F18 rfl rfl (zE Try.func24 rfl) #[.int .i64 (1 + (n % 4294967295))] (zp (F18.get rfl)) (zh ((zra (1 + (n % 4294967295)) (by omega) (by omega) w9))) ?_
  rintro _ w19 a19 ⟨rfl, b19⟩ F19
  have M19 := M9.step b19
  refine zf (za rfl) rfl F19 rfl M19 3 (t := 27) (c := numA 0) (zda rfl) ?_
  intro g20 a20 w20 F20 M20
  clear F19 M19
  refine zn (za rfl) rfl F20 M20 (k := 3) rfl _ _ _ rfl (F20.get rfl) (F20.get rfl) (numA ((1 + (n % 4294967295)).toNat)) _ rfl (zL rfl) (zaa _) (zt rfl) z7 ?_
  intro w21 M21
  clear M20
  refine hK15 _ _ (zS fun _ hK22 => ?_)
  refine zR ?_
  refine rm rfl F20 fun _ F23 => ?_
  refine rn rfl rfl F23 rfl (.int .i64 (n.tdiv 3)) (y_quoT _ _ _ _ rfl (F23.get rfl) rfl hN (by decide) rfl) fun _ F24 => ?_
  refine zd (za rfl) rfl F24 rfl rfl (zE Try.func22 rfl) #[.int .i64 (n.tdiv 3), .int .i64 70000] (zea (F24.get rfl) rfl) (zh ((zo (n.tdiv 3) 70000 (by omega) (by omega) (zsa hN (show (0 : Int) < 3 by decide)).1 (Int.lt_of_le_of_lt (zsa hN (show (0 : Int) < 3 by decide)).2 (by decide)) w21))) ?_
  rintro _ w25 a25 ⟨rfl, rfl⟩ F25
  refine rn rfl rfl F25 rfl (.int .i64 (1 + ((n.tdiv 3) % 70000))) (zz _ _ _ _ rfl rfl (F25.get rfl) rfl (by omega)) fun _ F26 => ?_
  refine zd (za rfl) rfl F26 rfl rfl (zE Try.func24 rfl) #[.int .i64 (1 + ((n.tdiv 3) % 70000))] (zp (F26.get rfl)) (zh ((zra (1 + ((n.tdiv 3) % 70000)) (by omega) (by omega) w21))) ?_
  rintro _ w27 a27 ⟨rfl, b27⟩ F27
  have M27 := M21.step b27
  refine zf (za rfl) rfl F27 rfl M27 4 (t := 27) (c := numA 0) (zda rfl) ?_
  intro g28 a28 w28 F28 M28
  clear F27 M27
  refine zn (za rfl) rfl F28 M28 (k := 4) rfl _ _ _ rfl (F28.get rfl) (F28.get rfl) (numA ((1 + ((n.tdiv 3) % 70000)).toNat)) _ rfl (zL rfl) (zaa _) (zt rfl) z7 ?_
  intro w29 M29
  clear M28
  refine hK22 _ _ (zS fun _ hK30 => ?_)
  refine zT fun _ hK31 => ?_
  refine zA 2 [(29, .pointer (some ⟨g8, 0, none⟩)), (30, .int .i64 2)] [0] (zj (M29.blk (k := 2) rfl) dnil) [g8] F28 fun _ F32 => ?_
  refine hK31 _ _ (wp_block ?_)
  refine zT fun _ hK33 => ?_
  refine zA 2 [(32, .bool false), (31, .bool false)] [] dnil [] F32 fun _ F34 => ?_
  refine hK33 _ _ (wp_cond_false (F34.get rfl) ?_)
  refine zT fun _ hK35 => ?_
  refine zA 2 [(45, .bool true), (44, .bool true)] [] dnil [] F34 fun a36 F36 => ?_
  refine hK35 _ _ (wp_cond_true (F36.get rfl) ?_)
  refine zS fun _ hK37 => ?_
  refine z1b F36 [fun vE => vE = .int .i64 2, fun vE => vE = numV ((1 + (n % 4294967295)).toNat), fun vE => vE = .pointer (some ⟨g8, 1, none⟩), fun vE => vE = undef] (JM none w fun SV pV => [(0, bytR b v), (1, blkR g2 29 (msgA ⟨0, 0, 0, 0, "".toUTF8, 0, 0, [], [], [], [], []⟩ ⟨zN, zN, zN, zN, zN⟩)), (2, blkR g8 29 (msgA ⟨2, (cond (SV 3) 2 0), 0, 0, "".toUTF8, 0, 0, [], [], [], [], []⟩ ⟨zN, zN, zN, zN, zN⟩)), (3, blkR g20 27 (numA ((1 + (n % 4294967295)).toNat))), (4, blkR g28 27 (numA ((1 + ((n.tdiv 3) % 70000)).toNat)))]) 4 rfl (by kernel_rfl) rfl ⟨trivial, trivial, trivial, fun _ => Iff.rfl, trivial⟩ (fun p => (M29.step (zib _)).sub ⟨rfl, rfl, rfl, rfl, rfl, trivial⟩) ⟨?_, ?_, ?_, ?_, trivial⟩ ?_
  ·intro ua uw SV pV M0 hk hn hd
   have M : Mx none w uw _ := M0
   clear M0
   have e10 : ua.eval (.tmp 10) = .int .i64 2 := (show ua.eval (.tmp 10) = _ from hd 10 (by decide)).trans (F36.get (t := 10) rfl)
   exact zl (za rfl) (.int .i64 2) (zua _ (.inl rfl) e10) rfl (M.sub ⟨rfl, rfl, rfl, rfl, rfl, trivial⟩)
  ·intro ua uw SV pV M0 hk hn hd
   have M : Mx none w uw _ := M0
   clear M0
   have e11 : ua.eval (.tmp 11) = .pointer (some ⟨g20, 0, none⟩) := (show ua.eval (.tmp 11) = _ from hd 11 (by decide)).trans (F36.get (t := 11) rfl)
   exact zl (za rfl) (numV ((1 + (n % 4294967295)).toNat)) (zja _ _ rfl e11 (M.blk (k := 3) rfl) (numA ((1 + (n % 4294967295)).toNat)) (zma rfl) Try.underlying27 rfl z7) rfl (M.sub ⟨rfl, rfl, rfl, rfl, rfl, trivial⟩)
  ·intro ua uw SV pV M0 hk hn hd
   have M : Mx none w uw _ := M0
   clear M0
   have e9 : ua.eval (.tmp 9) = .pointer (some ⟨g8, 0, none⟩) := (show ua.eval (.tmp 9) = _ from hd 9 (by decide)).trans (F36.get (t := 9) rfl)
   exact zl (za rfl) (.pointer (some ⟨g8, 1, none⟩)) (y_fa (off := 1) rfl e9 (by kernel_rfl) rfl) rfl (M.sub ⟨rfl, rfl, rfl, rfl, rfl, trivial⟩)
  ·intro ua uw SV pV M0 hk hn hd
   have M : Mx none w uw _ := M0
   clear M0
   obtain ⟨s2, f48, q48⟩ := (show SV 2 = true ∧ ua.eval (.tmp 48) = pV 2 ∧ stE _ 2 (pV 2) from hd 48 (by decide))
   have e48 : ua.eval (.tmp 48) = .pointer (some ⟨g8, 1, none⟩) := f48.trans q48
   obtain ⟨s0, f46, q46⟩ := (show SV 0 = true ∧ ua.eval (.tmp 46) = pV 0 ∧ stE _ 0 (pV 0) from hd 46 (by decide))
   have e46 : ua.eval (.tmp 46) = .int .i64 2 := f46.trans q46
   exact hopM_doM (za rfl) rfl (run_st M (k := 2) rfl _ _ _ rfl e48 e46 (#[.int .i64 2]) (msgA ⟨2, 2, 0, 0, "".toUTF8, 0, 0, [], [], [], [], []⟩ ⟨zN, zN, zN, zN, zN⟩) rfl (zL rfl) (zeb _ _) (by kernel_rfl) (by kernel_rfl)) (fun w2 h2 => h2.sub ⟨rfl, rfl, rfl, rfl, rfl, trivial⟩) rfl
  intro p38 a38 w38 M38 G38 y38
  obtain ⟨-, q1, -, -, -⟩ := y38
  have r1 : p38 1 = numV ((1 + (n % 4294967295)).toNat) := q1
  replace M38 : Mx _ _ w38 [(0, bytR b v), (1, blkR g2 29 (msgA ⟨0, 0, 0, 0, "".toUTF8, 0, 0, [], [], [], [], []⟩ ⟨zN, zN, zN, zN, zN⟩)), (2, blkR g8 29 (msgA ⟨2, 2, 0, 0, "".toUTF8, 0, 0, [], [], [], [], []⟩ ⟨zN, zN, zN, zN, zN⟩)), (3, blkR g20 27 (numA ((1 + (n % 4294967295)).toNat))), (4, blkR g28 27 (numA ((1 + ((n.tdiv 3) % 70000)).toNat)))] := M38
  simp only [List.take, layV, Nat.zero_add, Nat.reduceAdd, r1] at G38
  refine rn rfl rfl G38 rfl (.pointer (some ⟨g8, 13, none⟩)) (y_fa (off := 13) rfl (G38.get rfl) (by kernel_rfl) rfl) fun _ F39 => ?_
  refine zn (za rfl) rfl F39 M38 (k := 2) rfl _ _ _ rfl (F39.get rfl) (F39.get rfl) (numA ((1 + (n % 4294967295)).toNat)) (msgA ⟨2, 2, 0, 0, "".toUTF8, 0, (1 + (n % 4294967295)).toNat, [], [], [], [], []⟩ ⟨zN, zN, zN, zN, zN⟩) rfl (zL rfl) (zaa _) (by kernel_rfl) z7 ?_
  intro w40 M40
  clear M38
  refine hK37 _ _ (zS fun _ hK41 => ?_)
  refine zR ?_
  refine zA 2 [(50, .int .i64 2), (51, .bool true)] [] dnil [] F39 fun _ F42 => ?_
  refine hK41 _ _ (wp_cond_true (F42.get rfl) ?_)
  refine z1b F42 [fun vE => vE = numV ((1 + ((n.tdiv 3) % 70000)).toNat), fun vE => vE = v, fun vE => vE = .int .i64 n, fun _ => True, fun vE => vE = .pointer (some ⟨g8, 5, none⟩)] (JM none w fun SV pV => [(0, bytR b v), (1, blkR g2 29 (msgA ⟨0, 0, 0, 0, "".toUTF8, 0, 0, [], [], [], [], []⟩ ⟨zN, zN, zN, zN, zN⟩)), (2, blkR g8 29 (msgA ⟨2, 2, 0, 0, "".toUTF8, 0, (1 + (n % 4294967295)).toNat, [], [], [], [], []⟩ ⟨zN, zN, zN, zN, zN⟩)), (3, blkR g20 27 (numA ((1 + (n % 4294967295)).toNat))), (4, blkR g28 27 (numA ((1 + ((n.tdiv 3) % 70000)).toNat))), (5, condR (SV 3) (ownR (zw b n (1 + n % 48).toNat) (pV 3)))]) 5 rfl (by kernel_rfl) rfl ⟨trivial, trivial, trivial, trivial, trivial, trivial⟩ (fun p => ((M40.step (zib _)).triv 5).sub ⟨rfl, rfl, rfl, rfl, rfl, rfl, trivial⟩) ⟨?_, ?_, ?_, ?_, ?_, trivial⟩ ?_
  ·intro ua uw SV pV M0 hk hn hd
   have M : Mx none w uw _ := M0
   clear M0
   have e12 : ua.eval (.tmp 12) = .pointer (some ⟨g28, 0, none⟩) := (show ua.eval (.tmp 12) = _ from hd 12 (by decide)).trans (F42.get (t := 12) rfl)
   exact zl (za rfl) (numV ((1 + ((n.tdiv 3) % 70000)).toNat)) (zja _ _ rfl e12 (M.blk (k := 4) rfl) (numA ((1 + ((n.tdiv 3) % 70000)).toNat)) (zma rfl) Try.underlying27 rfl z7) rfl (M.sub ⟨rfl, rfl, rfl, rfl, rfl, rfl, trivial⟩)
  ·intro ua uw SV pV M0 hk hn hd
   have M : Mx none w uw _ := M0
   clear M0
   have e3 : ua.eval (.tmp 3) = v := (show ua.eval (.tmp 3) = _ from hd 3 (by decide)).trans (F42.get (t := 3) rfl)
   exact zl (za rfl) (v) (zua _ (.inl rfl) e3) rfl (M.sub ⟨rfl, rfl, rfl, rfl, rfl, rfl, trivial⟩)
  ·intro ua uw SV pV M0 hk hn hd
   have M : Mx none w uw _ := M0
   clear M0
   have e1 : ua.eval (.tmp 1) = .int .i64 n := (show ua.eval (.tmp 1) = _ from hd 1 (by decide)).trans (F42.get (t := 1) rfl)
   exact zl (za rfl) (.int .i64 n) (zua _ (.inl rfl) e1) rfl (M.sub ⟨rfl, rfl, rfl, rfl, rfl, rfl, trivial⟩)
  ·intro ua uw SV pV M0 hk hn hd
   have M : Mx none w uw _ := M0
   clear M0
   obtain ⟨s1, f53, q53⟩ := (show SV 1 = true ∧ ua.eval (.tmp 53) = pV 1 ∧ stE _ 1 (pV 1) from hd 53 (by decide))
   have e53 : ua.eval (.tmp 53) = v := f53.trans q53
   obtain ⟨s2, f54, q54⟩ := (show SV 2 = true ∧ ua.eval (.tmp 54) = pV 2 ∧ stE _ 2 (pV 2) from hd 54 (by decide))
   have e54 : ua.eval (.tmp 54) = .int .i64 n := f54.trans q54
   exact hopM_call (za rfl) rfl #[v, .int .i64 n, .int .i64 48] (args3 e53 e54 rfl) (zE Try.func43 rfl) (((zac b (v) n 48 (1 + n % 48).toNat (by omega) (by decide) (by decide) hN uw (M.isb (k := 0) rfl))).mono fun e w2 h => (by obtain ⟨u, h1, h2, h3⟩ := h; exact ⟨u, h1, trivial, (M.newO h3 5 h2).sub ⟨rfl, rfl, rfl, rfl, rfl, rfl, trivial⟩⟩))
  ·intro ua uw SV pV M0 hk hn hd
   have M : Mx none w uw _ := M0
   clear M0
   have e9 : ua.eval (.tmp 9) = .pointer (some ⟨g8, 0, none⟩) := (show ua.eval (.tmp 9) = _ from hd 9 (by decide)).trans (F42.get (t := 9) rfl)
   exact zl (za rfl) (.pointer (some ⟨g8, 5, none⟩)) (y_fa (off := 5) rfl e9 (by kernel_rfl) rfl) rfl (M.sub ⟨rfl, rfl, rfl, rfl, rfl, rfl, trivial⟩)
  intro p43 a43 w43 M43 G43 y43
  obtain ⟨q0, -, -, q3, q4, -⟩ := y43
  have r0 : p43 0 = numV ((1 + ((n.tdiv 3) % 70000)).toNat) := q0
  have r4 : p43 4 = .pointer (some ⟨g8, 5, none⟩) := q4
  replace M43 : Mx _ _ w43 [(0, bytR b v), (1, blkR g2 29 (msgA ⟨0, 0, 0, 0, "".toUTF8, 0, 0, [], [], [], [], []⟩ ⟨zN, zN, zN, zN, zN⟩)), (2, blkR g8 29 (msgA ⟨2, 2, 0, 0, "".toUTF8, 0, (1 + (n % 4294967295)).toNat, [], [], [], [], []⟩ ⟨zN, zN, zN, zN, zN⟩)), (3, blkR g20 27 (numA ((1 + (n % 4294967295)).toNat))), (4, blkR g28 27 (numA ((1 + ((n.tdiv 3) % 70000)).toNat))), (5, condR true (ownR (zw b n (1 + n % 48).toNat) (p43 3)))] := M43
  simp only [List.take, layV, Nat.zero_add, Nat.reduceAdd, r0, r4] at G43
  obtain ⟨Ap43_5, cp43_5, hp43_5⟩ := (M43.isO (k := 5) rfl).shape
  rw [hp43_5] at M43
  try rw [hp43_5] at G43
  refine zn (za rfl) rfl G43 M43 (k := 2) rfl _ _ _ rfl (G43.get rfl) (G43.get rfl) (numA ((1 + ((n.tdiv 3) % 70000)).toNat)) (msgA ⟨2, 2, 0, 0, "".toUTF8, (1 + ((n.tdiv 3) % 70000)).toNat, (1 + (n % 4294967295)).toNat, [], [], [], [], []⟩ ⟨zN, zN, zN, zN, zN⟩) rfl (zL rfl) (zaa _) (by kernel_rfl) z7 ?_
  intro w44 M44
  clear M43
  refine rn rfl rfl G43 rfl (.pointer (some ⟨g8, 22, none⟩)) (y_fa (off := 22) rfl (G43.get rfl) (by kernel_rfl) rfl) fun a45 F45 => ?_
  refine zn (za rfl) rfl F45 M44 (k := 2) rfl _ _ _ rfl (F45.get rfl) (F45.get rfl) (#[(.slice Ap43_5 ((zw b n (1 + n % 48).toNat)).length cp43_5)]) (msgA ⟨2, 2, 0, 0, "".toUTF8, (1 + ((n.tdiv 3) % 70000)).toNat, (1 + (n % 4294967295)).toNat, [], (zw b n (1 + n % 48).toNat), [], [], []⟩ ⟨zN, (.slice Ap43_5 ((zw b n (1 + n % 48).toNat)).length cp43_5), zN, zN, zN⟩) rfl (zL rfl) (z9b (M44.isO (k := 5) rfl)) (by kernel_rfl) (by kernel_rfl) ?_
  intro w46 M46
  clear M44
  refine hK30 _ _ (zS fun _ hK47 => ?_)
  refine zR ?_
  refine rn rfl rfl F45 rfl _ (zja _ _ rfl (F45.get rfl) (M46.blk (k := 2) rfl) (msgA ⟨2, 2, 0, 0, "".toUTF8, (1 + ((n.tdiv 3) % 70000)).toNat, (1 + (n % 4294967295)).toNat, [], (zw b n (1 + n % 48).toNat), [], [], []⟩ ⟨zN, (.slice Ap43_5 ((zw b n (1 + n % 48).toNat)).length cp43_5), zN, zN, zN⟩) (zma rfl) Try.underlying29 rfl (by kernel_rfl)) fun _ F48 => ?_
  refine zn (za rfl) rfl F48 M46 (k := 1) rfl _ _ _ rfl (F48.get rfl) (F48.get rfl) (msgA ⟨2, 2, 0, 0, "".toUTF8, (1 + ((n.tdiv 3) % 70000)).toNat, (1 + (n % 4294967295)).toNat, [], (zw b n (1 + n % 48).toNat), [], [], []⟩ ⟨zN, (.slice Ap43_5 ((zw b n (1 + n % 48).toNat)).length cp43_5), zN, zN, zN⟩) _ rfl (zL rfl) (zy (w := w46) ⟨(zc _), (M46.isO (k := 5) rfl), (zc _), (zc _), (zc _)⟩) (zt rfl) (by kernel_rfl) ?_
  intro w49 M49
  clear M46
  refine hK47 _ _ (wp_ret ?_)
  try simp only [Exit.then, Exit.inBlock, Exit.jump]
  exact bodyPost_ret (results_cell_row rfl _ _ _ _ _ (0, 0) _ (F48.get rfl) (M49.blk (k := 1) rfl) Try.underlying29 rfl (by kernel_rfl)) F48.defers ⟨_, rfl, ⟨zN, (.slice Ap43_5 ((zw b n (1 + n % 48).toNat)).length cp43_5), zN, zN, zN⟩, (by rw [(show mkM kind n s b = (⟨2, 2, 0, 0, "".toUTF8, (1 + ((n.tdiv 3) % 70000)).toNat, (1 + (n % 4294967295)).toNat, [], (zw b n (1 + n % 48).toNat), [], [], []⟩ : MsgN) from by unfold mkM; simp only [hkk, hpp, ↓reduceIte, Int.reduceEq])]), (by rw [(show mkM kind n s b = (⟨2, 2, 0, 0, "".toUTF8, (1 + ((n.tdiv 3) % 70000)).toNat, (1 + (n % 4294967295)).toNat, [], (zw b n (1 + n % 48).toNat), [], [], []⟩ : MsgN) from by unfold mkM; simp only [hkk, hpp, ↓reduceIte, Int.reduceEq])]; exact ⟨(zc _), (M49.isO (k := 5) rfl), (zc _), (zc _), (zc _)⟩), (fun g h => h.elim (fun h => (z6 _ h).elim) fun h => h.elim (fun h => M49.owns (k := 5) rfl g (zva h)) fun h => h.elim (fun h => (z6 _ h).elim) fun h => h.elim (fun h => (z6 _ h).elim) (fun h => (z6 _ h).elim)), M49.below⟩
 ·refine zg (args := [.int .i64 kind, .int .i64 n, .string s, v]) 132 Try.func16 rfl rfl rfl ?_
  intro fa F
  have M := Mx.start w
  replace M := M.argB 0 hv (fun g e => by cases e)
  refine zT fun _ hK1 => ?_
  refine zf (za rfl) rfl F rfl M 1 (t := 29) (c := msgA ⟨0, 0, 0, 0, "".toUTF8, 0, 0, [], [], [], [], []⟩ ⟨zN, zN, zN, zN, zN⟩) (by unfold execOp; kernel_rfl) ?_
  intro g2 a2 w2 F2 M2
  clear F M
  refine hK1 _ _ (zS fun _ hK3 => ?_)
  refine zR ?_
  refine rm rfl F2 fun _ F4 => ?_
  refine zd (za rfl) rfl F4 rfl rfl (zE Try.func22 rfl) #[.int .i64 kind, .int .i64 12] (zea (F4.get rfl) rfl) (zh ((hkk ▸ zo kind 12 (by omega) (by omega) hkd.1 hkd.2 w2))) ?_
  rintro _ w5 a5 ⟨rfl, rfl⟩ F5
  refine rn rfl rfl F5 rfl (.int .i64 3) (zz _ _ _ _ rfl rfl (F5.get rfl) rfl (by omega)) fun _ F6 => ?_
  refine rn rfl rfl F6 rfl (.agg (msgA ⟨3, 0, 0, 0, "".toUTF8, 0, 0, [], [], [], [], []⟩ ⟨zN, zN, zN, zN, zN⟩)) (by unfold execOp; simp only [List.map_toArray, List.map_cons, List.map_nil, (F6.get (t := 15) rfl)]; kernel_rfl) fun _ F7 => ?_
  refine zf (za rfl) rfl F7 rfl M2 2 (t := 29) (c := msgA ⟨0, 0, 0, 0, "".toUTF8, 0, 0, [], [], [], [], []⟩ ⟨zN, zN, zN, zN, zN⟩) (by unfold execOp; kernel_rfl) ?_
  intro g8 a8 w8 F8 M8
  clear F7 M2
  refine zn (za rfl) rfl F8 M8 (k := 2) rfl _ _ _ rfl (F8.get rfl) (F8.get rfl) (msgA ⟨3, 0, 0, 0, "".toUTF8, 0, 0, [], [], [], [], []⟩ ⟨zN, zN, zN, zN, zN⟩) _ rfl (zL rfl) (zy (w := w8) ⟨(zc _), (zc _), (zc _), (zc _), (zc _)⟩) (zt rfl) (by kernel_rfl) ?_
  intro w9 M9
  clear M8
  refine hK3 _ _ (zS fun _ hK10 => ?_)
  refine zR ?_
  refine rm rfl F8 fun _ F11 => ?_
  refine zd (za rfl) rfl F11 rfl rfl (zE Try.func22 rfl) #[.int .i64 n, .int .i64 2] (zea (F11.get rfl) rfl) (zh ((zo n 2 (by omega) (by omega) hN.1 hN.2 w9))) ?_
  rintro _ w12 a12 ⟨rfl, rfl⟩ F12
  refine rn rfl rfl F12 rfl (.int .i64 (1 + (n % 2))) (zz _ _ _ _ rfl rfl (F12.get rfl) rfl (by omega)) fun _ F13 => ?_
  refine rm rfl F13 fun _ F14 => ?_
  refine hK10 _ _ (zS fun _ hK15 => ?_)
  refine zR ?_
  refine rm rfl F14 fun _ F16 => ?_
  refine zd (za rfl) rfl F16 rfl rfl (zE Try.func22 rfl) #[.int .i64 n, .int .i64 4294967295] (zea (F16.get rfl) rfl) (zh ((zo n 4294967295 (by omega) (by omega) hN.1 hN.2 w9))) ?_
  rintro _ w17 a17 ⟨rfl, rfl⟩ F17
  refine rn rfl rfl F17 rfl (.int .i64 (1 + (n % 4294967295))) (zz _ _ _ _ rfl rfl (F17.get rfl) rfl (by omega)) fun _ F18 => ?_
  refine zd (za rfl) rfl F18 rfl rfl (zE Try.func24 rfl) #[.int .i64 (1 + (n % 4294967295))] (zp (F18.get rfl)) (zh ((zra (1 + (n % 4294967295)) (by omega) (by omega) w9))) ?_
  rintro _ w19 a19 ⟨rfl, b19⟩ F19
  have M19 := M9.step b19
  refine zf (za rfl) rfl F19 rfl M19 3 (t := 27) (c := numA 0) (zda rfl) ?_
  intro g20 a20 w20 F20 M20
  clear F19 M19
  refine zn (za rfl) rfl F20 M20 (k := 3) rfl _ _ _ rfl (F20.get rfl) (F20.get rfl) (numA ((1 + (n % 4294967295)).toNat)) _ rfl (zL rfl) (zaa _) (zt rfl) z7 ?_
  intro w21 M21
  clear M20
  refine hK15 _ _ (zS fun _ hK22 => ?_)
  refine zR ?_
  refine rm rfl F20 fun _ F23 => ?_
  refine rn rfl rfl F23 rfl (.int .i64 (n.tdiv 3)) (y_quoT _ _ _ _ rfl (F23.get rfl) rfl hN (by decide) rfl) fun _ F24 => ?_
  refine zd (za rfl) rfl F24 rfl rfl (zE Try.func22 rfl) #[.int .i64 (n.tdiv 3), .int .i64 70000] (zea (F24.get rfl) rfl) (zh ((zo (n.tdiv 3) 70000 (by omega) (by omega) (zsa hN (show (0 : Int) < 3 by decide)).1 (Int.lt_of_le_of_lt (zsa hN (show (0 : Int) < 3 by decide)).2 (by decide)) w21))) ?_
  rintro _ w25 a25 ⟨rfl, rfl⟩ F25
  refine rn rfl rfl F25 rfl (.int .i64 (1 + ((n.tdiv 3) % 70000))) (zz _ _ _ _ rfl rfl (F25.get rfl) rfl (by omega)) fun _ F26 => ?_
  refine zd (za rfl) rfl F26 rfl rfl (zE Try.func24 rfl) #[.int .i64 (1 + ((n.tdiv 3) % 70000))] (zp (F26.get rfl)) (zh ((zra (1 + ((n.tdiv 3) % 70000)) (by omega) (by omega) w21))) ?_
  rintro _ w27 a27 ⟨rfl, b27⟩ F27
  have M27 := M21.step b27
  refine zf (za rfl) rfl F27 rfl M27 4 (t := 27) (c := numA 0) (zda rfl) ?_
  intro g28 a28 w28 F28 M28
  clear F27 M27
  refine zn (za rfl) rfl F28 M28 (k := 4) rfl _ _ _ rfl (F28.get rfl) (F28.get rfl) (numA ((1 + ((n.tdiv 3) % 70000)).toNat)) _ rfl (zL rfl) (zaa _) (zt rfl) z7 ?_
  intro w29 M29
  clear M28
  refine hK22 _ _ (zS fun _ hK30 => ?_)
  refine zT fun _ hK31 => ?_
  refine zA 2 [(29, .pointer (some ⟨g8, 0, none⟩)), (30, .int .i64 3)] [0] (zj (M29.blk (k := 2) rfl) dnil) [g8] F28 fun _ F32 => ?_
  refine hK31 _ _ (wp_block ?_)
  refine zT fun _ hK33 => ?_
  refine zA 2 [(32, .bool false), (31, .bool false)] [] dnil [] F32 fun _ F34 => ?_
  refine hK33 _ _ (wp_cond_false (F34.get rfl) ?_)
  refine zT fun _ hK35 => ?_
  refine zA 2 [(45, .bool false), (44, .bool false)] [] dnil [] F34 fun a36 F36 => ?_
  refine hK35 _ _ (wp_cond_false (F36.get rfl) ?_)
  refine zT fun _ hK37 => ?_
  refine zA 2 [(63, .bool true), (62, .bool true)] [] dnil [] F36 fun a38 F38 => ?_
  refine hK37 _ _ (wp_cond_true (F38.get rfl) ?_)
  refine zR ?_
  refine rm rfl F38 fun _ F39 => ?_
  refine rm rfl F39 fun _ F40 => ?_
  refine zd (za rfl) rfl F40 rfl rfl (zE Try.func43 rfl) #[v, .int .i64 n, .int .i64 16] (args3 (F40.get rfl) (F40.get rfl) rfl) ((zac b (v) n 16 (1 + n % 16).toNat (by omega) (by decide) (by decide) hN w29 (M29.isb (k := 0) rfl))) ?_
  rintro v41 w41 a41 h41 F41
  have M41 := M29.newO h41.2 5 h41.1
  clear M29 h41
  obtain ⟨A41, c41, rfl⟩ := (M41.isO (k := 5) rfl).shape
  refine rn rfl rfl F41 rfl (.pointer (some ⟨g8, 23, none⟩)) (y_fa (off := 23) rfl (F41.get rfl) (by kernel_rfl) rfl) fun _ F42 => ?_
  refine zn (za rfl) rfl F42 M41 (k := 2) rfl _ _ _ rfl (F42.get rfl) (F42.get rfl) (#[.slice A41 ((zw b n (1 + n % 16).toNat)).length c41]) (msgA ⟨3, 0, 0, 0, "".toUTF8, 0, 0, [], [], (zw b n (1 + n % 16).toNat), [], []⟩ ⟨zN, zN, .slice A41 ((zw b n (1 + n % 16).toNat)).length c41, zN, zN⟩) rfl (zL rfl) (z9b (M41.isO (k := 5) rfl)) (by kernel_rfl) (by kernel_rfl) ?_
  intro w43 M43
  clear M41
  refine hK30 _ _ (zS fun _ hK44 => ?_)
  refine zR ?_
  refine rn rfl rfl F42 rfl _ (zja _ _ rfl (F42.get rfl) (M43.blk (k := 2) rfl) (msgA ⟨3, 0, 0, 0, "".toUTF8, 0, 0, [], [], (zw b n (1 + n % 16).toNat), [], []⟩ ⟨zN, zN, .slice A41 ((zw b n (1 + n % 16).toNat)).length c41, zN, zN⟩) (zma rfl) Try.underlying29 rfl (by kernel_rfl)) fun a45 F45 => ?_
  refine zn (za rfl) rfl F45 M43 (k := 1) rfl _ _ _ rfl (F45.get rfl) (F45.get rfl) (msgA ⟨3, 0, 0, 0, "".toUTF8, 0, 0, [], [], (zw b n (1 + n % 16).toNat), [], []⟩ ⟨zN, zN, .slice A41 ((zw b n (1 + n % 16).toNat)).length c41, zN, zN⟩) _ rfl (zL rfl) (zy (w := w43) ⟨(zc _), (zc _), (M43.isO (k := 5) rfl), (zc _), (zc _)⟩) (zt rfl) (by kernel_rfl) ?_
  intro w46 M46
  clear M43
  refine hK44 _ _ (wp_ret ?_)
  try simp only [Exit.then, Exit.inBlock, Exit.jump]
  exact bodyPost_ret (results_cell_row rfl _ _ _ _ _ (0, 0) _ (F45.get rfl) (M46.blk (k := 1) rfl) Try.underlying29 rfl (by kernel_rfl)) F45.defers ⟨_, rfl, ⟨zN, zN, .slice A41 ((zw b n (1 + n % 16).toNat)).length c41, zN, zN⟩, (by rw [(show mkM kind n s b = (⟨3, 0, 0, 0, "".toUTF8, 0, 0, [], [], (zw b n (1 + n % 16).toNat), [], []⟩ : MsgN) from by unfold mkM; simp only [hkk, ↓reduceIte, Int.reduceEq])]), (by rw [(show mkM kind n s b = (⟨3, 0, 0, 0, "".toUTF8, 0, 0, [], [], (zw b n (1 + n % 16).toNat), [], []⟩ : MsgN) from by unfold mkM; simp only [hkk, ↓reduceIte, Int.reduceEq])]; exact ⟨(zc _), (zc _), (M46.isO (k := 5) rfl), (zc _), (zc _)⟩), (fun g h => h.elim (fun h => (z6 _ h).elim) fun h => h.elim (fun h => (z6 _ h).elim) fun h => h.elim (fun h => M46.owns (k := 5) rfl g (zva h)) fun h => h.elim (fun h => (z6 _ h).elim) (fun h => (z6 _ h).elim)), M46.below⟩
 ·refine zg (args := [.int .i64 kind, .int .i64 n, .string s, v]) 132 Try.func16 rfl rfl rfl ?_
  intro fa F
  have M := Mx.start w
  replace M := M.argB 0 hv (fun g e => by cases e)
  refine zT fun _ hK1 => ?_
  refine zf (za rfl) rfl F rfl M 1 (t := 29) (c := msgA ⟨0, 0, 0, 0, "".toUTF8, 0, 0, [], [], [], [], []⟩ ⟨zN, zN, zN, zN, zN⟩) (by unfold execOp; kernel_rfl) ?_
  intro g2 a2 w2 F2 M2
  clear F M
  refine hK1 _ _ (zS fun _ hK3 => ?_)
  refine zR ?_
  refine rm rfl F2 fun _ F4 => ?_
  refine zd (za rfl) rfl F4 rfl rfl (zE Try.func22 rfl) #[.int .i64 kind, .int .i64 12] (zea (F4.get rfl) rfl) (zh ((hkk ▸ zo kind 12 (by omega) (by omega) hkd.1 hkd.2 w2))) ?_
  rintro _ w5 a5 ⟨rfl, rfl⟩ F5
  refine rn rfl rfl F5 rfl (.int .i64 4) (zz _ _ _ _ rfl rfl (F5.get rfl) rfl (by omega)) fun _ F6 => ?_
  refine rn rfl rfl F6 rfl (.agg (msgA ⟨4, 0, 0, 0, "".toUTF8, 0, 0, [], [], [], [], []⟩ ⟨zN, zN, zN, zN, zN⟩)) (by unfold execOp; simp only [List.map_toArray, List.map_cons, List.map_nil, (F6.get (t := 15) rfl)]; kernel_rfl) fun _ F7 => ?_
  refine zf (za rfl) rfl F7 rfl M2 2 (t := 29) (c := msgA ⟨0, 0, 0, 0, "".toUTF8, 0, 0, [], [], [], [], []⟩ ⟨zN, zN, zN, zN, zN⟩) (by unfold execOp; kernel_rfl) ?_
  intro g8 a8 w8 F8 M8
  clear F7 M2
  refine zn (za rfl) rfl F8 M8 (k := 2) rfl _ _ _ rfl (F8.get rfl) (F8.get rfl) (msgA ⟨4, 0, 0, 0, "".toUTF8, 0, 0, [], [], [], [], []⟩ ⟨zN, zN, zN, zN, zN⟩) _ rfl (zL rfl) (zy (w := w8) ⟨(zc _), (zc _), (zc _), (zc _), (zc _)⟩) (zt rfl) (by kernel_rfl) ?_
  intro w9 M9
  clear M8
  refine hK3 _ _ (zS fun _ hK10 => ?_)
  refine zR ?_
  refine rm rfl F8 fun _ F11 => ?_
  refine zd (za rfl) rfl F11 rfl rfl (zE Try.func22 rfl) #[.int .i64 n, .int .i64 2] (zea (F11.get rfl) rfl) (zh ((zo n 2 (by omega) (by omega) hN.1 hN.2 w9))) ?_
  rintro _ w12 a12 ⟨rfl, rfl⟩ F12
  refine rn rfl rfl F12 rfl (.int .i64 (1 + (n % 2))) (zz _ _ _ _ rfl rfl (F12.get rfl) rfl (by omega)) fun _ F13 => ?_
  refine rm rfl F13 fun _ F14 => ?_
  refine hK10 _ _ (zS fun _ hK15 => ?_)
  refine zR ?_
  refine rm rfl F14 fun _ F16 => ?_
  refine zd (za rfl) rfl F16 rfl rfl (zE Try.func22 rfl) #[.int .i64 n, .int .i64 4294967295] (zea (F16.get rfl) rfl) (zh ((zo n 4294967295 (by omega) (by omega) hN.1 hN.2 w9))) ?_
  rintro _ w17 a17 ⟨rfl, rfl⟩ F17
  refine rn rfl rfl F17 rfl (.int .i64 (1 + (n % 4294967295))) (zz _ _ _ _ rfl rfl (F17.get rfl) rfl (by omega)) fun _ F18 => ?_
  refine zd (za rfl) rfl F18 rfl rfl (zE Try.func24 rfl) #[.int .i64 (1 + (n % 4294967295))] (zp (F18.get rfl)) (zh ((zra (1 + (n % 4294967295)) (by omega) (by omega) w9))) ?_
  rintro _ w19 a19 ⟨rfl, b19⟩ F19
  have M19 := M9.step b19
  refine zf (za rfl) rfl F19 rfl M19 3 (t := 27) (c := numA 0) (zda rfl) ?_
  intro g20 a20 w20 F20 M20
  clear F19 M19
  refine zn (za rfl) rfl F20 M20 (k := 3) rfl _ _ _ rfl (F20.get rfl) (F20.get rfl) (numA ((1 + (n % 4294967295)).toNat)) _ rfl (zL rfl) (zaa _) (zt rfl) z7 ?_
  intro w21 M21
  clear M20
  refine hK15 _ _ (zS fun _ hK22 => ?_)
  refine zR ?_
  refine rm rfl F20 fun _ F23 => ?_
  refine rn rfl rfl F23 rfl (.int .i64 (n.tdiv 3)) (y_quoT _ _ _ _ rfl (F23.get rfl) rfl hN (by decide) rfl) fun _ F24 => ?_
  refine zd (za rfl) rfl F24 rfl rfl (zE Try.func22 rfl) #[.int .i64 (n.tdiv 3), .int .i64 70000] (zea (F24.get rfl) rfl) (zh ((zo (n.tdiv 3) 70000 (by omega) (by omega) (zsa hN (show (0 : Int) < 3 by decide)).1 (Int.lt_of_le_of_lt (zsa hN (show (0 : Int) < 3 by decide)).2 (by decide)) w21))) ?_
  rintro _ w25 a25 ⟨rfl, rfl⟩ F25
  refine rn rfl rfl F25 rfl (.int .i64 (1 + ((n.tdiv 3) % 70000))) (zz _ _ _ _ rfl rfl (F25.get rfl) rfl (by omega)) fun _ F26 => ?_
  refine zd (za rfl) rfl F26 rfl rfl (zE Try.func24 rfl) #[.int .i64 (1 + ((n.tdiv 3) % 70000))] (zp (F26.get rfl)) (zh ((zra (1 + ((n.tdiv 3) % 70000)) (by omega) (by omega) w21))) ?_
  rintro _ w27 a27 ⟨rfl, b27⟩ F27
  have M27 := M21.step b27
  refine zf (za rfl) rfl F27 rfl M27 4 (t := 27) (c := numA 0) (zda rfl) ?_
  intro g28 a28 w28 F28 M28
  clear F27 M27
  refine zn (za rfl) rfl F28 M28 (k := 4) rfl _ _ _ rfl (F28.get rfl) (F28.get rfl) (numA ((1 + ((n.tdiv 3) % 70000)).toNat)) _ rfl (zL rfl) (zaa _) (zt rfl) z7 ?_
  intro w29 M29
  clear M28
  refine hK22 _ _ (zS fun _ hK30 => ?_)
  refine zT fun _ hK31 => ?_
  refine zA 2 [(29, .pointer (some ⟨g8, 0, none⟩)), (30, .int .i64 4)] [0] (zj (M29.blk (k := 2) rfl) dnil) [g8] F28 fun _ F32 => ?_
  refine hK31 _ _ (wp_block ?_)
  refine zT fun _ hK33 => ?_
  refine zA 2 [(32, .bool false), (31, .bool false)] [] dnil [] F32 fun _ F34 => ?_
  refine hK33 _ _ (wp_cond_false (F34.get rfl) ?_)
  refine zT fun _ hK35 => ?_
  refine zA 2 [(45, .bool false), (44, .bool false)] [] dnil [] F34 fun a36 F36 => ?_
  refine hK35 _ _ (wp_cond_false (F36.get rfl) ?_)
  refine zT fun _ hK37 => ?_
  refine zA 2 [(63, .bool false), (62, .bool false)] [] dnil [] F36 fun a38 F38 => ?_
  refine hK37 _ _ (wp_cond_false (F38.get rfl) ?_)
  refine zT fun _ hK39 => ?_
  refine zA 2 [(69, .bool true), (68, .bool true)] [] dnil [] F38 fun _ F40 => ?_
  refine hK39 _ _ (wp_cond_true (F40.get rfl) ?_)
  refine zT fun _ hK41 => ?_
  refine rm rfl F40 fun _ F42 => ?_
  refine rm rfl F42 fun a43 F43 => ?_
  refine zd (za rfl) rfl F43 rfl rfl (zE Try.func43 rfl) #[v, .int .i64 n, .int .i64 80] (args3 (F43.get rfl) (F43.get rfl) rfl) ((zac b (v) n 80 (1 + n % 80).toNat (by omega) (by decide) (by decide) hN w29 (M29.isb (k := 0) rfl))) ?_
  rintro v44 w44 a44 h44 F44
  have M44 := M29.newO h44.2 5 h44.1
  clear M29 h44
  obtain ⟨A44, c44, rfl⟩ := (M44.isO (k := 5) rfl).shape
  refine rn rfl rfl F44 rfl (.pointer (some ⟨g8, 24, none⟩)) (y_fa (off := 24) rfl (F44.get rfl) (by kernel_rfl) rfl) fun a45 F45 => ?_
  refine zn (za rfl) rfl F45 M44 (k := 2) rfl _ _ _ rfl (F45.get rfl) (F45.get rfl) (#[.slice A44 ((zw b n (1 + n % 80).toNat)).length c44]) (msgA ⟨4, 0, 0, 0, "".toUTF8, 0, 0, [], [], [], (zw b n (1 + n % 80).toNat), []⟩ ⟨zN, zN, zN, .slice A44 ((zw b n (1 + n % 80).toNat)).length c44, zN⟩) rfl (zL rfl) (z9b (M44.isO (k := 5) rfl)) (by kernel_rfl) (by kernel_rfl) ?_
  intro w46 M46
  clear M44
  refine hK41 _ _ (zS fun _ hK47 => ?_)
  refine zR ?_
  refine rm rfl F45 fun _ F48 => ?_
  refine rn rfl rfl F48 rfl (.int .i64 (n.tdiv 2)) (y_quoT _ _ _ _ rfl (F48.get rfl) rfl hN (by decide) rfl) fun _ F49 => ?_
  refine zd (za rfl) rfl F49 rfl rfl (zE Try.func22 rfl) #[.int .i64 (n.tdiv 2), .int .i64 2] (zea (F49.get rfl) rfl) (zh ((zo (n.tdiv 2) 2 (by omega) (by omega) (zsa hN (show (0 : Int) < 2 by decide)).1 (Int.lt_of_le_of_lt (zsa hN (show (0 : Int) < 2 by decide)).2 (by decide)) w46))) ?_
  rintro _ w50 a50 ⟨rfl, rfl⟩ F50
  by_cases h51 : ((n.tdiv 2) % 2) = 0
  rotate_left
  ·refine rn rfl rfl F50 rfl (.bool false) (zq _ _ _ _ rfl (F50.get rfl) rfl Try.underlying3 (zr h51)) fun a62 F62 => ?_
   refine hK47 _ _ (wp_cond_false (F62.get rfl) ?_)
   refine wp_skip ?_
   refine hK30 _ _ (zS fun _ hK63 => ?_)
   refine zR ?_
   refine rn rfl rfl F62 rfl _ (zja _ _ rfl (F62.get rfl) (M46.blk (k := 2) rfl) (msgA ⟨4, 0, 0, 0, "".toUTF8, 0, 0, [], [], [], (zw b n (1 + n % 80).toNat), []⟩ ⟨zN, zN, zN, .slice A44 ((zw b n (1 + n % 80).toNat)).length c44, zN⟩) (zma rfl) Try.underlying29 rfl (by kernel_rfl)) fun _ F64 => ?_
   refine zn (za rfl) rfl F64 M46 (k := 1) rfl _ _ _ rfl (F64.get rfl) (F64.get rfl) (msgA ⟨4, 0, 0, 0, "".toUTF8, 0, 0, [], [], [], (zw b n (1 + n % 80).toNat), []⟩ ⟨zN, zN, zN, .slice A44 ((zw b n (1 + n % 80).toNat)).length c44, zN⟩) _ rfl (zL rfl) (zy (w := w46) ⟨(zc _), (zc _), (zc _), (M46.isO (k := 5) rfl), (zc _)⟩) (zt rfl) (by kernel_rfl) ?_
   intro w65 M65
   clear M46
   refine hK63 _ _ (wp_ret ?_)
   try simp only [Exit.then, Exit.inBlock, Exit.jump]
   exact bodyPost_ret (results_cell_row rfl _ _ _ _ _ (0, 0) _ (F64.get rfl) (M65.blk (k := 1) rfl) Try.underlying29 rfl (by kernel_rfl)) F64.defers ⟨_, rfl, ⟨zN, zN, zN, .slice A44 ((zw b n (1 + n % 80).toNat)).length c44, zN⟩, (by rw [(show mkM kind n s b = (⟨4, 0, 0, 0, "".toUTF8, 0, 0, [], [], [], (zw b n (1 + n % 80).toNat), []⟩ : MsgN) from by unfold mkM; simp only [hkk, h51, ↓reduceIte, Int.reduceEq])]), (by rw [(show mkM kind n s b = (⟨4, 0, 0, 0, "".toUTF8, 0, 0, [], [], [], (zw b n (1 + n % 80).toNat), []⟩ : MsgN) from by unfold mkM; simp only [hkk, h51, ↓reduceIte, Int.reduceEq])]; exact ⟨(zc _), (zc _), (zc _), (M65.isO (k := 5) rfl), (zc _)⟩), (fun g h => h.elim (fun h => (z6 _ h).elim) fun h => h.elim (fun h => (z6 _ h).elim) fun h => h.elim (fun h => (z6 _ h).elim) fun h => h.elim (fun h => M65.owns (k := 5) rfl g (zva h)) (fun h => (z6 _ h).elim)), M65.below⟩
  refine rn rfl rfl F50 rfl (.bool true) (zq _ _ _ _ rfl (F50.get rfl) rfl Try.underlying3 (zka h51)) fun a52 F52 => ?_
  refine hK47 _ _ (wp_cond_true (F52.get rfl) ?_)
  refine zR ?_
  refine rm rfl F52 fun a53 F53 => ?_
  refine rm rfl F53 fun a54 F54 => ?_
  refine rn rfl rfl F54 rfl (.int .i64 (n.tdiv 7)) (y_quoT _ _ _ _ rfl (F54.get rfl) rfl hN (by decide) rfl) fun a55 F55 => ?_
  refine zd (za rfl) rfl F55 rfl rfl (zE Try.func43 rfl) #[v, .int .i64 (n.tdiv 7), .int .i64 16] (args3 (F55.get rfl) (F55.get rfl) rfl) ((zac b (v) (n.tdiv 7) 16 (1 + (n.tdiv 7) % 16).toNat (by omega) (by decide) (by decide) (tdiv_bnd hN (show (0 : Int) < 7 by decide)) w46 (M46.isb (k := 0) rfl))) ?_
  rintro v56 w56 a56 h56 F56
  have M56 := M46.newO h56.2 6 h56.1
  clear M46 h56
  obtain ⟨A56, c56, rfl⟩ := (M56.isO (k := 6) rfl).shape
  refine rn rfl rfl F56 rfl (.pointer (some ⟨g8, 23, none⟩)) (y_fa (off := 23) rfl (F56.get rfl) (by kernel_rfl) rfl) fun _ F57 => ?_
  refine zn (za rfl) rfl F57 M56 (k := 2) rfl _ _ _ rfl (F57.get rfl) (F57.get rfl) (#[.slice A56 ((zw b (n.tdiv 7) (1 + (n.tdiv 7) % 16).toNat)).length c56]) (msgA ⟨4, 0, 0, 0, "".toUTF8, 0, 0, [], [], (zw b (n.tdiv 7) (1 + (n.tdiv 7) % 16).toNat), (zw b n (1 + n % 80).toNat), []⟩ ⟨zN, zN, .slice A56 ((zw b (n.tdiv 7) (1 + (n.tdiv 7) % 16).toNat)).length c56, .slice A44 ((zw b n (1 + n % 80).toNat)).length c44, zN⟩) rfl (zL rfl) (z9b (M56.isO (k := 6) rfl)) (by kernel_rfl) (by kernel_rfl) ?_
  intro w58 M58
  clear M56
  refine hK30 _ _ (zS fun _ hK59 => ?_)
  refine zR ?_
  refine rn rfl rfl F57 rfl _ (zja _ _ rfl (F57.get rfl) (M58.blk (k := 2) rfl) (msgA ⟨4, 0, 0, 0, "".toUTF8, 0, 0, [], [], (zw b (n.tdiv 7) (1 + (n.tdiv 7) % 16).toNat), (zw b n (1 + n % 80).toNat), []⟩ ⟨zN, zN, .slice A56 ((zw b (n.tdiv 7) (1 + (n.tdiv 7) % 16).toNat)).length c56, .slice A44 ((zw b n (1 + n % 80).toNat)).length c44, zN⟩) (zma rfl) Try.underlying29 rfl (by kernel_rfl)) fun _ F60 => ?_
  refine zn (za rfl) rfl F60 M58 (k := 1) rfl _ _ _ rfl (F60.get rfl) (F60.get rfl) (msgA ⟨4, 0, 0, 0, "".toUTF8, 0, 0, [], [], (zw b (n.tdiv 7) (1 + (n.tdiv 7) % 16).toNat), (zw b n (1 + n % 80).toNat), []⟩ ⟨zN, zN, .slice A56 ((zw b (n.tdiv 7) (1 + (n.tdiv 7) % 16).toNat)).length c56, .slice A44 ((zw b n (1 + n % 80).toNat)).length c44, zN⟩) _ rfl (zL rfl) (zy (w := w58) ⟨(zc _), (zc _), (M58.isO (k := 6) rfl), (M58.isO (k := 5) rfl), (zc _)⟩) (zt rfl) (by kernel_rfl) ?_
  intro w61 M61
  clear M58
  refine hK59 _ _ (wp_ret ?_)
  try simp only [Exit.then, Exit.inBlock, Exit.jump]
  exact bodyPost_ret (results_cell_row rfl _ _ _ _ _ (0, 0) _ (F60.get rfl) (M61.blk (k := 1) rfl) Try.underlying29 rfl (by kernel_rfl)) F60.defers ⟨_, rfl, ⟨zN, zN, .slice A56 ((zw b (n.tdiv 7) (1 + (n.tdiv 7) % 16).toNat)).length c56, .slice A44 ((zw b n (1 + n % 80).toNat)).length c44, zN⟩, (by rw [(show mkM kind n s b = (⟨4, 0, 0, 0, "".toUTF8, 0, 0, [], [], (zw b (n.tdiv 7) (1 + (n.tdiv 7) % 16).toNat), (zw b n (1 + n % 80).toNat), []⟩ : MsgN) from by unfold mkM; simp only [hkk, h51, ↓reduceIte, Int.reduceEq])]), (by rw [(show mkM kind n s b = (⟨4, 0, 0, 0, "".toUTF8, 0, 0, [], [], (zw b (n.tdiv 7) (1 + (n.tdiv 7) % 16).toNat), (zw b n (1 + n % 80).toNat), []⟩ : MsgN) from by unfold mkM; simp only [hkk, h51, ↓reduceIte, Int.reduceEq])]; exact ⟨(zc _), (zc _), (M61.isO (k := 6) rfl), (M61.isO (k := 5) rfl), (zc _)⟩), (fun g h => h.elim (fun h => (z6 _ h).elim) fun h => h.elim (fun h => (z6 _ h).elim) fun h => h.elim (fun h => M61.owns (k := 6) rfl g (zva h)) fun h => h.elim (fun h => M61.owns (k := 5) rfl g (zva h)) (fun h => (z6 _ h).elim)), M61.below⟩
 ·refine zg (args := [.int .i64 kind, .int .i64 n, .string s, v]) 132 Try.func16 rfl rfl rfl ?_
  intro fa F
  have M := Mx.start w
  replace M := M.argB 0 hv (fun g e => by cases e)
  refine zT fun _ hK1 => ?_
  refine zf (za rfl) rfl F rfl M 1 (t := 29) (c := msgA ⟨0, 0, 0, 0, "".toUTF8, 0, 0, [], [], [], [], []⟩ ⟨zN, zN, zN, zN, zN⟩) (by unfold execOp; kernel_rfl) ?_
  intro g2 a2 w2 F2 M2
  clear F M
  refine hK1 _ _ (zS fun _ hK3 => ?_)
  refine zR ?_
  refine rm rfl F2 fun _ F4 => ?_
  refine zd (za rfl) rfl F4 rfl rfl (zE Try.func22 rfl) #[.int .i64 kind, .int .i64 12] (zea (F4.get rfl) rfl) (zh ((hkk ▸ zo kind 12 (by omega) (by omega) hkd.1 hkd.2 w2))) ?_
  rintro _ w5 a5 ⟨rfl, rfl⟩ F5
  refine rn rfl rfl F5 rfl (.int .i64 5) (zz _ _ _ _ rfl rfl (F5.get rfl) rfl (by omega)) fun _ F6 => ?_
  refine rn rfl rfl F6 rfl (.agg (msgA ⟨5, 0, 0, 0, "".toUTF8, 0, 0, [], [], [], [], []⟩ ⟨zN, zN, zN, zN, zN⟩)) (by unfold execOp; simp only [List.map_toArray, List.map_cons, List.map_nil, (F6.get (t := 15) rfl)]; kernel_rfl) fun _ F7 => ?_
  refine zf (za rfl) rfl F7 rfl M2 2 (t := 29) (c := msgA ⟨0, 0, 0, 0, "".toUTF8, 0, 0, [], [], [], [], []⟩ ⟨zN, zN, zN, zN, zN⟩) (by unfold execOp; kernel_rfl) ?_
  intro g8 a8 w8 F8 M8
  clear F7 M2
  refine zn (za rfl) rfl F8 M8 (k := 2) rfl _ _ _ rfl (F8.get rfl) (F8.get rfl) (msgA ⟨5, 0, 0, 0, "".toUTF8, 0, 0, [], [], [], [], []⟩ ⟨zN, zN, zN, zN, zN⟩) _ rfl (zL rfl) (zy (w := w8) ⟨(zc _), (zc _), (zc _), (zc _), (zc _)⟩) (zt rfl) (by kernel_rfl) ?_
  intro w9 M9
  clear M8
  refine hK3 _ _ (zS fun _ hK10 => ?_)
  refine zR ?_
  refine rm rfl F8 fun _ F11 => ?_
  refine zd (za rfl) rfl F11 rfl rfl (zE Try.func22 rfl) #[.int .i64 n, .int .i64 2] (zea (F11.get rfl) rfl) (zh ((zo n 2 (by omega) (by omega) hN.1 hN.2 w9))) ?_
  rintro _ w12 a12 ⟨rfl, rfl⟩ F12
  refine rn rfl rfl F12 rfl (.int .i64 (1 + (n % 2))) (zz _ _ _ _ rfl rfl (F12.get rfl) rfl (by omega)) fun _ F13 => ?_
  refine rm rfl F13 fun _ F14 => ?_
  refine hK10 _ _ (zS fun _ hK15 => ?_)
  refine zR ?_
  refine rm rfl F14 fun _ F16 => ?_
  refine zd (za rfl) rfl F16 rfl rfl (zE Try.func22 rfl) #[.int .i64 n, .int .i64 4294967295] (zea (F16.get rfl) rfl) (zh ((zo n 4294967295 (by omega) (by omega) hN.1 hN.2 w9))) ?_
  rintro _ w17 a17 ⟨rfl, rfl⟩ F17
  refine rn rfl rfl F17 rfl (.int .i64 (1 + (n % 4294967295))) (zz _ _ _ _ rfl rfl (F17.get rfl) rfl (by omega)) fun _ F18 => ?_
  refine zd (za rfl) rfl F18 rfl rfl (zE Try.func24 rfl) #[.int .i64 (1 + (n % 4294967295))] (zp (F18.get rfl)) (zh ((zra (1 + (n % 4294967295)) (by omega) (by omega) w9))) ?_
  rintro _ w19 a19 ⟨rfl, b19⟩ F19
  have M19 := M9.step b19
  refine zf (za rfl) rfl F19 rfl M19 3 (t := 27) (c := numA 0) (zda rfl) ?_
  intro g20 a20 w20 F20 M20
  clear F19 M19
  refine zn (za rfl) rfl F20 M20 (k := 3) rfl _ _ _ rfl (F20.get rfl) (F20.get rfl) (numA ((1 + (n % 4294967295)).toNat)) _ rfl (zL rfl) (zaa _) (zt rfl) z7 ?_
  intro w21 M21
  clear M20
  refine hK15 _ _ (zS fun _ hK22 => ?_)
  refine zR ?_
  refine rm rfl F20 fun _ F23 => ?_
  refine rn rfl rfl F23 rfl (.int .i64 (n.tdiv 3)) (y_quoT _ _ _ _ rfl (F23.get rfl) rfl hN (by decide) rfl) fun _ F24 => ?_
  refine zd (za rfl) rfl F24 rfl rfl (zE Try.func22 rfl) #[.int .i64 (n.tdiv 3), .int .i64 70000] (zea (F24.get rfl) rfl) (zh ((zo (n.tdiv 3) 70000 (by omega) (by omega) (zsa hN (show (0 : Int) < 3 by decide)).1 (Int.lt_of_le_of_lt (zsa hN (show (0 : Int) < 3 by decide)).2 (by decide)) w21))) ?_
  rintro _ w25 a25 ⟨rfl, rfl⟩ F25
  refine rn rfl rfl F25 rfl (.int .i64 (1 + ((n.tdiv 3) % 70000))) (zz _ _ _ _ rfl rfl (F25.get rfl) rfl (by omega)) fun _ F26 => ?_
  refine zd (za rfl) rfl F26 rfl rfl (zE Try.func24 rfl) #[.int .i64 (1 + ((n.tdiv 3) % 70000))] (zp (F26.get rfl)) (zh ((zra (1 + ((n.tdiv 3) % 70000)) (by omega) (by omega) w21))) ?_
  rintro _ w27 a27 ⟨rfl, b27⟩ F27
  have M27 := M21.step b27
  refine zf (za rfl) rfl F27 rfl M27 4 (t := 27) (c := numA 0) (zda rfl) ?_
  intro g28 a28 w28 F28 M28
  clear F27 M27
  refine zn (za rfl) rfl F28 M28 (k := 4) rfl _ _ _ rfl (F28.get rfl) (F28.get rfl) (numA ((1 + ((n.tdiv 3) % 70000)).toNat)) _ rfl (zL rfl) (zaa _) (zt rfl) z7 ?_
  intro w29 M29
  clear M28
  refine hK22 _ _ (zS fun _ hK30 => ?_)
  refine zT fun _ hK31 => ?_
  refine zA 2 [(29, .pointer (some ⟨g8, 0, none⟩)), (30, .int .i64 5)] [0] (zj (M29.blk (k := 2) rfl) dnil) [g8] F28 fun _ F32 => ?_
  refine hK31 _ _ (wp_block ?_)
  refine zT fun _ hK33 => ?_
  refine zA 2 [(32, .bool false), (31, .bool false)] [] dnil [] F32 fun _ F34 => ?_
  refine hK33 _ _ (wp_cond_false (F34.get rfl) ?_)
  refine zT fun _ hK35 => ?_
  refine zA 2 [(45, .bool false), (44, .bool false)] [] dnil [] F34 fun a36 F36 => ?_
  refine hK35 _ _ (wp_cond_false (F36.get rfl) ?_)
  refine zT fun _ hK37 => ?_
  refine zA 2 [(63, .bool false), (62, .bool false)] [] dnil [] F36 fun a38 F38 => ?_
  refine hK37 _ _ (wp_cond_false (F38.get rfl) ?_)
  refine zT fun _ hK39 => ?_
  refine zA 2 [(69, .bool false), (68, .bool false)] [] dnil [] F38 fun _ F40 => ?_
  refine hK39 _ _ (wp_cond_false (F40.get rfl) ?_)
  refine zT fun _ hK41 => ?_
  refine zA 2 [(84, .bool true), (83, .bool true)] [] dnil [] F40 fun _ F42 => ?_
  refine hK41 _ _ (wp_cond_true (F42.get rfl) ?_)
  refine zR ?_
  refine rm rfl F42 fun a43 F43 => ?_
  refine zd (za rfl) rfl F43 rfl rfl (zE Try.func22 rfl) #[.int .i64 n, .int .i64 11] (zea (F43.get rfl) rfl) (zh ((zo n 11 (by omega) (by omega) hN.1 hN.2 w29))) ?_
  rintro _ w44 a44 ⟨rfl, rfl⟩ F44
  refine rn rfl rfl F44 rfl (.int .i64 (1 + (n % 11))) (zz _ _ _ _ rfl rfl (F44.get rfl) rfl (by omega)) fun a45 F45 => ?_
  refine rn rfl rfl F45 rfl (.pointer (some ⟨g8, 3, none⟩)) (y_fa (off := 3) rfl (F45.get rfl) (by kernel_rfl) rfl) fun _ F46 => ?_
  refine zn (za rfl) rfl F46 M29 (k := 2) rfl _ _ _ rfl (F46.get rfl) (F46.get rfl) (#[.int .i64 (1 + (n % 11))]) (msgA ⟨5, 0, 0, 1 + (n % 11), "".toUTF8, 0, 0, [], [], [], [], []⟩ ⟨zN, zN, zN, zN, zN⟩) rfl (zL rfl) (zeb _ _) (by kernel_rfl) (by kernel_rfl) ?_
  intro w47 M47
  clear M29
  refine hK30 _ _ (zS fun _ hK48 => ?_)
  refine zR ?_
  refine rn rfl rfl F46 rfl _ (zja _ _ rfl (F46.get rfl) (M47.blk (k := 2) rfl) (msgA ⟨5, 0, 0, 1 + (n % 11), "".toUTF8, 0, 0, [], [], [], [], []⟩ ⟨zN, zN, zN, zN, zN⟩) (zma rfl) Try.underlying29 rfl (by kernel_rfl)) fun _ F49 => ?_
  refine zn (za rfl) rfl F49 M47 (k := 1) rfl _ _ _ rfl (F49.get rfl) (F49.get rfl) (msgA ⟨5, 0, 0, 1 + (n % 11), "".toUTF8, 0, 0, [], [], [], [], []⟩ ⟨zN, zN, zN, zN, zN⟩) _ rfl (zL rfl) (zy (w := w47) ⟨(zc _), (zc _), (zc _), (zc _), (zc _)⟩) (zt rfl) (by kernel_rfl) ?_
  intro w50 M50
  clear M47
  refine hK48 _ _ (wp_ret ?_)
  try simp only [Exit.then, Exit.inBlock, Exit.jump]
  exact bodyPost_ret (results_cell_row rfl _ _ _ _ _ (0, 0) _ (F49.get rfl) (M50.blk (k := 1) rfl) Try.underlying29 rfl (by kernel_rfl)) F49.defers ⟨_, rfl, ⟨zN, zN, zN, zN, zN⟩, (by rw [(show mkM kind n s b = (⟨5, 0, 0, 1 + (n % 11), "".toUTF8, 0, 0, [], [], [], [], []⟩ : MsgN) from by unfold mkM; simp only [hkk, ↓reduceIte, Int.reduceEq])]), (by rw [(show mkM kind n s b = (⟨5, 0, 0, 1 + (n % 11), "".toUTF8, 0, 0, [], [], [], [], []⟩ : MsgN) from by unfold mkM; simp only [hkk, ↓reduceIte, Int.reduceEq])]; exact ⟨(zc _), (zc _), (zc _), (zc _), (zc _)⟩), (fun g h => h.elim (fun h => (z6 _ h).elim) fun h => h.elim (fun h => (z6 _ h).elim) fun h => h.elim (fun h => (z6 _ h).elim) fun h => h.elim (fun h => (z6 _ h).elim) (fun h => (z6 _ h).elim)), M50.below⟩
 ·refine zg (args := [.int .i64 kind, .int .i64 n, .string s, v]) 132 Try.func16 rfl rfl rfl ?_
  intro fa F
  have M := Mx.start w
  replace M := M.argB 0 hv (fun g e => by cases e)
  refine zT fun _ hK1 => ?_
  refine zf (za rfl) rfl F rfl M 1 (t := 29) (c := msgA ⟨0, 0, 0, 0, "".toUTF8, 0, 0, [], [], [], [], []⟩ ⟨zN, zN, zN, zN, zN⟩) (by unfold execOp; kernel_rfl) ?_
  intro g2 a2 w2 F2 M2
  clear F M
  refine hK1 _ _ (zS fun _ hK3 => ?_)
  refine zR ?_
  refine rm rfl F2 fun _ F4 => ?_
  refine zd (za rfl) rfl F4 rfl rfl (zE Try.func22 rfl) #[.int .i64 kind, .int .i64 12] (zea (F4.get rfl) rfl) (zh ((hkk ▸ zo kind 12 (by omega) (by omega) hkd.1 hkd.2 w2))) ?_
  rintro _ w5 a5 ⟨rfl, rfl⟩ F5
  refine rn rfl rfl F5 rfl (.int .i64 6) (zz _ _ _ _ rfl rfl (F5.get rfl) rfl (by omega)) fun _ F6 => ?_
  refine rn rfl rfl F6 rfl (.agg (msgA ⟨6, 0, 0, 0, "".toUTF8, 0, 0, [], [], [], [], []⟩ ⟨zN, zN, zN, zN, zN⟩)) (by unfold execOp; simp only [List.map_toArray, List.map_cons, List.map_nil, (F6.get (t := 15) rfl)]; kernel_rfl) fun _ F7 => ?_
  refine zf (za rfl) rfl F7 rfl M2 2 (t := 29) (c := msgA ⟨0, 0, 0, 0, "".toUTF8, 0, 0, [], [], [], [], []⟩ ⟨zN, zN, zN, zN, zN⟩) (by unfold execOp; kernel_rfl) ?_
  intro g8 a8 w8 F8 M8
  clear F7 M2
  refine zn (za rfl) rfl F8 M8 (k := 2) rfl _ _ _ rfl (F8.get rfl) (F8.get rfl) (msgA ⟨6, 0, 0, 0, "".toUTF8, 0, 0, [], [], [], [], []⟩ ⟨zN, zN, zN, zN, zN⟩) _ rfl (zL rfl) (zy (w := w8) ⟨(zc _), (zc _), (zc _), (zc _), (zc _)⟩) (zt rfl) (by kernel_rfl) ?_
  intro w9 M9
  clear M8
  refine hK3 _ _ (zS fun _ hK10 => ?_)
  refine zR ?_
  refine rm rfl F8 fun _ F11 => ?_
  refine zd (za rfl) rfl F11 rfl rfl (zE Try.func22 rfl) #[.int .i64 n, .int .i64 2] (zea (F11.get rfl) rfl) (zh ((zo n 2 (by omega) (by omega) hN.1 hN.2 w9))) ?_
  rintro _ w12 a12 ⟨rfl, rfl⟩ F12
  refine rn rfl rfl F12 rfl (.int .i64 (1 + (n % 2))) (zz _ _ _ _ rfl rfl (F12.get rfl) rfl (by omega)) fun _ F13 => ?_
  refine rm rfl F13 fun _ F14 => ?_
  refine hK10 _ _ (zS fun _ hK15 => ?_)
  refine zR ?_
  refine rm rfl F14 fun _ F16 => ?_
  refine zd (za rfl) rfl F16 rfl rfl (zE Try.func22 rfl) #[.int .i64 n, .int .i64 4294967295] (zea (F16.get rfl) rfl) (zh ((zo n 4294967295 (by omega) (by omega) hN.1 hN.2 w9))) ?_
  rintro _ w17 a17 ⟨rfl, rfl⟩ F17
  refine rn rfl rfl F17 rfl (.int .i64 (1 + (n % 4294967295))) (zz _ _ _ _ rfl rfl (F17.get rfl) rfl (by omega)) fun _ F18 => ?_
  refine zd (za rfl) rfl F18 rfl rfl (zE Try.func24 rfl) #[.int .i64 (1 + (n % 4294967295))] (zp (F18.get rfl)) (zh ((zra (1 + (n % 4294967295)) (by omega) (by omega) w9))) ?_
  rintro _ w19 a19 ⟨rfl, b19⟩ F19
  have M19 := M9.step b19
  refine zf (za rfl) rfl F19 rfl M19 3 (t := 27) (c := numA 0) (zda rfl) ?_
  intro g20 a20 w20 F20 M20
  clear F19 M19
  refine zn (za rfl) rfl F20 M20 (k := 3) rfl _ _ _ rfl (F20.get rfl) (F20.get rfl) (numA ((1 + (n % 4294967295)).toNat)) _ rfl (zL rfl) (zaa _) (zt rfl) z7 ?_
  intro w21 M21
  clear M20
  refine hK15 _ _ (zS fun _ hK22 => ?_)
  refine zR ?_
  refine rm rfl F20 fun _ F23 => ?_
  refine rn rfl rfl F23 rfl (.int .i64 (n.tdiv 3)) (y_quoT _ _ _ _ rfl (F23.get rfl) rfl hN (by decide) rfl) fun _ F24 => ?_
  refine zd (za rfl) rfl F24 rfl rfl (zE Try.func22 rfl) #[.int .i64 (n.tdiv 3), .int .i64 70000] (zea (F24.get rfl) rfl) (zh ((zo (n.tdiv 3) 70000 (by omega) (by omega) (zsa hN (show (0 : Int) < 3 by decide)).1 (Int.lt_of_le_of_lt (zsa hN (show (0 : Int) < 3 by decide)).2 (by decide)) w21))) ?_
  rintro _ w25 a25 ⟨rfl, rfl⟩ F25
  refine rn rfl rfl F25 rfl (.int .i64 (1 + ((n.tdiv 3) % 70000))) (zz _ _ _ _ rfl rfl (F25.get rfl) rfl (by omega)) fun _ F26 => ?_
  refine zd (za rfl) rfl F26 rfl rfl (zE Try.func24 rfl) #[.int .i64 (1 + ((n.tdiv 3) % 70000))] (zp (F26.get rfl)) (zh ((zra (1 + ((n.tdiv 3) % 70000)) (by omega) (by omega) w21))) ?_
  rintro _ w27 a27 ⟨rfl, b27⟩ F27
  have M27 := M21.step b27
  refine zf (za rfl) rfl F27 rfl M27 4 (t := 27) (c := numA 0) (zda rfl) ?_
  intro g28 a28 w28 F28 M28
  clear F27 M27
  refine zn (za rfl) rfl F28 M28 (k := 4) rfl _ _ _ rfl (F28.get rfl) (F28.get rfl) (numA ((1 + ((n.tdiv 3) % 70000)).toNat)) _ rfl (zL rfl) (zaa _) (zt rfl) z7 ?_
  intro w29 M29
  clear M28
  refine hK22 _ _ (zS fun _ hK30 => ?_)
  refine zT fun _ hK31 => ?_
  refine zA 2 [(29, .pointer (some ⟨g8, 0, none⟩)), (30, .int .i64 6)] [0] (zj (M29.blk (k := 2) rfl) dnil) [g8] F28 fun _ F32 => ?_
  refine hK31 _ _ (wp_block ?_)
  refine zT fun _ hK33 => ?_
  refine zA 2 [(32, .bool false), (31, .bool false)] [] dnil [] F32 fun _ F34 => ?_
  refine hK33 _ _ (wp_cond_false (F34.get rfl) ?_)
  refine zT fun _ hK35 => ?_
  refine zA 2 [(45, .bool false), (44, .bool false)] [] dnil [] F34 fun a36 F36 => ?_
  refine hK35 _ _ (wp_cond_false (F36.get rfl) ?_)
  refine zT fun _ hK37 => ?_
  refine zA 2 [(63, .bool false), (62, .bool false)] [] dnil [] F36 fun a38 F38 => ?_
  refine hK37 _ _ (wp_cond_false (F38.get rfl) ?_)
  refine zT fun _ hK39 => ?_
  refine zA 2 [(69, .bool false), (68, .bool false)] [] dnil [] F38 fun _ F40 => ?_
  refine hK39 _ _ (wp_cond_false (F40.get rfl) ?_)
  refine zT fun _ hK41 => ?_
  refine zA 2 [(84, .bool false), (83, .bool false)] [] dnil [] F40 fun _ F42 => ?_
  refine hK41 _ _ (wp_cond_false (F42.get rfl) ?_)
  refine zT fun _ hK43 => ?_
  refine zA 2 [(90, .bool true), (89, .bool true)] [] dnil [] F42 fun a44 F44 => ?_
  refine hK43 _ _ (wp_cond_true (F44.get rfl) ?_)
  refine zR ?_
  refine rm rfl F44 fun a45 F45 => ?_
  refine rm rfl F45 fun _ F46 => ?_
  refine zd (za rfl) rfl F46 rfl rfl (zE Try.func42 rfl) #[.string s] (zp (F46.get rfl)) (zh ((lname_any s hs w29))) ?_
  rintro _ w47 a47 ⟨rfl, b47⟩ F47
  have M47 := M29.step b47
  refine rm rfl F47 fun _ F48 => ?_
  refine rm rfl F48 fun _ F49 => ?_
  refine zd (za rfl) rfl F49 rfl rfl (zE Try.func43 rfl) #[v, .int .i64 n, .int .i64 120] (args3 (F49.get rfl) (F49.get rfl) rfl) ((zac b (v) n 120 (1 + n % 120).toNat (by omega) (by decide) (by decide) hN w47 (M47.isb (k := 0) rfl))) ?_
  rintro v50 w50 a50 h50 F50
  have M50 := M47.newO h50.2 5 h50.1
  clear M47 h50
  obtain ⟨A50, c50, rfl⟩ := (M50.isO (k := 5) rfl).shape
  refine rn rfl rfl F50 rfl (.pointer (some ⟨g8, 1, none⟩)) (y_fa (off := 1) rfl (F50.get rfl) (by kernel_rfl) rfl) fun a51 F51 => ?_
  refine zn (za rfl) rfl F51 M50 (k := 2) rfl _ _ _ rfl (F51.get rfl) (F51.get rfl) (#[.int .i64 (1 + (n % 2))]) (msgA ⟨6, 1 + (n % 2), 0, 0, "".toUTF8, 0, 0, [], [], [], [], []⟩ ⟨zN, zN, zN, zN, zN⟩) rfl (zL rfl) (zeb _ _) (by kernel_rfl) (by kernel_rfl) ?_
  intro w52 M52
  clear M50
  refine rn rfl rfl F51 rfl (.pointer (some ⟨g8, 4, none⟩)) (y_fa (off := 4) rfl (F51.get rfl) (by kernel_rfl) rfl) fun a53 F53 => ?_
  refine zn (za rfl) rfl F53 M52 (k := 2) rfl _ _ _ rfl (F53.get rfl) (F53.get rfl) (#[.string (nmB s)]) (msgA ⟨6, 1 + (n % 2), 0, 0, (nmB s), 0, 0, [], [], [], [], []⟩ ⟨zN, zN, zN, zN, zN⟩) rfl (zL rfl) (one_str _) (by kernel_rfl) (by kernel_rfl) ?_
  intro w54 M54
  clear M52
  refine rn rfl rfl F53 rfl (.pointer (some ⟨g8, 25, none⟩)) (y_fa (off := 25) rfl (F53.get rfl) (by kernel_rfl) rfl) fun a55 F55 => ?_
  refine zn (za rfl) rfl F55 M54 (k := 2) rfl _ _ _ rfl (F55.get rfl) (F55.get rfl) (#[.slice A50 ((zw b n (1 + n % 120).toNat)).length c50]) (msgA ⟨6, 1 + (n % 2), 0, 0, (nmB s), 0, 0, [], [], [], [], (zw b n (1 + n % 120).toNat)⟩ ⟨zN, zN, zN, zN, .slice A50 ((zw b n (1 + n % 120).toNat)).length c50⟩) rfl (zL rfl) (z9b (M54.isO (k := 5) rfl)) (by kernel_rfl) (by kernel_rfl) ?_
  intro w56 M56
  clear M54
  refine hK30 _ _ (zS fun _ hK57 => ?_)
  refine zR ?_
  refine rn rfl rfl F55 rfl _ (zja _ _ rfl (F55.get rfl) (M56.blk (k := 2) rfl) (msgA ⟨6, 1 + (n % 2), 0, 0, (nmB s), 0, 0, [], [], [], [], (zw b n (1 + n % 120).toNat)⟩ ⟨zN, zN, zN, zN, .slice A50 ((zw b n (1 + n % 120).toNat)).length c50⟩) (zma rfl) Try.underlying29 rfl (by kernel_rfl)) fun a58 F58 => ?_
  refine zn (za rfl) rfl F58 M56 (k := 1) rfl _ _ _ rfl (F58.get rfl) (F58.get rfl) (msgA ⟨6, 1 + (n % 2), 0, 0, (nmB s), 0, 0, [], [], [], [], (zw b n (1 + n % 120).toNat)⟩ ⟨zN, zN, zN, zN, .slice A50 ((zw b n (1 + n % 120).toNat)).length c50⟩) _ rfl (zL rfl) (zy (w := w56) ⟨(zc _), (zc _), (zc _), (zc _), (M56.isO (k := 5) rfl)⟩) (zt rfl) (by kernel_rfl) ?_
  intro w59 M59
  clear M56
  refine hK57 _ _ (wp_ret ?_)
  try simp only [Exit.then, Exit.inBlock, Exit.jump]
  exact bodyPost_ret (results_cell_row rfl _ _ _ _ _ (0, 0) _ (F58.get rfl) (M59.blk (k := 1) rfl) Try.underlying29 rfl (by kernel_rfl)) F58.defers ⟨_, rfl, ⟨zN, zN, zN, zN, .slice A50 ((zw b n (1 + n % 120).toNat)).length c50⟩, (by rw [(show mkM kind n s b = (⟨6, 1 + (n % 2), 0, 0, (nmB s), 0, 0, [], [], [], [], (zw b n (1 + n % 120).toNat)⟩ : MsgN) from by unfold mkM; simp only [hkk, ↓reduceIte, Int.reduceEq])]), (by rw [(show mkM kind n s b = (⟨6, 1 + (n % 2), 0, 0, (nmB s), 0, 0, [], [], [], [], (zw b n (1 + n % 120).toNat)⟩ : MsgN) from by unfold mkM; simp only [hkk, ↓reduceIte, Int.reduceEq])]; exact ⟨(zc _), (zc _), (zc _), (zc _), (M59.isO (k := 5) rfl)⟩), (fun g h => h.elim (fun h => (z6 _ h).elim) fun h => h.elim (fun h => (z6 _ h).elim) fun h => h.elim (fun h => (z6 _ h).elim) fun h => h.elim (fun h => (z6 _ h).elim) (fun h => M59.owns (k := 5) rfl g (zva h))), M59.below⟩
 ·refine zg (args := [.int .i64 kind, .int .i64 n, .string s, v]) 132 Try.func16 rfl rfl rfl ?_
  intro fa F
  have M := Mx.start w
  replace M := M.argB 0 hv (fun g e => by cases e)
  refine zT fun _ hK1 => ?_
  refine zf (za rfl) rfl F rfl M 1 (t := 29) (c := msgA ⟨0, 0, 0, 0, "".toUTF8, 0, 0, [], [], [], [], []⟩ ⟨zN, zN, zN, zN, zN⟩) (by unfold execOp; kernel_rfl) ?_
  intro g2 a2 w2 F2 M2
  clear F M
  refine hK1 _ _ (zS fun _ hK3 => ?_)
  refine zR ?_
  refine rm rfl F2 fun _ F4 => ?_
  refine zd (za rfl) rfl F4 rfl rfl (zE Try.func22 rfl) #[.int .i64 kind, .int .i64 12] (zea (F4.get rfl) rfl) (zh ((hkk ▸ zo kind 12 (by omega) (by omega) hkd.1 hkd.2 w2))) ?_
  rintro _ w5 a5 ⟨rfl, rfl⟩ F5
  refine rn rfl rfl F5 rfl (.int .i64 7) (zz _ _ _ _ rfl rfl (F5.get rfl) rfl (by omega)) fun _ F6 => ?_
  refine rn rfl rfl F6 rfl (.agg (msgA ⟨7, 0, 0, 0, "".toUTF8, 0, 0, [], [], [], [], []⟩ ⟨zN, zN, zN, zN, zN⟩)) (by unfold execOp; simp only [List.map_toArray, List.map_cons, List.map_nil, (F6.get (t := 15) rfl)]; kernel_rfl) fun _ F7 => ?_
  refine zf (za rfl) rfl F7 rfl M2 2 (t := 29) (c := msgA ⟨0, 0, 0, 0, "".toUTF8, 0, 0, [], [], [], [], []⟩ ⟨zN, zN, zN, zN, zN⟩) (by unfold execOp; kernel_rfl) ?_
  intro g8 a8 w8 F8 M8
  clear F7 M2
  refine zn (za rfl) rfl F8 M8 (k := 2) rfl _ _ _ rfl (F8.get rfl) (F8.get rfl) (msgA ⟨7, 0, 0, 0, "".toUTF8, 0, 0, [], [], [], [], []⟩ ⟨zN, zN, zN, zN, zN⟩) _ rfl (zL rfl) (zy (w := w8) ⟨(zc _), (zc _), (zc _), (zc _), (zc _)⟩) (zt rfl) (by kernel_rfl) ?_
  intro w9 M9
  clear M8
  refine hK3 _ _ (zS fun _ hK10 => ?_)
  refine zR ?_
  refine rm rfl F8 fun _ F11 => ?_
  refine zd (za rfl) rfl F11 rfl rfl (zE Try.func22 rfl) #[.int .i64 n, .int .i64 2] (zea (F11.get rfl) rfl) (zh ((zo n 2 (by omega) (by omega) hN.1 hN.2 w9))) ?_
  rintro _ w12 a12 ⟨rfl, rfl⟩ F12
  refine rn rfl rfl F12 rfl (.int .i64 (1 + (n % 2))) (zz _ _ _ _ rfl rfl (F12.get rfl) rfl (by omega)) fun _ F13 => ?_
  refine rm rfl F13 fun _ F14 => ?_
  refine hK10 _ _ (zS fun _ hK15 => ?_)
  refine zR ?_
  refine rm rfl F14 fun _ F16 => ?_
  refine zd (za rfl) rfl F16 rfl rfl (zE Try.func22 rfl) #[.int .i64 n, .int .i64 4294967295] (zea (F16.get rfl) rfl) (zh ((zo n 4294967295 (by omega) (by omega) hN.1 hN.2 w9))) ?_
  rintro _ w17 a17 ⟨rfl, rfl⟩ F17
  refine rn rfl rfl F17 rfl (.int .i64 (1 + (n % 4294967295))) (zz _ _ _ _ rfl rfl (F17.get rfl) rfl (by omega)) fun _ F18 => ?_
  refine zd (za rfl) rfl F18 rfl rfl (zE Try.func24 rfl) #[.int .i64 (1 + (n % 4294967295))] (zp (F18.get rfl)) (zh ((zra (1 + (n % 4294967295)) (by omega) (by omega) w9))) ?_
  rintro _ w19 a19 ⟨rfl, b19⟩ F19
  have M19 := M9.step b19
  refine zf (za rfl) rfl F19 rfl M19 3 (t := 27) (c := numA 0) (zda rfl) ?_
  intro g20 a20 w20 F20 M20
  clear F19 M19
  refine zn (za rfl) rfl F20 M20 (k := 3) rfl _ _ _ rfl (F20.get rfl) (F20.get rfl) (numA ((1 + (n % 4294967295)).toNat)) _ rfl (zL rfl) (zaa _) (zt rfl) z7 ?_
  intro w21 M21
  clear M20
  refine hK15 _ _ (zS fun _ hK22 => ?_)
  refine zR ?_
  refine rm rfl F20 fun _ F23 => ?_
  refine rn rfl rfl F23 rfl (.int .i64 (n.tdiv 3)) (y_quoT _ _ _ _ rfl (F23.get rfl) rfl hN (by decide) rfl) fun _ F24 => ?_
  refine zd (za rfl) rfl F24 rfl rfl (zE Try.func22 rfl) #[.int .i64 (n.tdiv 3), .int .i64 70000] (zea (F24.get rfl) rfl) (zh ((zo (n.tdiv 3) 70000 (by omega) (by omega) (zsa hN (show (0 : Int) < 3 by decide)).1 (Int.lt_of_le_of_lt (zsa hN (show (0 : Int) < 3 by decide)).2 (by decide)) w21))) ?_
  rintro _ w25 a25 ⟨rfl, rfl⟩ F25
  refine rn rfl rfl F25 rfl (.int .i64 (1 + ((n.tdiv 3) % 70000))) (zz _ _ _ _ rfl rfl (F25.get rfl) rfl (by omega)) fun _ F26 => ?_
  refine zd (za rfl) rfl F26 rfl rfl (zE Try.func24 rfl) #[.int .i64 (1 + ((n.tdiv 3) % 70000))] (zp (F26.get rfl)) (zh ((zra (1 + ((n.tdiv 3) % 70000)) (by omega) (by omega) w21))) ?_
  rintro _ w27 a27 ⟨rfl, b27⟩ F27
  have M27 := M21.step b27
  refine zf (za rfl) rfl F27 rfl M27 4 (t := 27) (c := numA 0) (zda rfl) ?_
  intro g28 a28 w28 F28 M28
  clear F27 M27
  refine zn (za rfl) rfl F28 M28 (k := 4) rfl _ _ _ rfl (F28.get rfl) (F28.get rfl) (numA ((1 + ((n.tdiv 3) % 70000)).toNat)) _ rfl (zL rfl) (zaa _) (zt rfl) z7 ?_
  intro w29 M29
  clear M28
  refine hK22 _ _ (zS fun _ hK30 => ?_)
  refine zT fun _ hK31 => ?_
  refine zA 2 [(29, .pointer (some ⟨g8, 0, none⟩)), (30, .int .i64 7)] [0] (zj (M29.blk (k := 2) rfl) dnil) [g8] F28 fun _ F32 => ?_
  refine hK31 _ _ (wp_block ?_)
  refine zT fun _ hK33 => ?_
  refine zA 2 [(32, .bool false), (31, .bool false)] [] dnil [] F32 fun _ F34 => ?_
  refine hK33 _ _ (wp_cond_false (F34.get rfl) ?_)
  refine zT fun _ hK35 => ?_
  refine zA 2 [(45, .bool false), (44, .bool false)] [] dnil [] F34 fun a36 F36 => ?_
  refine hK35 _ _ (wp_cond_false (F36.get rfl) ?_)
  refine zT fun _ hK37 => ?_
  refine zA 2 [(63, .bool false), (62, .bool false)] [] dnil [] F36 fun a38 F38 => ?_
  refine hK37 _ _ (wp_cond_false (F38.get rfl) ?_)
  refine zT fun _ hK39 => ?_
  refine zA 2 [(69, .bool false), (68, .bool false)] [] dnil [] F38 fun _ F40 => ?_
  refine hK39 _ _ (wp_cond_false (F40.get rfl) ?_)
  refine zT fun _ hK41 => ?_
  refine zA 2 [(84, .bool false), (83, .bool false)] [] dnil [] F40 fun _ F42 => ?_
  refine hK41 _ _ (wp_cond_false (F42.get rfl) ?_)
  refine zT fun _ hK43 => ?_
  refine zA 2 [(90, .bool false), (89, .bool false)] [] dnil [] F42 fun a44 F44 => ?_
  refine hK43 _ _ (wp_cond_false (F44.get rfl) ?_)
  refine zS fun _ hK45 => zS fun _ hK46 => ?_
  refine zR ?_
  refine zA 2 [(101, .bool false), (100, .bool false)] [] dnil [] F44 fun a47 F47 => ?_
  refine hK46 _ _ (wp_cond_false (F47.get rfl) ?_)
  refine zR ?_
  refine zA 2 [(100, .bool false), (102, .bool false)] [] dnil [] F47 fun _ F48 => ?_
  refine hK45 _ _ (wp_cond_false (F48.get rfl) ?_)
  refine zS fun _ hK49 => zS fun _ hK50 => ?_
  refine zR ?_
  refine zA 2 [(112, .bool false), (111, .bool false)] [] dnil [] F48 fun a51 F51 => ?_
  refine hK50 _ _ (wp_cond_false (F51.get rfl) ?_)
  refine zR ?_
  refine zA 2 [(111, .bool false), (113, .bool false)] [] dnil [] F51 fun a52 F52 => ?_
  refine hK49 _ _ (wp_cond_false (F52.get rfl) ?_)
  refine zT fun _ hK53 => ?_
  refine zA 2 [(119, .bool false), (118, .bool false)] [] dnil [] F52 fun a54 F54 => ?_
  refine hK53 _ _ (wp_cond_false (F54.get rfl) ?_)
  refine wp_skip ?_
  refine hK30 _ _ (zS fun _ hK55 => ?_)
  refine zR ?_
  refine rn rfl rfl F54 rfl _ (zja _ _ rfl (F54.get rfl) (M29.blk (k := 2) rfl) (msgA ⟨7, 0, 0, 0, "".toUTF8, 0, 0, [], [], [], [], []⟩ ⟨zN, zN, zN, zN, zN⟩) (zma rfl) Try.underlying29 rfl (by kernel_rfl)) fun a56 F56 => ?_
  refine zn (za rfl) rfl F56 M29 (k := 1) rfl _ _ _ rfl (F56.get rfl) (F56.get rfl) (msgA ⟨7, 0, 0, 0, "".toUTF8, 0, 0, [], [], [], [], []⟩ ⟨zN, zN, zN, zN, zN⟩) _ rfl (zL rfl) (zy (w := w29) ⟨(zc _), (zc _), (zc _), (zc _), (zc _)⟩) (zt rfl) (by kernel_rfl) ?_
  intro w57 M57
  clear M29
  refine hK55 _ _ (wp_ret ?_)
  try simp only [Exit.then, Exit.inBlock, Exit.jump]
  exact bodyPost_ret (results_cell_row rfl _ _ _ _ _ (0, 0) _ (F56.get rfl) (M57.blk (k := 1) rfl) Try.underlying29 rfl (by kernel_rfl)) F56.defers ⟨_, rfl, ⟨zN, zN, zN, zN, zN⟩, (by rw [(show mkM kind n s b = (⟨7, 0, 0, 0, "".toUTF8, 0, 0, [], [], [], [], []⟩ : MsgN) from by unfold mkM; simp only [hkk, ↓reduceIte, Int.reduceEq])]), (by rw [(show mkM kind n s b = (⟨7, 0, 0, 0, "".toUTF8, 0, 0, [], [], [], [], []⟩ : MsgN) from by unfold mkM; simp only [hkk, ↓reduceIte, Int.reduceEq])]; exact ⟨(zc _), (zc _), (zc _), (zc _), (zc _)⟩), (fun g h => h.elim (fun h => (z6 _ h).elim) fun h => h.elim (fun h => (z6 _ h).elim) fun h => h.elim (fun h => (z6 _ h).elim) fun h => h.elim (fun h => (z6 _ h).elim) (fun h => (z6 _ h).elim)), M57.below⟩
 ·refine zg (args := [.int .i64 kind, .int .i64 n, .string s, v]) 132 Try.func16 rfl rfl rfl ?_
  intro fa F
  have M := Mx.start w
  replace M := M.argB 0 hv (fun g e => by cases e)
  refine zT fun _ hK1 => ?_
  refine zf (za rfl) rfl F rfl M 1 (t := 29) (c := msgA ⟨0, 0, 0, 0, "".toUTF8, 0, 0, [], [], [], [], []⟩ ⟨zN, zN, zN, zN, zN⟩) (by unfold execOp; kernel_rfl) ?_
  intro g2 a2 w2 F2 M2
  clear F M
  refine hK1 _ _ (zS fun _ hK3 => ?_)
  refine zR ?_
  refine rm rfl F2 fun _ F4 => ?_
  refine zd (za rfl) rfl F4 rfl rfl (zE Try.func22 rfl) #[.int .i64 kind, .int .i64 12] (zea (F4.get rfl) rfl) (zh ((hkk ▸ zo kind 12 (by omega) (by omega) hkd.1 hkd.2 w2))) ?_
  rintro _ w5 a5 ⟨rfl, rfl⟩ F5
  refine rn rfl rfl F5 rfl (.int .i64 8) (zz _ _ _ _ rfl rfl (F5.get rfl) rfl (by omega)) fun _ F6 => ?_
  refine rn rfl rfl F6 rfl (.agg (msgA ⟨8, 0, 0, 0, "".toUTF8, 0, 0, [], [], [], [], []⟩ ⟨zN, zN, zN, zN, zN⟩)) (by unfold execOp; simp only [List.map_toArray, List.map_cons, List.map_nil, (F6.get (t := 15) rfl)]; kernel_rfl) fun _ F7 => ?_
  refine zf (za rfl) rfl F7 rfl M2 2 (t := 29) (c := msgA ⟨0, 0, 0, 0, "".toUTF8, 0, 0, [], [], [], [], []⟩ ⟨zN, zN, zN, zN, zN⟩) (by unfold execOp; kernel_rfl) ?_
  intro g8 a8 w8 F8 M8
  clear F7 M2
  refine zn (za rfl) rfl F8 M8 (k := 2) rfl _ _ _ rfl (F8.get rfl) (F8.get rfl) (msgA ⟨8, 0, 0, 0, "".toUTF8, 0, 0, [], [], [], [], []⟩ ⟨zN, zN, zN, zN, zN⟩) _ rfl (zL rfl) (zy (w := w8) ⟨(zc _), (zc _), (zc _), (zc _), (zc _)⟩) (zt rfl) (by kernel_rfl) ?_
  intro w9 M9
  clear M8
  refine hK3 _ _ (zS fun _ hK10 => ?_)
  refine zR ?_
  refine rm rfl F8 fun _ F11 => ?_
  refine zd (za rfl) rfl F11 rfl rfl (zE Try.func22 rfl) #[.int .i64 n, .int .i64 2] (zea (F11.get rfl) rfl) (zh ((zo n 2 (by omega) (by omega) hN.1 hN.2 w9))) ?_
  rintro _ w12 a12 ⟨rfl, rfl⟩ F12
  refine rn rfl rfl F12 rfl (.int .i64 (1 + (n % 2))) (zz _ _ _ _ rfl rfl (F12.get rfl) rfl (by omega)) fun _ F13 => ?_
  refine rm rfl F13 fun _ F14 => ?_
  refine hK10 _ _ (zS fun _ hK15 => ?_)
  refine zR ?_
  refine rm rfl F14 fun _ F16 => ?_
  refine zd (za rfl) rfl F16 rfl rfl (zE Try.func22 rfl) #[.int .i64 n, .int .i64 4294967295] (zea (F16.get rfl) rfl) (zh ((zo n 4294967295 (by omega) (by omega) hN.1 hN.2 w9))) ?_
  rintro _ w17 a17 ⟨rfl, rfl⟩ F17
  refine rn rfl rfl F17 rfl (.int .i64 (1 + (n % 4294967295))) (zz _ _ _ _ rfl rfl (F17.get rfl) rfl (by omega)) fun _ F18 => ?_
  refine zd (za rfl) rfl F18 rfl rfl (zE Try.func24 rfl) #[.int .i64 (1 + (n % 4294967295))] (zp (F18.get rfl)) (zh ((zra (1 + (n % 4294967295)) (by omega) (by omega) w9))) ?_
  rintro _ w19 a19 ⟨rfl, b19⟩ F19
  have M19 := M9.step b19
  refine zf (za rfl) rfl F19 rfl M19 3 (t := 27) (c := numA 0) (zda rfl) ?_
  intro g20 a20 w20 F20 M20
  clear F19 M19
  refine zn (za rfl) rfl F20 M20 (k := 3) rfl _ _ _ rfl (F20.get rfl) (F20.get rfl) (numA ((1 + (n % 4294967295)).toNat)) _ rfl (zL rfl) (zaa _) (zt rfl) z7 ?_
  intro w21 M21
  clear M20
  refine hK15 _ _ (zS fun _ hK22 => ?_)
  refine zR ?_
  refine rm rfl F20 fun _ F23 => ?_
  refine rn rfl rfl F23 rfl (.int .i64 (n.tdiv 3)) (y_quoT _ _ _ _ rfl (F23.get rfl) rfl hN (by decide) rfl) fun _ F24 => ?_
  refine zd (za rfl) rfl F24 rfl rfl (zE Try.func22 rfl) #[.int .i64 (n.tdiv 3), .int .i64 70000] (zea (F24.get rfl) rfl) (zh ((zo (n.tdiv 3) 70000 (by omega) (by omega) (zsa hN (show (0 : Int) < 3 by decide)).1 (Int.lt_of_le_of_lt (zsa hN (show (0 : Int) < 3 by decide)).2 (by decide)) w21))) ?_
  rintro _ w25 a25 ⟨rfl, rfl⟩ F25
  refine rn rfl rfl F25 rfl (.int .i64 (1 + ((n.tdiv 3) % 70000))) (zz _ _ _ _ rfl rfl (F25.get rfl) rfl (by omega)) fun _ F26 => ?_
  refine zd (za rfl) rfl F26 rfl rfl (zE Try.func24 rfl) #[.int .i64 (1 + ((n.tdiv 3) % 70000))] (zp (F26.get rfl)) (zh ((zra (1 + ((n.tdiv 3) % 70000)) (by omega) (by omega) w21))) ?_
  rintro _ w27 a27 ⟨rfl, b27⟩ F27
  have M27 := M21.step b27
  refine zf (za rfl) rfl F27 rfl M27 4 (t := 27) (c := numA 0) (zda rfl) ?_
  intro g28 a28 w28 F28 M28
  clear F27 M27
  refine zn (za rfl) rfl F28 M28 (k := 4) rfl _ _ _ rfl (F28.get rfl) (F28.get rfl) (numA ((1 + ((n.tdiv 3) % 70000)).toNat)) _ rfl (zL rfl) (zaa _) (zt rfl) z7 ?_
  intro w29 M29
  clear M28
  refine hK22 _ _ (zS fun _ hK30 => ?_)
  refine zT fun _ hK31 => ?_
  refine zA 2 [(29, .pointer (some ⟨g8, 0, none⟩)), (30, .int .i64 8)] [0] (zj (M29.blk (k := 2) rfl) dnil) [g8] F28 fun _ F32 => ?_
  refine hK31 _ _ (wp_block ?_)
  refine zT fun _ hK33 => ?_
  refine zA 2 [(32, .bool false), (31, .bool false)] [] dnil [] F32 fun _ F34 => ?_
  refine hK33 _ _ (wp_cond_false (F34.get rfl) ?_)
  refine zT fun _ hK35 => ?_
  refine zA 2 [(45, .bool false), (44, .bool false)] [] dnil [] F34 fun a36 F36 => ?_
  refine hK35 _ _ (wp_cond_false (F36.get rfl) ?_)
  refine zT fun _ hK37 => ?_
  refine zA 2 [(63, .bool false), (62, .bool false)] [] dnil [] F36 fun a38 F38 => ?_
  refine hK37 _ _ (wp_cond_false (F38.get rfl) ?_)
  refine zT fun _ hK39 => ?_
  refine zA 2 [(69, .bool false), (68, .bool false)] [] dnil [] F38 fun _ F40 => ?_
  refine hK39 _ _ (wp_cond_false (F40.get rfl) ?_)
  refine zT fun _ hK41 => ?_
  refine zA 2 [(84, .bool false), (83, .bool false)] [] dnil [] F40 fun _ F42 => ?_
  refine hK41 _ _ (wp_cond_false (F42.get rfl) ?_)
  refine zT fun _ hK43 => ?_
  refine zA 2 [(90, .bool false), (89, .bool false)] [] dnil [] F42 fun a44 F44 => ?_
  refine hK43 _ _ (wp_cond_false (F44.get rfl) ?_)
  refine zS fun _ hK45 => zS fun _ hK46 => ?_
  refine zR ?_
  refine zA 2 [(101, .bool true), (100, .bool true)] [] dnil [] F44 fun a47 F47 => ?_
  refine hK46 _ _ (wp_cond_true (F47.get rfl) ?_)
  refine wp_skip ?_
  refine hK45 _ _ (wp_cond_true (F47.get rfl) ?_)
  refine zR ?_
  refine rm rfl F47 fun _ F48 => ?_
  refine rm rfl F48 fun _ F49 => ?_
  refine zd (za rfl) rfl F49 rfl rfl (zE Try.func43 rfl) #[v, .int .i64 n, .int .i64 80] (args3 (F49.get rfl) (F49.get rfl) rfl) ((zac b (v) n 80 (1 + n % 80).toNat (by omega) (by decide) (by decide) hN w29 (M29.isb (k := 0) rfl))) ?_
  rintro v50 w50 a50 h50 F50
  have M50 := M29.newO h50.2 5 h50.1
  clear M29 h50
  obtain ⟨A50, c50, rfl⟩ := (M50.isO (k := 5) rfl).shape
  refine rm rfl F50 fun a51 F51 => ?_
  refine zd (za rfl) rfl F51 rfl rfl (zE Try.func22 rfl) #[.int .i64 n, .int .i64 1099511627776] (zea (F51.get rfl) rfl) (zh ((zo n 1099511627776 (by omega) (by omega) hN.1 hN.2 w50))) ?_
  rintro _ w52 a52 ⟨rfl, rfl⟩ F52
  refine rn rfl rfl F52 rfl (.int .i64 (1 + (n % 1099511627776))) (zz _ _ _ _ rfl rfl (F52.get rfl) rfl (by omega)) fun a53 F53 => ?_
  refine rn rfl rfl F53 rfl (.pointer (some ⟨g8, 24, none⟩)) (y_fa (off := 24) rfl (F53.get rfl) (by kernel_rfl) rfl) fun a54 F54 => ?_
  refine zn (za rfl) rfl F54 M50 (k := 2) rfl _ _ _ rfl (F54.get rfl) (F54.get rfl) (#[.slice A50 ((zw b n (1 + n % 80).toNat)).length c50]) (msgA ⟨8, 0, 0, 0, "".toUTF8, 0, 0, [], [], [], (zw b n (1 + n % 80).toNat), []⟩ ⟨zN, zN, zN, .slice A50 ((zw b n (1 + n % 80).toNat)).length c50, zN⟩) rfl (zL rfl) (z9b (M50.isO (k := 5) rfl)) (by kernel_rfl) (by kernel_rfl) ?_
  intro w55 M55
  clear M50
  refine rn rfl rfl F54 rfl (.pointer (some ⟨g8, 2, none⟩)) (y_fa (off := 2) rfl (F54.get rfl) (by kernel_rfl) rfl) fun a56 F56 => ?_
  refine zn (za rfl) rfl F56 M55 (k := 2) rfl _ _ _ rfl (F56.get rfl) (F56.get rfl) (#[.int .i64 (1 + (n % 1099511627776))]) (msgA ⟨8, 0, 1 + (n % 1099511627776), 0, "".toUTF8, 0, 0, [], [], [], (zw b n (1 + n % 80).toNat), []⟩ ⟨zN, zN, zN, .slice A50 ((zw b n (1 + n % 80).toNat)).length c50, zN⟩) rfl (zL rfl) (zeb _ _) (by kernel_rfl) (by kernel_rfl) ?_
  intro w57 M57
  clear M55
  refine hK30 _ _ (zS fun _ hK58 => ?_)
  refine zR ?_
  refine rn rfl rfl F56 rfl _ (zja _ _ rfl (F56.get rfl) (M57.blk (k := 2) rfl) (msgA ⟨8, 0, 1 + (n % 1099511627776), 0, "".toUTF8, 0, 0, [], [], [], (zw b n (1 + n % 80).toNat), []⟩ ⟨zN, zN, zN, .slice A50 ((zw b n (1 + n % 80).toNat)).length c50, zN⟩) (zma rfl) Try.underlying29 rfl (by kernel_rfl)) fun _ F59 => ?_
  refine zn (za rfl) rfl F59 M57 (k := 1) rfl _ _ _ rfl (F59.get rfl) (F59.get rfl) (msgA ⟨8, 0, 1 + (n % 1099511627776), 0, "".toUTF8, 0, 0, [], [], [], (zw b n (1 + n % 80).toNat), []⟩ ⟨zN, zN, zN, .slice A50 ((zw b n (1 + n % 80).toNat)).length c50, zN⟩) _ rfl (zL rfl) (zy (w := w57) ⟨(zc _), (zc _), (zc _), (M57.isO (k := 5) rfl), (zc _)⟩) (zt rfl) (by kernel_rfl) ?_
  intro w60 M60
  clear M57
  refine hK58 _ _ (wp_ret ?_)
  try simp only [Exit.then, Exit.inBlock, Exit.jump]
  exact bodyPost_ret (results_cell_row rfl _ _ _ _ _ (0, 0) _ (F59.get rfl) (M60.blk (k := 1) rfl) Try.underlying29 rfl (by kernel_rfl)) F59.defers ⟨_, rfl, ⟨zN, zN, zN, .slice A50 ((zw b n (1 + n % 80).toNat)).length c50, zN⟩, (by rw [(show mkM kind n s b = (⟨8, 0, 1 + (n % 1099511627776), 0, "".toUTF8, 0, 0, [], [], [], (zw b n (1 + n % 80).toNat), []⟩ : MsgN) from by unfold mkM; simp only [hkk, ↓reduceIte, Int.reduceEq])]), (by rw [(show mkM kind n s b = (⟨8, 0, 1 + (n % 1099511627776), 0, "".toUTF8, 0, 0, [], [], [], (zw b n (1 + n % 80).toNat), []⟩ : MsgN) from by unfold mkM; simp only [hkk, ↓reduceIte, Int.reduceEq])]; exact ⟨(zc _), (zc _), (zc _), (M60.isO (k := 5) rfl), (zc _)⟩), (fun g h => h.elim (fun h => (z6 _ h).elim) fun h => h.elim (fun h => (z6 _ h).elim) fun h => h.elim (fun h => (z6 _ h).elim) fun h => h.elim (fun h => M60.owns (k := 5) rfl g (zva h)) (fun h => (z6 _ h).elim)), M60.below⟩
 ·refine zg (args := [.int .i64 kind, .int .i64 n, .string s, v]) 132 Try.func16 rfl rfl rfl ?_
  intro fa F
  have M := Mx.start w
  replace M := M.argB 0 hv (fun g e => by cases e)
  refine zT fun _ hK1 => ?_
  refine zf (za rfl) rfl F rfl M 1 (t := 29) (c := msgA ⟨0, 0, 0, 0, "".toUTF8, 0, 0, [], [], [], [], []⟩ ⟨zN, zN, zN, zN, zN⟩) (by unfold execOp; kernel_rfl) ?_
  intro g2 a2 w2 F2 M2
  clear F M
  refine hK1 _ _ (zS fun _ hK3 => ?_)
  refine zR ?_
  refine rm rfl F2 fun _ F4 => ?_
  refine zd (za rfl) rfl F4 rfl rfl (zE Try.func22 rfl) #[.int .i64 kind, .int .i64 12] (zea (F4.get rfl) rfl) (zh ((hkk ▸ zo kind 12 (by omega) (by omega) hkd.1 hkd.2 w2))) ?_
  rintro _ w5 a5 ⟨rfl, rfl⟩ F5
  refine rn rfl rfl F5 rfl (.int .i64 9) (zz _ _ _ _ rfl rfl (F5.get rfl) rfl (by omega)) fun _ F6 => ?_
  refine rn rfl rfl F6 rfl (.agg (msgA ⟨9, 0, 0, 0, "".toUTF8, 0, 0, [], [], [], [], []⟩ ⟨zN, zN, zN, zN, zN⟩)) (by unfold execOp; simp only [List.map_toArray, List.map_cons, List.map_nil, (F6.get (t := 15) rfl)]; kernel_rfl) fun _ F7 => ?_
  refine zf (za rfl) rfl F7 rfl M2 2 (t := 29) (c := msgA ⟨0, 0, 0, 0, "".toUTF8, 0, 0, [], [], [], [], []⟩ ⟨zN, zN, zN, zN, zN⟩) (by unfold execOp; kernel_rfl) ?_
  intro g8 a8 w8 F8 M8
  clear F7 M2
  refine zn (za rfl) rfl F8 M8 (k := 2) rfl _ _ _ rfl (F8.get rfl) (F8.get rfl) (msgA ⟨9, 0, 0, 0, "".toUTF8, 0, 0, [], [], [], [], []⟩ ⟨zN, zN, zN, zN, zN⟩) _ rfl (zL rfl) (zy (w := w8) ⟨(zc _), (zc _), (zc _), (zc _), (zc _)⟩) (zt rfl) (by kernel_rfl) ?_
  intro w9 M9
  clear M8
  refine hK3 _ _ (zS fun _ hK10 => ?_)
  refine zR ?_
  refine rm rfl F8 fun _ F11 => ?_
  refine zd (za rfl) rfl F11 rfl rfl (zE Try.func22 rfl) #[.int .i64 n, .int .i64 2] (zea (F11.get rfl) rfl) (zh ((zo n 2 (by omega) (by omega) hN.1 hN.2 w9))) ?_
  rintro _ w12 a12 ⟨rfl, rfl⟩ F12
  refine rn rfl rfl F12 rfl (.int .i64 (1 + (n % 2))) (zz _ _ _ _ rfl rfl (F12.get rfl) rfl (by omega)) fun _ F13 => ?_
  refine rm rfl F13 fun _ F14 => ?_
  refine hK10 _ _ (zS fun _ hK15 => ?_)
  refine zR ?_
  refine rm rfl F14 fun _ F16 => ?_
  refine zd (za rfl) rfl F16 rfl rfl (zE Try.func22 rfl) #[.int .i64 n, .int .i64 4294967295] (zea (F16.get rfl) rfl) (zh ((zo n 4294967295 (by omega) (by omega) hN.1 hN.2 w9))) ?_
  rintro _ w17 a17 ⟨rfl, rfl⟩ F17
  refine rn rfl rfl F17 rfl (.int .i64 (1 + (n % 4294967295))) (zz _ _ _ _ rfl rfl (F17.get rfl) rfl (by omega)) fun _ F18 => ?_
  refine zd (za rfl) rfl F18 rfl rfl (zE Try.func24 rfl) #[.int .i64 (1 + (n % 4294967295))] (zp (F18.get rfl)) (zh ((zra (1 + (n % 4294967295)) (by omega) (by omega) w9))) ?_
  rintro _ w19 a19 ⟨rfl, b19⟩ F19
  have M19 := M9.step b19
  refine zf (za rfl) rfl F19 rfl M19 3 (t := 27) (c := numA 0) (zda rfl) ?_
  intro g20 a20 w20 F20 M20
  clear F19 M19
  refine zn (za rfl) rfl F20 M20 (k := 3) rfl _ _ _ rfl (F20.get rfl) (F20.get rfl) (numA ((1 + (n % 4294967295)).toNat)) _ rfl (zL rfl) (zaa _) (zt rfl) z7 ?_
  intro w21 M21
  clear M20
  refine hK15 _ _ (zS fun _ hK22 => ?_)
  refine zR ?_
  refine rm rfl F20 fun _ F23 => ?_
  refine rn rfl rfl F23 rfl (.int .i64 (n.tdiv 3)) (y_quoT _ _ _ _ rfl (F23.get rfl) rfl hN (by decide) rfl) fun _ F24 => ?_
  refine zd (za rfl) rfl F24 rfl rfl (zE Try.func22 rfl) #[.int .i64 (n.tdiv 3), .int .i64 70000] (zea (F24.get rfl) rfl) (zh ((zo (n.tdiv 3) 70000 (by omega) (by omega) (zsa hN (show (0 : Int) < 3 by decide)).1 (Int.lt_of_le_of_lt (zsa hN (show (0 : Int) < 3 by decide)).2 (by decide)) w21))) ?_
  rintro _ w25 a25 ⟨rfl, rfl⟩ F25
  refine rn rfl rfl F25 rfl (.int .i64 (1 + ((n.tdiv 3) % 70000))) (zz _ _ _ _ rfl rfl (F25.get rfl) rfl (by omega)) fun _ F26 => ?_
  refine zd (za rfl) rfl F26 rfl rfl (zE Try.func24 rfl) #[.int .i64 (1 + ((n.tdiv 3) % 70000))] (zp (F26.get rfl)) (zh ((zra (1 + ((n.tdiv 3) % 70000)) (by omega) (by omega) w21))) ?_
  rintro _ w27 a27 ⟨rfl, b27⟩ F27
  have M27 := M21.step b27
  refine zf (za rfl) rfl F27 rfl M27 4 (t := 27) (c := numA 0) (zda rfl) ?_
  intro g28 a28 w28 F28 M28
  clear F27 M27
  refine zn (za rfl) rfl F28 M28 (k := 4) rfl _ _ _ rfl (F28.get rfl) (F28.get rfl) (numA ((1 + ((n.tdiv 3) % 70000)).toNat)) _ rfl (zL rfl) (zaa _) (zt rfl) z7 ?_
  intro w29 M29
  clear M28
  refine hK22 _ _ (zS fun _ hK30 => ?_)
  refine zT fun _ hK31 => ?_
  refine zA 2 [(29, .pointer (some ⟨g8, 0, none⟩)), (30, .int .i64 9)] [0] (zj (M29.blk (k := 2) rfl) dnil) [g8] F28 fun _ F32 => ?_
  refine hK31 _ _ (wp_block ?_)
  refine zT fun _ hK33 => ?_
  refine zA 2 [(32, .bool false), (31, .bool false)] [] dnil [] F32 fun _ F34 => ?_
  refine hK33 _ _ (wp_cond_false (F34.get rfl) ?_)
  refine zT fun _ hK35 => ?_
  refine zA 2 [(45, .bool false), (44, .bool false)] [] dnil [] F34 fun a36 F36 => ?_
  refine hK35 _ _ (wp_cond_false (F36.get rfl) ?_)
  refine zT fun _ hK37 => ?_
  refine zA 2 [(63, .bool false), (62, .bool false)] [] dnil [] F36 fun a38 F38 => ?_
  refine hK37 _ _ (wp_cond_false (F38.get rfl) ?_)
  refine zT fun _ hK39 => ?_
  refine zA 2 [(69, .bool false), (68, .bool false)] [] dnil [] F38 fun _ F40 => ?_
  refine hK39 _ _ (wp_cond_false (F40.get rfl) ?_)
  refine zT fun _ hK41 => ?_
  refine zA 2 [(84, .bool false), (83, .bool false)] [] dnil [] F40 fun _ F42 => ?_
  refine hK41 _ _ (wp_cond_false (F42.get rfl) ?_)
  refine zT fun _ hK43 => ?_
  refine zA 2 [(90, .bool false), (89, .bool false)] [] dnil [] F42 fun a44 F44 => ?_
  refine hK43 _ _ (wp_cond_false (F44.get rfl) ?_)
  refine zS fun _ hK45 => zS fun _ hK46 => ?_
  refine zR ?_
  refine zA 2 [(101, .bool false), (100, .bool false)] [] dnil [] F44 fun a47 F47 => ?_
  refine hK46 _ _ (wp_cond_false (F47.get rfl) ?_)
  refine zR ?_
  refine zA 2 [(100, .bool false), (102, .bool false)] [] dnil [] F47 fun _ F48 => ?_
  refine hK45 _ _ (wp_cond_false (F48.get rfl) ?_)
  refine zS fun _ hK49 => zS fun _ hK50 => ?_
  refine zR ?_
  refine zA 2 [(112, .bool true), (111, .bool true)] [] dnil [] F48 fun a51 F51 => ?_
  refine hK50 _ _ (wp_cond_true (F51.get rfl) ?_)
  refine wp_skip ?_
  refine hK49 _ _ (wp_cond_true (F51.get rfl) ?_)
  refine zR ?_
  refine rm rfl F51 fun a52 F52 => ?_
  refine rm rfl F52 fun a53 F53 => ?_
  refine zd (za rfl) rfl F53 rfl rfl (zE Try.func43 rfl) #[v, .int .i64 n, .int .i64 80] (args3 (F53.get rfl) (F53.get rfl) rfl) ((zac b (v) n 80 (1 + n % 80).toNat (by omega) (by decide) (by decide) hN w29 (M29.isb (k := 0) rfl))) ?_
  rintro v54 w54 a54 h54 F54
  have M54 := M29.newO h54.2 5 h54.1
  clear M29 h54
  obtain ⟨A54, c54, rfl⟩ := (M54.isO (k := 5) rfl).shape
  refine rn rfl rfl F54 rfl (.pointer (some ⟨g8, 24, none⟩)) (y_fa (off := 24) rfl (F54.get rfl) (by kernel_rfl) rfl) fun a55 F55 => ?_
  refine zn (za rfl) rfl F55 M54 (k := 2) rfl _ _ _ rfl (F55.get rfl) (F55.get rfl) (#[.slice A54 ((zw b n (1 + n % 80).toNat)).length c54]) (msgA ⟨9, 0, 0, 0, "".toUTF8, 0, 0, [], [], [], (zw b n (1 + n % 80).toNat), []⟩ ⟨zN, zN, zN, .slice A54 ((zw b n (1 + n % 80).toNat)).length c54, zN⟩) rfl (zL rfl) (z9b (M54.isO (k := 5) rfl)) (by kernel_rfl) (by kernel_rfl) ?_
  intro w56 M56
  clear M54
  refine hK30 _ _ (zS fun _ hK57 => ?_)
  refine zR ?_
  refine rn rfl rfl F55 rfl _ (zja _ _ rfl (F55.get rfl) (M56.blk (k := 2) rfl) (msgA ⟨9, 0, 0, 0, "".toUTF8, 0, 0, [], [], [], (zw b n (1 + n % 80).toNat), []⟩ ⟨zN, zN, zN, .slice A54 ((zw b n (1 + n % 80).toNat)).length c54, zN⟩) (zma rfl) Try.underlying29 rfl (by kernel_rfl)) fun a58 F58 => ?_
  refine zn (za rfl) rfl F58 M56 (k := 1) rfl _ _ _ rfl (F58.get rfl) (F58.get rfl) (msgA ⟨9, 0, 0, 0, "".toUTF8, 0, 0, [], [], [], (zw b n (1 + n % 80).toNat), []⟩ ⟨zN, zN, zN, .slice A54 ((zw b n (1 + n % 80).toNat)).length c54, zN⟩) _ rfl (zL rfl) (zy (w := w56) ⟨(zc _), (zc _), (zc _), (M56.isO (k := 5) rfl), (zc _)⟩) (zt rfl) (by kernel_rfl) ?_
  intro w59 M59
  clear M56
  refine hK57 _ _ (wp_ret ?_)
  try simp only [Exit.then, Exit.inBlock, Exit.jump]
  exact bodyPost_ret (results_cell_row rfl _ _ _ _ _ (0, 0) _ (F58.get rfl) (M59.blk (k := 1) rfl) Try.underlying29 rfl (by kernel_rfl)) F58.defers ⟨_, rfl, ⟨zN, zN, zN, .slice A54 ((zw b n (1 + n % 80).toNat)).length c54, zN⟩, (by rw [(show mkM kind n s b = (⟨9, 0, 0, 0, "".toUTF8, 0, 0, [], [], [], (zw b n (1 + n % 80).toNat), []⟩ : MsgN) from by unfold mkM; simp only [hkk, ↓reduceIte, Int.reduceEq])]), (by rw [(show mkM kind n s b = (⟨9, 0, 0, 0, "".toUTF8, 0, 0, [], [], [], (zw b n (1 + n % 80).toNat), []⟩ : MsgN) from by unfold mkM; simp only [hkk, ↓reduceIte, Int.reduceEq])]; exact ⟨(zc _), (zc _), (zc _), (M59.isO (k := 5) rfl), (zc _)⟩), (fun g h => h.elim (fun h => (z6 _ h).elim) fun h => h.elim (fun h => (z6 _ h).elim) fun h => h.elim (fun h => (z6 _ h).elim) fun h => h.elim (fun h => M59.owns (k := 5) rfl g (zva h)) (fun h => (z6 _ h).elim)), M59.below⟩
 ·refine zg (args := [.int .i64 kind, .int .i64 n, .string s, v]) 132 Try.func16 rfl rfl rfl ?_
  intro fa F
  have M := Mx.start w
  replace M := M.argB 0 hv (fun g e => by cases e)
  refine zT fun _ hK1 => ?_
  refine zf (za rfl) rfl F rfl M 1 (t := 29) (c := msgA ⟨0, 0, 0, 0, "".toUTF8, 0, 0, [], [], [], [], []⟩ ⟨zN, zN, zN, zN, zN⟩) (by unfold execOp; kernel_rfl) ?_
  intro g2 a2 w2 F2 M2
  clear F M
  refine hK1 _ _ (zS fun _ hK3 => ?_)
  refine zR ?_
  refine rm rfl F2 fun _ F4 => ?_
  refine zd (za rfl) rfl F4 rfl rfl (zE Try.func22 rfl) #[.int .i64 kind, .int .i64 12] (zea (F4.get rfl) rfl) (zh ((hkk ▸ zo kind 12 (by omega) (by omega) hkd.1 hkd.2 w2))) ?_
  rintro _ w5 a5 ⟨rfl, rfl⟩ F5
  refine rn rfl rfl F5 rfl (.int .i64 10) (zz _ _ _ _ rfl rfl (F5.get rfl) rfl (by omega)) fun _ F6 => ?_
  refine rn rfl rfl F6 rfl (.agg (msgA ⟨10, 0, 0, 0, "".toUTF8, 0, 0, [], [], [], [], []⟩ ⟨zN, zN, zN, zN, zN⟩)) (by unfold execOp; simp only [List.map_toArray, List.map_cons, List.map_nil, (F6.get (t := 15) rfl)]; kernel_rfl) fun _ F7 => ?_
  refine zf (za rfl) rfl F7 rfl M2 2 (t := 29) (c := msgA ⟨0, 0, 0, 0, "".toUTF8, 0, 0, [], [], [], [], []⟩ ⟨zN, zN, zN, zN, zN⟩) (by unfold execOp; kernel_rfl) ?_
  intro g8 a8 w8 F8 M8
  clear F7 M2
  refine zn (za rfl) rfl F8 M8 (k := 2) rfl _ _ _ rfl (F8.get rfl) (F8.get rfl) (msgA ⟨10, 0, 0, 0, "".toUTF8, 0, 0, [], [], [], [], []⟩ ⟨zN, zN, zN, zN, zN⟩) _ rfl (zL rfl) (zy (w := w8) ⟨(zc _), (zc _), (zc _), (zc _), (zc _)⟩) (zt rfl) (by kernel_rfl) ?_
  intro w9 M9
  clear M8
  refine hK3 _ _ (zS fun _ hK10 => ?_)
  refine zR ?_
  refine rm rfl F8 fun _ F11 => ?_
  refine zd (za rfl) rfl F11 rfl rfl (zE Try.func22 rfl) #[.int .i64 n, .int .i64 2] (zea (F11.get rfl) rfl) (zh ((zo n 2 (by omega) (by omega) hN.1 hN.2 w9))) ?_
  rintro _ w12 a12 ⟨rfl, rfl⟩ F12
  refine rn rfl rfl F12 rfl (.int .i64 (1 + (n % 2))) (zz _ _ _ _ rfl rfl (F12.get rfl) rfl (by omega)) fun _ F13 => ?_
  refine rm rfl F13 fun _ F14 => ?_
  refine hK10 _ _ (zS fun _ hK15 => ?_)
  refine zR ?_
  refine rm rfl F14 fun _ F16 => ?_
  refine zd (za rfl) rfl F16 rfl rfl (zE Try.func22 rfl) #[.int .i64 n, .int .i64 4294967295] (zea (F16.get rfl) rfl) (zh ((zo n 4294967295 (by omega) (by omega) hN.1 hN.2 w9))) ?_
  rintro _ w17 a17 ⟨rfl, rfl⟩ F17
  refine rn rfl rfl F17 rfl (.int .i64 (1 + (n % 4294967295))) (zz _ _ _ _ rfl rfl (F17.get rfl) rfl (by omega)) fun _ F18 => ?_
  refine zd (za rfl) rfl F18 rfl rfl (zE Try.func24 rfl) #[.int .i64 (1 + (n % 4294967295))] (zp (F18.get rfl)) (zh ((zra (1 + (n % 4294967295)) (by omega) (by omega) w9))) ?_
  rintro _ w19 a19 ⟨rfl, b19⟩ F19
  have M19 := M9.step b19
  refine zf (za rfl) rfl F19 rfl M19 3 (t := 27) (c := numA 0) (zda rfl) ?_
  intro g20 a20 w20 F20 M20
  clear F19 M19
  refine zn (za rfl) rfl F20 M20 (k := 3) rfl _ _ _ rfl (F20.get rfl) (F20.get rfl) (numA ((1 + (n % 4294967295)).toNat)) _ rfl (zL rfl) (zaa _) (zt rfl) z7 ?_
  intro w21 M21
  clear M20
  refine hK15 _ _ (zS fun _ hK22 => ?_)
  refine zR ?_
  refine rm rfl F20 fun _ F23 => ?_
  refine rn rfl rfl F23 rfl (.int .i64 (n.tdiv 3)) (y_quoT _ _ _ _ rfl (F23.get rfl) rfl hN (by decide) rfl) fun _ F24 => ?_
  refine zd (za rfl) rfl F24 rfl rfl (zE Try.func22 rfl) #[.int .i64 (n.tdiv 3), .int .i64 70000] (zea (F24.get rfl) rfl) (zh ((zo (n.tdiv 3) 70000 (by omega) (by omega) (zsa hN (show (0 : Int) < 3 by decide)).1 (Int.lt_of_le_of_lt (zsa hN (show (0 : Int) < 3 by decide)).2 (by decide)) w21))) ?_
  rintro _ w25 a25 ⟨rfl, rfl⟩ F25
  refine rn rfl rfl F25 rfl (.int .i64 (1 + ((n.tdiv 3) % 70000))) (zz _ _ _ _ rfl rfl (F25.get rfl) rfl (by omega)) fun _ F26 => ?_
  refine zd (za rfl) rfl F26 rfl rfl (zE Try.func24 rfl) #[.int .i64 (1 + ((n.tdiv 3) % 70000))] (zp (F26.get rfl)) (zh ((zra (1 + ((n.tdiv 3) % 70000)) (by omega) (by omega) w21))) ?_
  rintro _ w27 a27 ⟨rfl, b27⟩ F27
  have M27 := M21.step b27
  refine zf (za rfl) rfl F27 rfl M27 4 (t := 27) (c := numA 0) (zda rfl) ?_
  intro g28 a28 w28 F28 M28
  clear F27 M27
  refine zn (za rfl) rfl F28 M28 (k := 4) rfl _ _ _ rfl (F28.get rfl) (F28.get rfl) (numA ((1 + ((n.tdiv 3) % 70000)).toNat)) _ rfl (zL rfl) (zaa _) (zt rfl) z7 ?_
  intro w29 M29
  clear M28
  refine hK22 _ _ (zS fun _ hK30 => ?_)
  refine zT fun _ hK31 => ?_
  refine zA 2 [(29, .pointer (some ⟨g8, 0, none⟩)), (30, .int .i64 10)] [0] (zj (M29.blk (k := 2) rfl) dnil) [g8] F28 fun _ F32 => ?_
  refine hK31 _ _ (wp_block ?_)
  refine zT fun _ hK33 => ?_
  refine zA 2 [(32, .bool false), (31, .bool false)] [] dnil [] F32 fun _ F34 => ?_
  refine hK33 _ _ (wp_cond_false (F34.get rfl) ?_)
  refine zT fun _ hK35 => ?_
  refine zA 2 [(45, .bool false), (44, .bool false)] [] dnil [] F34 fun a36 F36 => ?_
  refine hK35 _ _ (wp_cond_false (F36.get rfl) ?_)
  refine zT fun _ hK37 => ?_
  refine zA 2 [(63, .bool false), (62, .bool false)] [] dnil [] F36 fun a38 F38 => ?_
  refine hK37 _ _ (wp_cond_false (F38.get rfl) ?_)
  refine zT fun _ hK39 => ?_
  refine zA 2 [(69, .bool false), (68, .bool false)] [] dnil [] F38 fun _ F40 => ?_
  refine hK39 _ _ (wp_cond_false (F40.get rfl) ?_)
  refine zT fun _ hK41 => ?_
  refine zA 2 [(84, .bool false), (83, .bool false)] [] dnil [] F40 fun _ F42 => ?_
  refine hK41 _ _ (wp_cond_false (F42.get rfl) ?_)
  refine zT fun _ hK43 => ?_
  refine zA 2 [(90, .bool false), (89, .bool false)] [] dnil [] F42 fun a44 F44 => ?_
  refine hK43 _ _ (wp_cond_false (F44.get rfl) ?_)
  refine zS fun _ hK45 => zS fun _ hK46 => ?_
  refine zR ?_
  refine zA 2 [(101, .bool false), (100, .bool false)] [] dnil [] F44 fun a47 F47 => ?_
  refine hK46 _ _ (wp_cond_false (F47.get rfl) ?_)
  refine zR ?_
  refine zA 2 [(100, .bool false), (102, .bool false)] [] dnil [] F47 fun _ F48 => ?_
  refine hK45 _ _ (wp_cond_false (F48.get rfl) ?_)
  refine zS fun _ hK49 => zS fun _ hK50 => ?_
  refine zR ?_
  refine zA 2 [(112, .bool false), (111, .bool false)] [] dnil [] F48 fun a51 F51 => ?_
  refine hK50 _ _ (wp_cond_false (F51.get rfl) ?_)
  refine zR ?_
  refine zA 2 [(111, .bool true), (113, .bool true)] [] dnil [] F51 fun a52 F52 => ?_
  refine hK49 _ _ (wp_cond_true (F52.get rfl) ?_)
  refine zR ?_
  refine rm rfl F52 fun a53 F53 => ?_
  refine rm rfl F53 fun a54 F54 => ?_
  refine zd (za rfl) rfl F54 rfl rfl (zE Try.func43 rfl) #[v, .int .i64 n, .int .i64 80] (args3 (F54.get rfl) (F54.get rfl) rfl) ((zac b (v) n 80 (1 + n % 80).toNat (by omega) (by decide) (by decide) hN w29 (M29.isb (k := 0) rfl))) ?_
  rintro v55 w55 a55 h55 F55
  have M55 := M29.newO h55.2 5 h55.1
  clear M29 h55
  obtain ⟨A55, c55, rfl⟩ := (M55.isO (k := 5) rfl).shape
  refine rn rfl rfl F55 rfl (.pointer (some ⟨g8, 24, none⟩)) (y_fa (off := 24) rfl (F55.get rfl) (by kernel_rfl) rfl) fun a56 F56 => ?_
  refine zn (za rfl) rfl F56 M55 (k := 2) rfl _ _ _ rfl (F56.get rfl) (F56.get rfl) (#[.slice A55 ((zw b n (1 + n % 80).toNat)).length c55]) (msgA ⟨10, 0, 0, 0, "".toUTF8, 0, 0, [], [], [], (zw b n (1 + n % 80).toNat), []⟩ ⟨zN, zN, zN, .slice A55 ((zw b n (1 + n % 80).toNat)).length c55, zN⟩) rfl (zL rfl) (z9b (M55.isO (k := 5) rfl)) (by kernel_rfl) (by kernel_rfl) ?_
  intro w57 M57
  clear M55
  refine hK30 _ _ (zS fun _ hK58 => ?_)
  refine zR ?_
  refine rn rfl rfl F56 rfl _ (zja _ _ rfl (F56.get rfl) (M57.blk (k := 2) rfl) (msgA ⟨10, 0, 0, 0, "".toUTF8, 0, 0, [], [], [], (zw b n (1 + n % 80).toNat), []⟩ ⟨zN, zN, zN, .slice A55 ((zw b n (1 + n % 80).toNat)).length c55, zN⟩) (zma rfl) Try.underlying29 rfl (by kernel_rfl)) fun _ F59 => ?_
  refine zn (za rfl) rfl F59 M57 (k := 1) rfl _ _ _ rfl (F59.get rfl) (F59.get rfl) (msgA ⟨10, 0, 0, 0, "".toUTF8, 0, 0, [], [], [], (zw b n (1 + n % 80).toNat), []⟩ ⟨zN, zN, zN, .slice A55 ((zw b n (1 + n % 80).toNat)).length c55, zN⟩) _ rfl (zL rfl) (zy (w := w57) ⟨(zc _), (zc _), (zc _), (M57.isO (k := 5) rfl), (zc _)⟩) (zt rfl) (by kernel_rfl) ?_
  intro w60 M60
  clear M57
  refine hK58 _ _ (wp_ret ?_)
  try simp only [Exit.then, Exit.inBlock, Exit.jump]
  exact bodyPost_ret (results_cell_row rfl _ _ _ _ _ (0, 0) _ (F59.get rfl) (M60.blk (k := 1) rfl) Try.underlying29 rfl (by kernel_rfl)) F59.defers ⟨_, rfl, ⟨zN, zN, zN, .slice A55 ((zw b n (1 + n % 80).toNat)).length c55, zN⟩, (by rw [(show mkM kind n s b = (⟨10, 0, 0, 0, "".toUTF8, 0, 0, [], [], [], (zw b n (1 + n % 80).toNat), []⟩ : MsgN) from by unfold mkM; simp only [hkk, ↓reduceIte, Int.reduceEq])]), (by rw [(show mkM kind n s b = (⟨10, 0, 0, 0, "".toUTF8, 0, 0, [], [], [], (zw b n (1 + n % 80).toNat), []⟩ : MsgN) from by unfold mkM; simp only [hkk, ↓reduceIte, Int.reduceEq])]; exact ⟨(zc _), (zc _), (zc _), (M60.isO (k := 5) rfl), (zc _)⟩), (fun g h => h.elim (fun h => (z6 _ h).elim) fun h => h.elim (fun h => (z6 _ h).elim) fun h => h.elim (fun h => (z6 _ h).elim) fun h => h.elim (fun h => M60.owns (k := 5) rfl g (zva h)) (fun h => (z6 _ h).elim)), M60.below⟩
 ·refine zg (args := [.int .i64 kind, .int .i64 n, .string s, v]) 132 Try.func16 rfl rfl rfl ?_
  intro fa F
  have M := Mx.start w
  replace M := M.argB 0 hv (fun g e => by cases e)
  refine zT fun _ hK1 => ?_
  refine zf (za rfl) rfl F rfl M 1 (t := 29) (c := msgA ⟨0, 0, 0, 0, "".toUTF8, 0, 0, [], [], [], [], []⟩ ⟨zN, zN, zN, zN, zN⟩) (by unfold execOp; kernel_rfl) ?_
  intro g2 a2 w2 F2 M2
  clear F M
  refine hK1 _ _ (zS fun _ hK3 => ?_)
  refine zR ?_
  refine rm rfl F2 fun _ F4 => ?_
  refine zd (za rfl) rfl F4 rfl rfl (zE Try.func22 rfl) #[.int .i64 kind, .int .i64 12] (zea (F4.get rfl) rfl) (zh ((hkk ▸ zo kind 12 (by omega) (by omega) hkd.1 hkd.2 w2))) ?_
  rintro _ w5 a5 ⟨rfl, rfl⟩ F5
  refine rn rfl rfl F5 rfl (.int .i64 11) (zz _ _ _ _ rfl rfl (F5.get rfl) rfl (by omega)) fun _ F6 => ?_
  refine rn rfl rfl F6 rfl (.agg (msgA ⟨11, 0, 0, 0, "".toUTF8, 0, 0, [], [], [], [], []⟩ ⟨zN, zN, zN, zN, zN⟩)) (by unfold execOp; simp only [List.map_toArray, List.map_cons, List.map_nil, (F6.get (t := 15) rfl)]; kernel_rfl) fun _ F7 => ?_
  refine zf (za rfl) rfl F7 rfl M2 2 (t := 29) (c := msgA ⟨0, 0, 0, 0, "".toUTF8, 0, 0, [], [], [], [], []⟩ ⟨zN, zN, zN, zN, zN⟩) (by unfold execOp; kernel_rfl) ?_
  intro g8 a8 w8 F8 M8
  clear F7 M2
  refine zn (za rfl) rfl F8 M8 (k := 2) rfl _ _ _ rfl (F8.get rfl) (F8.get rfl) (msgA ⟨11, 0, 0, 0, "".toUTF8, 0, 0, [], [], [], [], []⟩ ⟨zN, zN, zN, zN, zN⟩) _ rfl (zL rfl) (zy (w := w8) ⟨(zc _), (zc _), (zc _), (zc _), (zc _)⟩) (zt rfl) (by kernel_rfl) ?_
  intro w9 M9
  clear M8
  refine hK3 _ _ (zS fun _ hK10 => ?_)
  refine zR ?_
  refine rm rfl F8 fun _ F11 => ?_
  refine zd (za rfl) rfl F11 rfl rfl (zE Try.func22 rfl) #[.int .i64 n, .int .i64 2] (zea (F11.get rfl) rfl) (zh ((zo n 2 (by omega) (by omega) hN.1 hN.2 w9))) ?_
  rintro _ w12 a12 ⟨rfl, rfl⟩ F12
  refine rn rfl rfl F12 rfl (.int .i64 (1 + (n % 2))) (zz _ _ _ _ rfl rfl (F12.get rfl) rfl (by omega)) fun _ F13 => ?_
  refine rm rfl F13 fun _ F14 => ?_
  refine hK10 _ _ (zS fun _ hK15 => ?_)
  refine zR ?_
  refine rm rfl F14 fun _ F16 => ?_
  refine zd (za rfl) rfl F16 rfl rfl (zE Try.func22 rfl) #[.int .i64 n, .int .i64 4294967295] (zea (F16.get rfl) rfl) (zh ((zo n 4294967295 (by omega) (by omega) hN.1 hN.2 w9))) ?_
  rintro _ w17 a17 ⟨rfl, rfl⟩ F17
  refine rn rfl rfl F17 rfl (.int .i64 (1 + (n % 4294967295))) (zz _ _ _ _ rfl rfl (F17.get rfl) rfl (by omega)) fun _ F18 => ?_
  refine zd (za rfl) rfl F18 rfl rfl (zE Try.func24 rfl) #[.int .i64 (1 + (n % 4294967295))] (zp (F18.get rfl)) (zh ((zra (1 + (n % 4294967295)) (by omega) (by omega) w9))) ?_
  rintro _ w19 a19 ⟨rfl, b19⟩ F19
  have M19 := M9.step b19
  refine zf (za rfl) rfl F19 rfl M19 3 (t := 27) (c := numA 0) (zda rfl) ?_
  intro g20 a20 w20 F20 M20
  clear F19 M19
  refine zn (za rfl) rfl F20 M20 (k := 3) rfl _ _ _ rfl (F20.get rfl) (F20.get rfl) (numA ((1 + (n % 4294967295)).toNat)) _ rfl (zL rfl) (zaa _) (zt rfl) z7 ?_
  intro w21 M21
  clear M20
  refine hK15 _ _ (zS fun _ hK22 => ?_)
  refine zR ?_
  refine rm rfl F20 fun _ F23 => ?_
  refine rn rfl rfl F23 rfl (.int .i64 (n.tdiv 3)) (y_quoT _ _ _ _ rfl (F23.get rfl) rfl hN (by decide) rfl) fun _ F24 => ?_
  refine zd (za rfl) rfl F24 rfl rfl (zE Try.func22 rfl) #[.int .i64 (n.tdiv 3), .int .i64 70000] (zea (F24.get rfl) rfl) (zh ((zo (n.tdiv 3) 70000 (by omega) (by omega) (zsa hN (show (0 : Int) < 3 by decide)).1 (Int.lt_of_le_of_lt (zsa hN (show (0 : Int) < 3 by decide)).2 (by decide)) w21))) ?_
  rintro _ w25 a25 ⟨rfl, rfl⟩ F25
  refine rn rfl rfl F25 rfl (.int .i64 (1 + ((n.tdiv 3) % 70000))) (zz _ _ _ _ rfl rfl (F25.get rfl) rfl (by omega)) fun _ F26 => ?_
  refine zd (za rfl) rfl F26 rfl rfl (zE Try.func24 rfl) #[.int .i64 (1 + ((n.tdiv 3) % 70000))] (zp (F26.get rfl)) (zh ((zra (1 + ((n.tdiv 3) % 70000)) (by omega) (by omega) w21))) ?_
  rintro _ w27 a27 ⟨rfl, b27⟩ F27
  have M27 := M21.step b27
  refine zf (za rfl) rfl F27 rfl M27 4 (t := 27) (c := numA 0) (zda rfl) ?_
  intro g28 a28 w28 F28 M28
  clear F27 M27
  refine zn (za rfl) rfl F28 M28 (k := 4) rfl _ _ _ rfl (F28.get rfl) (F28.get rfl) (numA ((1 + ((n.tdiv 3) % 70000)).toNat)) _ rfl (zL rfl) (zaa _) (zt rfl) z7 ?_
  intro w29 M29
  clear M28
  refine hK22 _ _ (zS fun _ hK30 => ?_)
  refine zT fun _ hK31 => ?_
  refine zA 2 [(29, .pointer (some ⟨g8, 0, none⟩)), (30, .int .i64 11)] [0] (zj (M29.blk (k := 2) rfl) dnil) [g8] F28 fun _ F32 => ?_
  refine hK31 _ _ (wp_block ?_)
  refine zT fun _ hK33 => ?_
  refine zA 2 [(32, .bool false), (31, .bool false)] [] dnil [] F32 fun _ F34 => ?_
  refine hK33 _ _ (wp_cond_false (F34.get rfl) ?_)
  refine zT fun _ hK35 => ?_
  refine zA 2 [(45, .bool false), (44, .bool false)] [] dnil [] F34 fun a36 F36 => ?_
  refine hK35 _ _ (wp_cond_false (F36.get rfl) ?_)
  refine zT fun _ hK37 => ?_
  refine zA 2 [(63, .bool false), (62, .bool false)] [] dnil [] F36 fun a38 F38 => ?_
  refine hK37 _ _ (wp_cond_false (F38.get rfl) ?_)
  refine zT fun _ hK39 => ?_
  refine zA 2 [(69, .bool false), (68, .bool false)] [] dnil [] F38 fun _ F40 => ?_
  refine hK39 _ _ (wp_cond_false (F40.get rfl) ?_)
  refine zT fun _ hK41 => ?_
  refine zA 2 [(84, .bool false), (83, .bool false)] [] dnil [] F40 fun _ F42 => ?_
  refine hK41 _ _ (wp_cond_false (F42.get rfl) ?_)
  refine zT fun _ hK43 => ?_
  refine zA 2 [(90, .bool false), (89, .bool false)] [] dnil [] F42 fun a44 F44 => ?_
  refine hK43 _ _ (wp_cond_false (F44.get rfl) ?_)
  refine zS fun _ hK45 => zS fun _ hK46 => ?_
  refine zR ?_
  refine zA 2 [(101, .bool false), (100, .bool false)] [] dnil [] F44 fun a47 F47 => ?_
  refine hK46 _ _ (wp_cond_false (F47.get rfl) ?_)
  refine zR ?_
  refine zA 2 [(100, .bool false), (102, .bool false)] [] dnil [] F47 fun _ F48 => ?_
  refine hK45 _ _ (wp_cond_false (F48.get rfl) ?_)
  refine zS fun _ hK49 => zS fun _ hK50 => ?_
  refine zR ?_
  refine zA 2 [(112, .bool false), (111, .bool false)] [] dnil [] F48 fun a51 F51 => ?_
  refine hK50 _ _ (wp_cond_false (F51.get rfl) ?_)
  refine zR ?_
  refine zA 2 [(111, .bool false), (113, .bool false)] [] dnil [] F51 fun a52 F52 => ?_
  refine hK49 _ _ (wp_cond_false (F52.get rfl) ?_)
  refine zT fun _ hK53 => ?_
  refine zA 2 [(119, .bool true), (118, .bool true)] [] dnil [] F52 fun a54 F54 => ?_
  refine hK53 _ _ (wp_cond_true (F54.get rfl) ?_)
  refine zR ?_
  refine rm rfl F54 fun a55 F55 => ?_
  refine rm rfl F55 fun a56 F56 => ?_
  refine rm rfl F56 fun _ F57 => ?_
  refine zd (za rfl) rfl F57 rfl rfl (zE Try.func43 rfl) #[v, .int .i64 n, .int .i64 80] (args3 (F57.get rfl) (F57.get rfl) rfl) ((zac b (v) n 80 (1 + n % 80).toNat (by omega) (by decide) (by decide) hN w29 (M29.isb (k := 0) rfl))) ?_
  rintro v58 w58 a58 h58 F58
  have M58 := M29.newO h58.2 5 h58.1
  clear M29 h58
  obtain ⟨A58, c58, rfl⟩ := (M58.isO (k := 5) rfl).shape
  refine rm rfl F58 fun _ F59 => ?_
  refine rm rfl F59 fun _ F60 => ?_
  refine rn rfl rfl F60 rfl (.int .i64 (n.tdiv 5)) (y_quoT _ _ _ _ rfl (F60.get rfl) rfl hN (by decide) rfl) fun _ F61 => ?_
  refine zd (za rfl) rfl F61 rfl rfl (zE Try.func43 rfl) #[v, .int .i64 (n.tdiv 5), .int .i64 110] (args3 (F61.get rfl) (F61.get rfl) rfl) ((zac b (v) (n.tdiv 5) 110 (1 + (n.tdiv 5) % 110).toNat (by omega) (by decide) (by decide) (tdiv_bnd hN (show (0 : Int) < 5 by decide)) w58 (M58.isb (k := 0) rfl))) ?_
  rintro v62 w62 a62 h62 F62
  have M62 := M58.newO h62.2 6 h62.1
  clear M58 h62
  obtain ⟨A62, c62, rfl⟩ := (M62.isO (k := 6) rfl).shape
  refine rn rfl rfl F62 rfl (.pointer (some ⟨g8, 1, none⟩)) (y_fa (off := 1) rfl (F62.get rfl) (by kernel_rfl) rfl) fun _ F63 => ?_
  refine zn (za rfl) rfl F63 M62 (k := 2) rfl _ _ _ rfl (F63.get rfl) (F63.get rfl) (#[.int .i64 (1 + (n % 2))]) (msgA ⟨11, 1 + (n % 2), 0, 0, "".toUTF8, 0, 0, [], [], [], [], []⟩ ⟨zN, zN, zN, zN, zN⟩) rfl (zL rfl) (zeb _ _) (by kernel_rfl) (by kernel_rfl) ?_
  intro w64 M64
  clear M62
  refine rn rfl rfl F63 rfl (.pointer (some ⟨g8, 24, none⟩)) (y_fa (off := 24) rfl (F63.get rfl) (by kernel_rfl) rfl) fun _ F65 => ?_
  refine zn (za rfl) rfl F65 M64 (k := 2) rfl _ _ _ rfl (F65.get rfl) (F65.get rfl) (#[.slice A58 ((zw b n (1 + n % 80).toNat)).length c58]) (msgA ⟨11, 1 + (n % 2), 0, 0, "".toUTF8, 0, 0, [], [], [], (zw b n (1 + n % 80).toNat), []⟩ ⟨zN, zN, zN, .slice A58 ((zw b n (1 + n % 80).toNat)).length c58, zN⟩) rfl (zL rfl) (z9b (M64.isO (k := 5) rfl)) (by kernel_rfl) (by kernel_rfl) ?_
  intro w66 M66
  clear M64
  refine rn rfl rfl F65 rfl (.pointer (some ⟨g8, 25, none⟩)) (y_fa (off := 25) rfl (F65.get rfl) (by kernel_rfl) rfl) fun _ F67 => ?_
  refine zn (za rfl) rfl F67 M66 (k := 2) rfl _ _ _ rfl (F67.get rfl) (F67.get rfl) (#[.slice A62 ((zw b (n.tdiv 5) (1 + (n.tdiv 5) % 110).toNat)).length c62]) (msgA ⟨11, 1 + (n % 2), 0, 0, "".toUTF8, 0, 0, [], [], [], (zw b n (1 + n % 80).toNat), (zw b (n.tdiv 5) (1 + (n.tdiv 5) % 110).toNat)⟩ ⟨zN, zN, zN, .slice A58 ((zw b n (1 + n % 80).toNat)).length c58, .slice A62 ((zw b (n.tdiv 5) (1 + (n.tdiv 5) % 110).toNat)).length c62⟩) rfl (zL rfl) (z9b (M66.isO (k := 6) rfl)) (by kernel_rfl) (by kernel_rfl) ?_
  intro w68 M68
  clear M66
  refine hK30 _ _ (zS fun _ hK69 => ?_)
  refine zR ?_
  refine rn rfl rfl F67 rfl _ (zja _ _ rfl (F67.get rfl) (M68.blk (k := 2) rfl) (msgA ⟨11, 1 + (n % 2), 0, 0, "".toUTF8, 0, 0, [], [], [], (zw b n (1 + n % 80).toNat), (zw b (n.tdiv 5) (1 + (n.tdiv 5) % 110).toNat)⟩ ⟨zN, zN, zN, .slice A58 ((zw b n (1 + n % 80).toNat)).length c58, .slice A62 ((zw b (n.tdiv 5) (1 + (n.tdiv 5) % 110).toNat)).length c62⟩) (zma rfl) Try.underlying29 rfl (by kernel_rfl)) fun _ F70 => ?_
  refine zn (za rfl) rfl F70 M68 (k := 1) rfl _ _ _ rfl (F70.get rfl) (F70.get rfl) (msgA ⟨11, 1 + (n % 2), 0, 0, "".toUTF8, 0, 0, [], [], [], (zw b n (1 + n % 80).toNat), (zw b (n.tdiv 5) (1 + (n.tdiv 5) % 110).toNat)⟩ ⟨zN, zN, zN, .slice A58 ((zw b n (1 + n % 80).toNat)).length c58, .slice A62 ((zw b (n.tdiv 5) (1 + (n.tdiv 5) % 110).toNat)).length c62⟩) _ rfl (zL rfl) (zy (w := w68) ⟨(zc _), (zc _), (zc _), (M68.isO (k := 5) rfl), (M68.isO (k := 6) rfl)⟩) (zt rfl) (by kernel_rfl) ?_
  intro w71 M71
  clear M68
  refine hK69 _ _ (wp_ret ?_)
  try simp only [Exit.then, Exit.inBlock, Exit.jump]
  exact bodyPost_ret (results_cell_row rfl _ _ _ _ _ (0, 0) _ (F70.get rfl) (M71.blk (k := 1) rfl) Try.underlying29 rfl (by kernel_rfl)) F70.defers ⟨_, rfl, ⟨zN, zN, zN, .slice A58 ((zw b n (1 + n % 80).toNat)).length c58, .slice A62 ((zw b (n.tdiv 5) (1 + (n.tdiv 5) % 110).toNat)).length c62⟩, (by rw [(show mkM kind n s b = (⟨11, 1 + (n % 2), 0, 0, "".toUTF8, 0, 0, [], [], [], (zw b n (1 + n % 80).toNat), (zw b (n.tdiv 5) (1 + (n.tdiv 5) % 110).toNat)⟩ : MsgN) from by unfold mkM; simp only [hkk, ↓reduceIte, Int.reduceEq])]), (by rw [(show mkM kind n s b = (⟨11, 1 + (n % 2), 0, 0, "".toUTF8, 0, 0, [], [], [], (zw b n (1 + n % 80).toNat), (zw b (n.tdiv 5) (1 + (n.tdiv 5) % 110).toNat)⟩ : MsgN) from by unfold mkM; simp only [hkk, ↓reduceIte, Int.reduceEq])]; exact ⟨(zc _), (zc _), (zc _), (M71.isO (k := 5) rfl), (M71.isO (k := 6) rfl)⟩), (fun g h => h.elim (fun h => (z6 _ h).elim) fun h => h.elim (fun h => (z6 _ h).elim) fun h => h.elim (fun h => (z6 _ h).elim) fun h => h.elim (fun h => M71.owns (k := 5) rfl g (zva h)) (fun h => M71.owns (k := 6) rfl g (zva h))), M71.below⟩
 refine zg (args := [.int .i64 kind, .int .i64 n, .string s, v]) 132 Try.func16 rfl rfl rfl ?_
 intro fa F
 have M := Mx.start w
 replace M := M.argB 0 hv (fun g e => by cases e)
 refine zT fun _ hK1 => ?_
 refine zf (za rfl) rfl F rfl M 1 (t := 29) (c := msgA ⟨0, 0, 0, 0, "".toUTF8, 0, 0, [], [], [], [], []⟩ ⟨zN, zN, zN, zN, zN⟩) (by unfold execOp; kernel_rfl) ?_
 intro g2 a2 w2 F2 M2
 clear F M
 refine hK1 _ _ (zS fun _ hK3 => ?_)
 refine zR ?_
 refine rm rfl F2 fun _ F4 => ?_
 refine zd (za rfl) rfl F4 rfl rfl (zE Try.func22 rfl) #[.int .i64 kind, .int .i64 12] (zea (F4.get rfl) rfl) (zh ((hkk ▸ zo kind 12 (by omega) (by omega) hkd.1 hkd.2 w2))) ?_
 rintro _ w5 a5 ⟨rfl, rfl⟩ F5
 refine rn rfl rfl F5 rfl (.int .i64 12) (zz _ _ _ _ rfl rfl (F5.get rfl) rfl (by omega)) fun _ F6 => ?_
 refine rn rfl rfl F6 rfl (.agg (msgA ⟨12, 0, 0, 0, "".toUTF8, 0, 0, [], [], [], [], []⟩ ⟨zN, zN, zN, zN, zN⟩)) (by unfold execOp; simp only [List.map_toArray, List.map_cons, List.map_nil, (F6.get (t := 15) rfl)]; kernel_rfl) fun _ F7 => ?_
 refine zf (za rfl) rfl F7 rfl M2 2 (t := 29) (c := msgA ⟨0, 0, 0, 0, "".toUTF8, 0, 0, [], [], [], [], []⟩ ⟨zN, zN, zN, zN, zN⟩) (by unfold execOp; kernel_rfl) ?_
 intro g8 a8 w8 F8 M8
 clear F7 M2
 refine zn (za rfl) rfl F8 M8 (k := 2) rfl _ _ _ rfl (F8.get rfl) (F8.get rfl) (msgA ⟨12, 0, 0, 0, "".toUTF8, 0, 0, [], [], [], [], []⟩ ⟨zN, zN, zN, zN, zN⟩) _ rfl (zL rfl) (zy (w := w8) ⟨(zc _), (zc _), (zc _), (zc _), (zc _)⟩) (zt rfl) (by kernel_rfl) ?_
 intro w9 M9
 clear M8
 refine hK3 _ _ (zS fun _ hK10 => ?_)
 refine zR ?_
 refine rm rfl F8 fun _ F11 => ?_
 refine zd (za rfl) rfl F11 rfl rfl (zE Try.func22 rfl) #[.int .i64 n, .int .i64 2] (zea (F11.get rfl) rfl) (zh ((zo n 2 (by omega) (by omega) hN.1 hN.2 w9))) ?_
 rintro _ w12 a12 ⟨rfl, rfl⟩ F12
 refine rn rfl rfl F12 rfl (.int .i64 (1 + (n % 2))) (zz _ _ _ _ rfl rfl (F12.get rfl) rfl (by omega)) fun _ F13 => ?_
 refine rm rfl F13 fun _ F14 => ?_
 refine hK10 _ _ (zS fun _ hK15 => ?_)
 refine zR ?_
 refine rm rfl F14 fun _ F16 => ?_
 refine zd (za rfl) rfl F16 rfl rfl (zE Try.func22 rfl) #[.int .i64 n, .int .i64 4294967295] (zea (F16.get rfl) rfl) (zh ((zo n 4294967295 (by omega) (by omega) hN.1 hN.2 w9))) ?_
 rintro _ w17 a17 ⟨rfl, rfl⟩ F17
 refine rn rfl rfl F17 rfl (.int .i64 (1 + (n % 4294967295))) (zz _ _ _ _ rfl rfl (F17.get rfl) rfl (by omega)) fun _ F18 => ?_
 refine zd (za rfl) rfl F18 rfl rfl (zE Try.func24 rfl) #[.int .i64 (1 + (n % 4294967295))] (zp (F18.get rfl)) (zh ((zra (1 + (n % 4294967295)) (by omega) (by omega) w9))) ?_
 rintro _ w19 a19 ⟨rfl, b19⟩ F19
 have M19 := M9.step b19
 refine zf (za rfl) rfl F19 rfl M19 3 (t := 27) (c := numA 0) (zda rfl) ?_
 intro g20 a20 w20 F20 M20
 clear F19 M19
 refine zn (za rfl) rfl F20 M20 (k := 3) rfl _ _ _ rfl (F20.get rfl) (F20.get rfl) (numA ((1 + (n % 4294967295)).toNat)) _ rfl (zL rfl) (zaa _) (zt rfl) z7 ?_
 intro w21 M21
 clear M20
 refine hK15 _ _ (zS fun _ hK22 => ?_)
 refine zR ?_
 refine rm rfl F20 fun _ F23 => ?_
 refine rn rfl rfl F23 rfl (.int .i64 (n.tdiv 3)) (y_quoT _ _ _ _ rfl (F23.get rfl) rfl hN (by decide) rfl) fun _ F24 => ?_
 refine zd (za rfl) rfl F24 rfl rfl (zE Try.func22 rfl) #[.int .i64 (n.tdiv 3), .int .i64 70000] (zea (F24.get rfl) rfl) (zh ((zo (n.tdiv 3) 70000 (by omega) (by omega) (zsa hN (show (0 : Int) < 3 by decide)).1 (Int.lt_of_le_of_lt (zsa hN (show (0 : Int) < 3 by decide)).2 (by decide)) w21))) ?_
 rintro _ w25 a25 ⟨rfl, rfl⟩ F25
 refine rn rfl rfl F25 rfl (.int .i64 (1 + ((n.tdiv 3) % 70000))) (zz _ _ _ _ rfl rfl (F25.get rfl) rfl (by omega)) fun _ F26 => ?_
 refine zd (za rfl) rfl F26 rfl rfl (zE Try.func24 rfl) #[.int .i64 (1 + ((n.tdiv 3) % 70000))] (zp (F26.get rfl)) (zh ((zra (1 + ((n.tdiv 3) % 70000)) (by omega) (by omega) w21))) ?_
 rintro _ w27 a27 ⟨rfl, b27⟩ F27
 have M27 := M21.step b27
 refine zf (za rfl) rfl F27 rfl M27 4 (t := 27) (c := numA 0) (zda rfl) ?_
 intro g28 a28 w28 F28 M28
 clear F27 M27
 refine zn (za rfl) rfl F28 M28 (k := 4) rfl _ _ _ rfl (F28.get rfl) (F28.get rfl) (numA ((1 + ((n.tdiv 3) % 70000)).toNat)) _ rfl (zL rfl) (zaa _) (zt rfl) z7 ?_
 intro w29 M29
 clear M28
 refine hK22 _ _ (zS fun _ hK30 => ?_)
 refine zT fun _ hK31 => ?_
 refine zA 2 [(29, .pointer (some ⟨g8, 0, none⟩)), (30, .int .i64 12)] [0] (zj (M29.blk (k := 2) rfl) dnil) [g8] F28 fun _ F32 => ?_
 refine hK31 _ _ (wp_block ?_)
 refine zT fun _ hK33 => ?_
 refine zA 2 [(32, .bool false), (31, .bool false)] [] dnil [] F32 fun _ F34 => ?_
 refine hK33 _ _ (wp_cond_false (F34.get rfl) ?_)
 refine zT fun _ hK35 => ?_
 refine zA 2 [(45, .bool false), (44, .bool false)] [] dnil [] F34 fun a36 F36 => ?_
 refine hK35 _ _ (wp_cond_false (F36.get rfl) ?_)
 refine zT fun _ hK37 => ?_
 refine zA 2 [(63, .bool false), (62, .bool false)] [] dnil [] F36 fun a38 F38 => ?_
 refine hK37 _ _ (wp_cond_false (F38.get rfl) ?_)
 refine zT fun _ hK39 => ?_
 refine zA 2 [(69, .bool false), (68, .bool false)] [] dnil [] F38 fun _ F40 => ?_
 refine hK39 _ _ (wp_cond_false (F40.get rfl) ?_)
 refine zT fun _ hK41 => ?_
 refine zA 2 [(84, .bool false), (83, .bool false)] [] dnil [] F40 fun _ F42 => ?_
 refine hK41 _ _ (wp_cond_false (F42.get rfl) ?_)
 refine zT fun _ hK43 => ?_
 refine zA 2 [(90, .bool false), (89, .bool false)] [] dnil [] F42 fun a44 F44 => ?_
 refine hK43 _ _ (wp_cond_false (F44.get rfl) ?_)
 refine zS fun _ hK45 => zS fun _ hK46 => ?_
 refine zR ?_
 refine zA 2 [(101, .bool false), (100, .bool false)] [] dnil [] F44 fun a47 F47 => ?_
 refine hK46 _ _ (wp_cond_false (F47.get rfl) ?_)
 refine zR ?_
 refine zA 2 [(100, .bool true), (102, .bool true)] [] dnil [] F47 fun _ F48 => ?_
 refine hK45 _ _ (wp_cond_true (F48.get rfl) ?_)
 refine zR ?_
 refine rm rfl F48 fun _ F49 => ?_
 refine rm rfl F49 fun a50 F50 => ?_
 refine zd (za rfl) rfl F50 rfl rfl (zE Try.func43 rfl) #[v, .int .i64 n, .int .i64 80] (args3 (F50.get rfl) (F50.get rfl) rfl) ((zac b (v) n 80 (1 + n % 80).toNat (by omega) (by decide) (by decide) hN w29 (M29.isb (k := 0) rfl))) ?_
 rintro v51 w51 a51 h51 F51
 have M51 := M29.newO h51.2 5 h51.1
 clear M29 h51
 obtain ⟨A51, c51, rfl⟩ := (M51.isO (k := 5) rfl).shape
 refine rm rfl F51 fun a52 F52 => ?_
 refine zd (za rfl) rfl F52 rfl rfl (zE Try.func22 rfl) #[.int .i64 n, .int .i64 1099511627776] (zea (F52.get rfl) rfl) (zh ((zo n 1099511627776 (by omega) (by omega) hN.1 hN.2 w51))) ?_
 rintro _ w53 a53 ⟨rfl, rfl⟩ F53
 refine rn rfl rfl F53 rfl (.int .i64 (1 + (n % 1099511627776))) (zz _ _ _ _ rfl rfl (F53.get rfl) rfl (by omega)) fun a54 F54 => ?_
 refine rn rfl rfl F54 rfl (.pointer (some ⟨g8, 24, none⟩)) (y_fa (off := 24) rfl (F54.get rfl) (by kernel_rfl) rfl) fun a55 F55 => ?_
 refine zn (za rfl) rfl F55 M51 (k := 2) rfl _ _ _ rfl (F55.get rfl) (F55.get rfl) (#[.slice A51 ((zw b n (1 + n % 80).toNat)).length c51]) (msgA ⟨12, 0, 0, 0, "".toUTF8, 0, 0, [], [], [], (zw b n (1 + n % 80).toNat), []⟩ ⟨zN, zN, zN, .slice A51 ((zw b n (1 + n % 80).toNat)).length c51, zN⟩) rfl (zL rfl) (z9b (M51.isO (k := 5) rfl)) (by kernel_rfl) (by kernel_rfl) ?_
 intro w56 M56
 clear M51
 refine rn rfl rfl F55 rfl (.pointer (some ⟨g8, 2, none⟩)) (y_fa (off := 2) rfl (F55.get rfl) (by kernel_rfl) rfl) fun _ F57 => ?_
 refine zn (za rfl) rfl F57 M56 (k := 2) rfl _ _ _ rfl (F57.get rfl) (F57.get rfl) (#[.int .i64 (1 + (n % 1099511627776))]) (msgA ⟨12, 0, 1 + (n % 1099511627776), 0, "".toUTF8, 0, 0, [], [], [], (zw b n (1 + n % 80).toNat), []⟩ ⟨zN, zN, zN, .slice A51 ((zw b n (1 + n % 80).toNat)).length c51, zN⟩) rfl (zL rfl) (zeb _ _) (by kernel_rfl) (by kernel_rfl) ?_
 intro w58 M58
 clear M56
 refine hK30 _ _ (zS fun _ hK59 => ?_)
 refine zR ?_
 refine rn rfl rfl F57 rfl _ (zja _ _ rfl (F57.get rfl) (M58.blk (k := 2) rfl) (msgA ⟨12, 0, 1 + (n % 1099511627776), 0, "".toUTF8, 0, 0, [], [], [], (zw b n (1 + n % 80).toNat), []⟩ ⟨zN, zN, zN, .slice A51 ((zw b n (1 + n % 80).toNat)).length c51, zN⟩) (zma rfl) Try.underlying29 rfl (by kernel_rfl)) fun _ F60 => ?_
 refine zn (za rfl) rfl F60 M58 (k := 1) rfl _ _ _ rfl (F60.get rfl) (F60.get rfl) (msgA ⟨12, 0, 1 + (n % 1099511627776), 0, "".toUTF8, 0, 0, [], [], [], (zw b n (1 + n % 80).toNat), []⟩ ⟨zN, zN, zN, .slice A51 ((zw b n (1 + n % 80).toNat)).length c51, zN⟩) _ rfl (zL rfl) (zy (w := w58) ⟨(zc _), (zc _), (zc _), (M58.isO (k := 5) rfl), (zc _)⟩) (zt rfl) (by kernel_rfl) ?_
 intro w61 M61
 clear M58
 refine hK59 _ _ (wp_ret ?_)
 try simp only [Exit.then, Exit.inBlock, Exit.jump]
 exact bodyPost_ret (results_cell_row rfl _ _ _ _ _ (0, 0) _ (F60.get rfl) (M61.blk (k := 1) rfl) Try.underlying29 rfl (by kernel_rfl)) F60.defers ⟨_, rfl, ⟨zN, zN, zN, .slice A51 ((zw b n (1 + n % 80).toNat)).length c51, zN⟩, (by rw [(show mkM kind n s b = (⟨12, 0, 1 + (n % 1099511627776), 0, "".toUTF8, 0, 0, [], [], [], (zw b n (1 + n % 80).toNat), []⟩ : MsgN) from by unfold mkM; simp only [hkk, ↓reduceIte, Int.reduceEq])]), (by rw [(show mkM kind n s b = (⟨12, 0, 1 + (n % 1099511627776), 0, "".toUTF8, 0, 0, [], [], [], (zw b n (1 + n % 80).toNat), []⟩ : MsgN) from by unfold mkM; simp only [hkk, ↓reduceIte, Int.reduceEq])]; exact ⟨(zc _), (zc _), (zc _), (M61.isO (k := 5) rfl), (zc _)⟩), (fun g h => h.elim (fun h => (z6 _ h).elim) fun h => h.elim (fun h => (z6 _ h).elim) fun h => h.elim (fun h => (z6 _ h).elim) fun h => h.elim (fun h => M61.owns (k := 5) rfl g (zva h)) (fun h => (z6 _ h).elim)), M61.below⟩
end Go.Proofs.Ytlbkogdmojlpmaa
