/- What WireRight stands on, part 12. -/
import Derived.Test.YtlbkogdmojlpmaaWireRightP1
import Derived.Test.YtlbkogdmojlpmaaWireRightP2
import Derived.Test.YtlbkogdmojlpmaaWireRightP3
import Derived.Test.YtlbkogdmojlpmaaWireRightP4
import Derived.Test.YtlbkogdmojlpmaaWireRightP5
import Derived.Test.YtlbkogdmojlpmaaWireRightP6
import Derived.Test.YtlbkogdmojlpmaaWireRightP7
import Derived.Test.YtlbkogdmojlpmaaWireRightP8
import Derived.Test.YtlbkogdmojlpmaaWireRightP9
import Derived.Test.YtlbkogdmojlpmaaWireRightP10
import Derived.Test.YtlbkogdmojlpmaaWireRightP11
set_option maxRecDepth 100000
set_option maxHeartbeats 8000000
set_option linter.unusedVariables false
set_option linter.unusedSimpArgs false
namespace Go.Proofs.Ytlbkogdmojlpmaa
open Go.ChangeShapes Go.WideShapes Go.ChangeAt Go.RowKit
theorem enc_is (m : MsgN) (V : MsgV) (ho : MsgOk m) (hs : m.s.size ≤ 1000) (ok : Bool) (l : List UInt8) (h1 : z8a m = ok) (h2 : encL m = l) (w : World) (hm : MsgIs w m V) : Calls Try.prog 17 #[.agg (msgA m V)] w fun e w' => ∃ t, e = .returned t ∧ ∃ v, t = .tuple #[v, .bool ok] ∧ Byt w' w.heap.size v l ∧ Below w.heap.size w w' := by
  subst h1 h2; exact encode_ex m V ho hs w hm
theorem renc_is (m : MsgN) (V : MsgV) (ho : MsgOk m) (hs : m.s.size ≤ 1000) (ok : Bool) (l : List UInt8) (h1 : z8a m = ok) (h2 : encL m = l) (w : World) (hm : MsgIs w m V) : Calls Try.prog 18 #[.agg (msgA m V)] w fun e w' => ∃ t, e = .returned t ∧ ∃ v, t = .tuple #[v, .bool ok] ∧ Byt w' w.heap.size v l ∧ Below w.heap.size w w' := by
  subst h1 h2; exact rencode_ex m V ho hs w hm
theorem right_is (m : MsgN) (V : MsgV) (ho : MsgOk m) (hs : m.s.size ≤ 1000) (ok : Bool) (h1 : zta m = ok) (w : World) (hm : MsgIs w m V) : Calls Try.prog 19 #[.agg (msgA m V)] w fun e w' => e = .returned (.bool ok) ∧ Below w.heap.size w w' := by
  subst h1; exact right_any m V ho hs w hm
theorem rright_is (m : MsgN) (V : MsgV) (ho : MsgOk m) (hs : m.s.size ≤ 1000) (ok : Bool) (h1 : zta m = ok) (w : World) (hm : MsgIs w m V) : Calls Try.prog 25 #[.agg (msgA m V)] w fun e w' => e = .returned (.bool ok) ∧ Below w.heap.size w w' := by
  subst h1; exact rright_any m V ho hs w hm
theorem rec_is (r : RecN) (V : RecV) (ho : RecOk r) (ok : Bool) (l : List UInt8) (h1 : z7a r = ok) (h2 : recE r = l) (w : World) (hm : RecIs w r V) : Calls Try.prog 35 #[.agg (recA r V)] w fun e w' => ∃ t, e = .returned t ∧ ∃ v, t = .tuple #[v, .bool ok] ∧ Byt w' w.heap.size v l ∧ Below w.heap.size w w' := by
  subst h1 h2; exact record_ex r V ho w hm
theorem rd_is (b : List UInt8) (bv : Value) (hl : b.length ≤ 100000) (ok : Bool) (r : RecN) (h1 : rdOk b = ok) (h2 : rdR b = r) (w : World) (hb : IsB w b bv) : Calls Try.prog 37 #[bv] w fun e w' => ∃ t, e = .returned t ∧ ∃ V, t = .tuple #[.agg (recA r V), .bool ok] ∧ RecIs w' r V ∧ (∀ q, bfp V.v2 q ∨ bfp V.v5 q → w.heap.size ≤ q) ∧ Below w.heap.size w w' := by
  subst h1 h2; exact (readrec_any b bv hl w hb).mono fun e w' ⟨V, k1, k2, k3, k4⟩ => ⟨_, k1, V, rfl, k2, k3, k4⟩
theorem make_is (kind n : Int) (s : ByteArray) (b : List UInt8) (v : Value) (hkd : -9223372036854775808 ≤ kind ∧ kind < 9223372036854775808) (hN : -9223372036854775808 ≤ n ∧ n < 9223372036854775808) (hs : s.size ≤ 40) (m : MsgN) (hm : mkM kind n s b = m) (w : World) (hv : IsB w b v) : Calls Try.prog 16 #[.int .i64 kind, .int .i64 n, .string s, v] w fun e w' => ∃ t, e = .returned t ∧ ∃ V, t = .agg (msgA m V) ∧ MsgIs w' m V ∧ (∀ g, z5a V g → w.heap.size ≤ g) ∧ Below w.heap.size w w' := by
  subst hm; exact make_msg kind n s b v hkd hN hs w hv
section
variable {G : Option Nat} {w0 w : World} {R : List (Nat × Res)}
theorem Mx.nilT (M : Mx G w0 w R) (i : Nat) : Mx G w0 w ((i, tlR [] (zN)) :: R) :=
  M.cons i _ (show Tl w (zN) [] from .inl ⟨rfl, rfl⟩) tlR_dep (fun g hg => by cases hg) (fun _ g hg => by cases hg) fun _ _ _ _ _ g hg => by cases hg
theorem Mx.newRec {w' : World} (M : Mx G w0 w R) (h : Below w.heap.size w w') {r : RecN} {V : RecV} (hm : RecIs w' r V) (hlo : ∀ q, bfp V.v2 q ∨ bfp V.v5 q → w.heap.size ≤ q) (a b : Nat) : Mx G w0 w' ((b, bytR r.l5 V.v5) :: (a, bytR r.l2 V.v2) :: R) := by
  obtain ⟨M1, n1⟩ := (M.step h).roB2 (N := w.heap.size) (fun k s e _ g hg => M.lt k s e g hg) a hm.h2 (fun g hg => hlo g (.inl hg))
  exact (M1.roB2 n1 b hm.h5 (fun g hg => hlo g (.inr hg))).1
theorem next_is (M0 : Mx G w0 w R) (k q g : Nat) (l : List UInt8) (u : Value) (n : Int) (b : Bool) (hk : look R k = some (blkR g 94 #[u, .int .i64 n, .bool b])) (hq : look R q = some (tlR l u)) (hne : k ≠ q) (hl : l.length ≤ 1000000) (k5 k6 k7 k8 k9 : Nat) (m : MsgN) (ok bad : Bool) (l2 : List UInt8) (h1 : nxM l = m) (h2 : nxOk l = ok) (h3 : (b || nxBad l) = bad) (h4 : nxL l = l2) :
    Calls Try.prog 30 #[.pointer (some ⟨g, 0, none⟩)] w fun e w' => ∃ t, e = .returned t ∧ ∃ u' V, Mx G w0 w' ((k9, bytR m.l9 V.v9) :: (k8, bytR m.l8 V.v8) :: (k7, bytR m.l7 V.v7) :: (k6, bytR m.l6 V.v6) :: (k5, bytR m.l5 V.v5) :: (k, blkR g 94 #[u', .int .i64 n, .bool bad]) :: (q, tlR l2 u') :: R) ∧ t = .tuple #[.agg (msgA m V), .bool ok] := by
  subst h1 h2 h3 h4; exact next_any M0 k q g l u n b hk hq hne hl k5 k6 k7 k8 k9
end
end Go.Proofs.Ytlbkogdmojlpmaa
namespace Go.Proofs.Ytlbkogdmojlpmaa
open Go.ChangeShapes Go.WideShapes Go.ChangeAt Go.RowKit
def m7 : MsgN := ⟨7, 0, 0, 0, "".toUTF8, 0, 0, [], [], [], [], []⟩
def rA : RecN := ⟨1, ⟨#[97]⟩, [], 0, 0, [], 0, 0, 0⟩
theorem m7_ok : MsgOk m7 := ⟨by decide, by decide, by decide, by decide, by decide, by decide, by decide⟩
theorem rA_ok : RecOk rA := ⟨by decide, by decide, by decide, by decide, by decide, by decide, by decide⟩
theorem m7_right : zta m7 = true := by
  unfold zta
  rw [show wantOk m7.k m7.p = true from rfl, show decide (hasB m7 = wantN m7.k m7.p) = true from by decide]
  unfold z6
  rw [show nilB m7.s = true from decide_eq_true rfl, show topI m7.a 8 = 0 from topI_none 8, show topI m7.b 8 = 0 from topI_none 8]
  simp [m7]
theorem enc7 : z8a m7 = true ∧ encL m7 = [0, 1, 7] := by
  have h : z8a m7 = true := by
    unfold z8a
    rw [m7_right]
    decide
  exact ⟨h, by rw [encL_ok h]; decide⟩
theorem rA_name : NameOk rA.s := by
  refine ⟨by decide, by decide, fun i h => ?_⟩
  have : i = 0 := by have h1 : rA.s.size = 1 := rfl; omega
  subst this
  exact (show (33 : Int) ≤ ((97 : UInt8).toNat : Int) ∧ ((97 : UInt8).toNat : Int) ≤ 126 by decide)
theorem rA_keep : z7a rA = true := by
  unfold z7a
  rw [show nameB rA.s = true from @decide_eq_true _ (Classical.propDecidable _) rA_name, show topI rA.a 8 = 0 from topI_none 8, show topI rA.b 8 = 0 from topI_none 8]
  decide
theorem known_1 : wrN true 0 (([0, 1, 7] : List UInt8).take 1) = 1 ∧ nxM (([0, 1, 7] : List UInt8).take 1) = mZero ∧ nxOk (([0, 1, 7] : List UInt8).take 1) = false ∧ (false || nxBad (([0, 1, 7] : List UInt8).take 1)) = false ∧ nxL (([0, 1, 7] : List UInt8).take 1) = ([0, 1, 7] : List UInt8).take 1 := by
  obtain ⟨h1, h2⟩ := nx_short (l := ([0, 1, 7] : List UInt8).take 1) (by decide)
  refine ⟨rfl, by rw [nxM, h1]; rfl, h1, by rw [h2]; rfl, by rw [nxL, h1, h2]; rfl⟩
theorem known_2 : wrL true (([0, 1, 7] : List UInt8).take 1) (([0, 1, 7] : List UInt8).drop 1) = [0, 1, 7] ∧ wrN true 1 (([0, 1, 7] : List UInt8).drop 1) = 3 ∧ nxM ([0, 1, 7] : List UInt8) = m7 ∧ nxOk ([0, 1, 7] : List UInt8) = true ∧ (false || nxBad ([0, 1, 7] : List UInt8)) = false ∧ nxL ([0, 1, 7] : List UInt8) = [] := by
  obtain ⟨e1, e2⟩ := enc7
  obtain ⟨d1, d2⟩ := decOk_enc m7_ok e1
  rw [e2] at d1 d2
  have hF : nxF ([0, 1, 7] : List UInt8) = 1 := rfl
  have hT : ([0, 1, 7] : List UInt8).take (2 + nxF ([0, 1, 7] : List UInt8)) = [0, 1, 7] := rfl
  obtain ⟨h1, h2⟩ := nx_whole (l := ([0, 1, 7] : List UInt8)) (by decide) (by rw [hF]; decide) (by rw [hF]; decide)
  rw [hT, d1] at h1 h2
  exact ⟨rfl, rfl, by rw [nxM, h1, hT, d2]; rfl, h1, by rw [h2]; rfl, by rw [nxL, h1]; rfl⟩
theorem y_eqPN {a : Act} {w : World} {o : Oper} (ty tz : TypeId) (hu : Try.prog.underlying ty = some (.pointer (Try.prog.pointee ty))) (hgt : Try.prog.eqGuardType Try.prog.depth ty = false) (x : Operand) {p : Addr} (ho : o.op = .binOp .eql ty x (.const (.pointer none)) tz) (hx : a.eval x = .pointer (some p)) : (execOp a.eval o).run Try.prog w = .ok (.value (.bool false)) w :=
  y_eqV ty tz x _ ho hx (v := .pointer none) rfl (by simp [eqGuard, go_sem, hgt]) (by rw [run_eql_pointer_nil (h := hu)]; rfl)
theorem lknown_any  (w : World) :
  Calls Try.prog 15 #[] w fun e w' => e = .returned (.bool true) ∧ Below w.heap.size w w' := by
 obtain ⟨L, hL⟩ : ∃ L, L = ([0, 1, 7] : List UInt8) := ⟨_, rfl⟩
 obtain ⟨RB, hRB⟩ : ∃ l, recE rA = l := ⟨_, rfl⟩
 have hRl : RB.length ≤ 100000 := by rw [← hRB, show recE rA = recL rA from if_pos rA_keep]; decide
 have k1 := known_1
 have k2 := known_2
 have hL3 : L.length = 3 := by rw [hL]; rfl
 rw [← hL] at k1 k2
 obtain ⟨e1, e2⟩ := enc7
 rw [← hL] at e2
 obtain ⟨y1, y2⟩ := rd_rec rA_ok rA_keep
 rw [hRB] at y1 y2
 refine zh (args := []) 100 Try.func15 rfl rfl rfl ?_
 intro fa F
 have M := Mx.start w
 refine zT fun _ hK21 => ?_
 refine rm rfl F fun _ F22 => ?_
 refine hK21 _ _ (zS fun _ hK23 => ?_)
 refine zR ?_
 refine rn rfl rfl F22 rfl (.agg (msgA ⟨7, 0, 0, 0, "".toUTF8, 0, 0, [], [], [], [], []⟩ ⟨zN, zN, zN, zN, zN⟩)) (by unfold execOp; simp only [List.map_toArray, List.map_cons, List.map_nil, ]; kernel_rfl) fun _ F24 => ?_
 refine zc (za rfl) rfl F24 rfl rfl (enters_of Try.func17 (by kernel_rfl) rfl) #[.agg (msgA ⟨7, 0, 0, 0, "".toUTF8, 0, 0, [], [], [], [], []⟩ ⟨zN, zN, zN, zN, zN⟩)] (zn (F24.get rfl)) (enc_is m7 vZero m7_ok (by decide) true L e1 e2 w ⟨zd _, zd _, zd _, zd _, zd _⟩) ?_
 rintro _ w25 a25 ⟨v25, rfl, hv25, b25⟩ F25
 have M25 := M.newO b25 0 hv25
 clear M b25 hv25
 obtain ⟨A25, c25, rfl⟩ := (M25.isO (k := 0) rfl).shape
 refine exS 5 [(0, .bool false), (1, .slice A25 (L).length c25), (2, .bool true)] [] dnil [] F25 (by kernel_rfl) fun _ F26 => ?_
 refine hK23 _ _ (zS fun _ hK27 => ?_)
 refine zR ?_
 refine zc (za rfl) rfl F26 rfl rfl (enters_of Try.func26 (by kernel_rfl) rfl) #[] (args0) (new_any w25) ?_
 rintro _ w28 a28 ⟨g28, rfl, hg28, hc28, b28⟩ F28
 have M28 := (M25.newb b28 1 hg28 hc28).nilT 2
 clear M25 b28 hg28 hc28
 refine rm rfl F28 fun _ F29 => ?_
 refine hK27 _ _ (zS fun _ hK30 => ?_)
 refine zT fun _ hK31 => ?_
 refine rm rfl F29 fun _ F32 => ?_
 refine rn rfl rfl F32 rfl (.bool false) (y_eqPN 46 _ Try.underlying46 (by kernel_rfl) _ rfl (F32.get rfl)) fun _ F33 => ?_
 refine hK31 _ _ (wp_cond_false (F33.get rfl) ?_)
 refine wp_skip ?_
 refine hK30 _ _ (zS fun _ hK34 => ?_)
 refine zR ?_
 refine rm rfl F33 fun _ F35 => ?_
 refine rm rfl F35 fun _ F36 => ?_
 refine rm rfl F36 fun _ F37 => ?_
 refine rn rfl rfl F37 rfl (.int .i64 3) (zfa _ rfl (F37.get rfl) (M28.isO (k := 0) rfl) (by rw [hL3]; rfl)) fun _ F38 => ?_
 refine rn rfl rfl F38 rfl (.int .i64 1) (y_min _ _ rfl rfl (F38.get rfl) (by decide)) fun _ F39 => ?_
 refine wl_runE (za rfl) rfl F39 rfl (y_slTo _ _ rfl (F39.get rfl) (M28.isO (k := 0) rfl) (F39.get rfl) (j := 1) rfl (by omega)) ?_
 intro v40 a40 h40 F40
 have og41 := M28.owns (k := 0) rfl
 have M41 := M28.tame (k := 0) rfl
 clear M28
 have M40 := M41.partB 3 (k := 0) rfl h40.1 h40.2
 clear M41
 obtain ⟨A40, c40, rfl⟩ := (M40.isb (k := 3) rfl).shape
 refine zc (za rfl) rfl F40 rfl rfl (enters_of Try.func28 (by kernel_rfl) rfl) #[.pointer (some ⟨g28, 0, none⟩), .slice A40 ((L.take 1)).length c40] (zaa (F40.get rfl) (F40.get rfl)) (swrite_any M40 1 2 3 g28 [] (L.take 1) (zN) (.slice A40 ((L.take 1)).length c40) 0 false rfl rfl rfl (by decide) (by decide) (by simp only [List.length_nil, List.length_take]; omega) (by decide) true rfl) ?_
 rintro _ w42 a42 ⟨u42, N42, rfl⟩ F42
 rw [(show wrL true [] (L.take 1) = L.take 1 from rfl)] at N42
 rw [k1.1] at N42
 clear M40
 replace N42 : Mx _ _ _ ((1, blkR g28 94 #[u42, .int .i64 1, .bool false]) :: _) := N42
 refine hK34 _ _ (zS fun _ hK43 => ?_)
 refine zR ?_
 refine rm rfl F42 fun _ F44 => ?_
 refine zc (za rfl) rfl F44 rfl rfl (enters_of Try.func30 (by kernel_rfl) rfl) #[.pointer (some ⟨g28, 0, none⟩)] (zn (F44.get rfl)) (next_is N42 1 2 g28 (L.take 1) u42 1 false rfl rfl (by decide) (by rw [List.length_take]; omega) 4 5 6 7 8 mZero false false (L.take 1) k1.2.1 k1.2.2.1 k1.2.2.2.1 k1.2.2.2.2) ?_
 rintro _ w45 a45 ⟨u45, V45, N45, rfl⟩ F45
 clear N42
 refine exS 3 [(0, .bool false), (1, .slice A25 (L).length c25), (2, .bool true), (3, .pointer (some ⟨g28, 0, none⟩)), (30, .agg (msgA mZero V45)), (31, .bool false)] [] dnil [] F45 (by kernel_rfl) fun _ F46 => ?_
 refine zi (za rfl) rfl F46 rfl N45 9 (t := 29) (c := msgA ⟨0, 0, 0, 0, "".toUTF8, 0, 0, [], [], [], [], []⟩ ⟨zN, zN, zN, zN, zN⟩) (by unfold execOp; kernel_rfl) ?_
 intro g47 a47 w47 F47 M47
 clear F46 N45
 refine zu (za rfl) rfl F47 M47 (k := 9) rfl _ _ _ rfl (F47.get rfl) (F47.get rfl) (msgA mZero V45) _ rfl (Nat.le_of_ble_eq_true rfl) (zba (w := w47) ⟨(M47.isb (k := 4) rfl), (M47.isb (k := 5) rfl), (M47.isb (k := 6) rfl), (M47.isb (k := 7) rfl), (M47.isb (k := 8) rfl)⟩) (z0 rfl) (by kernel_rfl) ?_
 intro w48 M48
 clear M47
 refine rm rfl F47 fun _ F49 => ?_
 refine hK43 _ _ (zS fun _ hK50 => ?_)
 refine zR ?_
 refine rm rfl F49 fun _ F51 => ?_
 refine rm rfl F51 fun _ F52 => ?_
 refine rm rfl F52 fun _ F53 => ?_
 refine rn rfl rfl F53 rfl (.int .i64 3) (zfa _ rfl (F53.get rfl) (M48.isb (k := 0) rfl) (by rw [hL3]; rfl)) fun _ F54 => ?_
 refine rn rfl rfl F54 rfl (.int .i64 1) (y_min _ _ rfl rfl (F54.get rfl) (by decide)) fun _ F55 => ?_
 refine wl_runE (za rfl) rfl F55 rfl (y_slFrom _ _ rfl (F55.get rfl) (M48.isb (k := 0) rfl) (F55.get rfl) (i := 1) rfl (by omega)) ?_
 intro v56 a56 h56 F56
 have M56 := M48.partB 10 (k := 0) rfl h56.1 h56.2
 clear M48
 obtain ⟨A56, c56, rfl⟩ := (M56.isb (k := 10) rfl).shape
 refine zc (za rfl) rfl F56 rfl rfl (enters_of Try.func28 (by kernel_rfl) rfl) #[.pointer (some ⟨g28, 0, none⟩), .slice A56 ((L.drop 1)).length c56] (zaa (F56.get rfl) (F56.get rfl)) (swrite_any M56 1 2 10 g28 (L.take 1) (L.drop 1) u45 (.slice A56 ((L.drop 1)).length c56) 1 false rfl rfl rfl (by decide) (by decide) (by simp only [List.length_take, List.length_drop]; omega) (by decide) true (by decide)) ?_
 rintro _ w57 a57 ⟨u57, N57, rfl⟩ F57
 rw [k2.1] at N57
 rw [k2.2.1] at N57
 clear M56
 replace N57 : Mx _ _ _ ((1, blkR g28 94 #[u57, .int .i64 3, .bool false]) :: _) := N57
 refine hK50 _ _ (zS fun _ hK58 => ?_)
 refine zR ?_
 refine rm rfl F57 fun _ F59 => ?_
 refine zc (za rfl) rfl F59 rfl rfl (enters_of Try.func30 (by kernel_rfl) rfl) #[.pointer (some ⟨g28, 0, none⟩)] (zn (F59.get rfl)) (next_is N57 1 2 g28 L u57 3 false rfl rfl (by decide) (by omega) 11 12 13 14 15 m7 true false ([] : List UInt8) k2.2.2.1 k2.2.2.2.1 k2.2.2.2.2.1 k2.2.2.2.2.2) ?_
 rintro _ w60 a60 ⟨u60, V60, N60, rfl⟩ F60
 clear N57
 refine exA 3 [(39, .tuple #[.agg (msgA m7 V60), .bool true]), (42, .agg (msgA m7 V60)), (43, .bool true)] [] dnil [] F60 (by kernel_rfl) (by kernel_rfl) fun _ F61 => ?_
 refine zi (za rfl) rfl F61 rfl N60 16 (t := 29) (c := msgA ⟨0, 0, 0, 0, "".toUTF8, 0, 0, [], [], [], [], []⟩ ⟨zN, zN, zN, zN, zN⟩) (by unfold execOp; kernel_rfl) ?_
 intro g62 a62 w62 F62 M62
 clear F61 N60
 refine zu (za rfl) rfl F62 M62 (k := 16) rfl _ _ _ rfl (F62.get rfl) (F62.get rfl) (msgA m7 V60) _ rfl (Nat.le_of_ble_eq_true rfl) (zba (w := w62) ⟨(M62.isb (k := 11) rfl), (M62.isb (k := 12) rfl), (M62.isb (k := 13) rfl), (M62.isb (k := 14) rfl), (M62.isb (k := 15) rfl)⟩) (z0 rfl) (by kernel_rfl) ?_
 intro w63 M63
 clear M62
 refine rm rfl F62 fun _ F64 => ?_
 refine hK58 _ _ (zS fun _ hK65 => ?_)
 refine zR ?_
 refine rn rfl rfl F64 rfl (.agg (recA ⟨1, ({ data := #[97] }), [], 0, 0, [], 0, 0, 0⟩ ⟨zN, zN⟩)) (by unfold execOp; simp only [List.map_toArray, List.map_cons, List.map_nil, ]; kernel_rfl) fun _ F66 => ?_
 refine zc (za rfl) rfl F66 rfl rfl (enters_of Try.func35 (by kernel_rfl) rfl) #[.agg (recA ⟨1, ({ data := #[97] }), [], 0, 0, [], 0, 0, 0⟩ ⟨zN, zN⟩)] (zn (F66.get rfl)) (rec_is rA rvZero rA_ok true RB rA_keep hRB w63 ⟨zd _, zd _⟩) ?_
 rintro _ w67 a67 ⟨v67, rfl, hv67, b67⟩ F67
 have M67 := M63.newO b67 17 hv67
 clear M63 b67 hv67
 obtain ⟨A67, c67, rfl⟩ := (M67.isO (k := 17) rfl).shape
 refine exA 5 [(44, .tuple #[.slice A67 (RB).length c67, .bool true]), (47, .slice A67 (RB).length c67), (48, .bool true), (8, .slice A67 (RB).length c67), (9, .bool true)] [] dnil [] F67 (by kernel_rfl) (by kernel_rfl) fun _ F68 => ?_
 refine hK65 _ _ (zS fun _ hK69 => ?_)
 refine zR ?_
 refine rm rfl F68 fun _ F70 => ?_
 refine zc (za rfl) rfl F70 rfl rfl (enters_of Try.func37 (by kernel_rfl) rfl) #[.slice A67 (RB).length c67] (zn (F70.get rfl)) (rd_is RB (.slice A67 (RB).length c67) hRl true rA y1 y2 w67 (M67.isO (k := 17) rfl)) ?_
 rintro _ w71 a71 ⟨V71, rfl, is71, lo71, b71⟩ F71
 have M71 := M67.newRec b71 is71 lo71 18 19
 clear M67 b71 lo71
 refine exA 3 [(49, .tuple #[.agg (recA rA V71), .bool true]), (52, .agg (recA rA V71)), (53, .bool true)] [] dnil [] F71 (by kernel_rfl) (by kernel_rfl) fun _ F72 => ?_
 refine zi (za rfl) rfl F72 rfl M71 20 (t := 54) (c := recA ⟨0, "".toUTF8, [], 0, 0, [], 0, 0, 0⟩ ⟨zN, zN⟩) (by unfold execOp; kernel_rfl) ?_
 intro g73 a73 w73 F73 M73
 clear F72 M71
 refine zu (za rfl) rfl F73 M73 (k := 20) rfl _ _ _ rfl (F73.get rfl) (F73.get rfl) (recA rA V71) _ rfl (Nat.le_of_ble_eq_true rfl) (recA_one (w := w73) ⟨(M73.isb (k := 18) rfl), (M73.isb (k := 19) rfl)⟩) (z0 rfl) (by kernel_rfl) ?_
 intro w74 M74
 clear M73
 refine rm rfl F73 fun _ F75 => ?_
 refine hK69 _ _ (zS fun _ hK76 => ?_)
 refine zR ?_
 refine rm rfl F75 fun _ F77 => ?_
 refine rm rfl F77 fun _ F78 => ?_
 refine rm rfl F78 fun _ F79 => ?_
 refine zg (w' := w74) (zb rfl rfl rfl (F79.get rfl)) rfl F79 rfl (.int .i64 3) (zfa _ rfl (F79.get rfl) (M74.isb (k := 0) rfl) (by rw [hL3]; rfl)) fun _ F80 => ?_
 refine exA 4 [(58, .bool true), (59, .bool true), (60, .bool true), (61, .slice A25 (L).length c25)] [] dnil [] F80 (by kernel_rfl) (by kernel_rfl) fun _ F81 => ?_
 refine zg (w' := w74) (zb rfl rfl rfl (F81.get rfl)) rfl F81 rfl ((ixV (.slice A25 (L).length c25) 1)) (y_ixB _ _ rfl (F81.get rfl) (M74.isb (k := 0) rfl) rfl rfl (by omega)) fun _ F82 => ?_
 refine zg (w' := w74) (zb rfl rfl rfl (F82.get rfl)) rfl F82 rfl (.int .u8 (((1 : UInt8).toNat : Nat) : Int)) (y_ldB _ rfl (F82.get rfl) (M74.isb (k := 0) rfl) (by rw [hL]; rfl) rfl) fun _ F83 => ?_
 refine zg (w' := w74) (zb rfl rfl rfl (F83.get rfl)) rfl F83 rfl (.bool true) (zl _ _ _ _ rfl (F83.get rfl) rfl Try.underlying5 (zga (by decide))) fun _ F84 => ?_
 refine exA 3 [(65, .bool true), (66, .bool true), (67, .slice A25 (L).length c25)] [] dnil [] F84 (by kernel_rfl) (by kernel_rfl) fun _ F85 => ?_
 refine zg (w' := w74) (zb rfl rfl rfl (F85.get rfl)) rfl F85 rfl ((ixV (.slice A25 (L).length c25) 2)) (y_ixB _ _ rfl (F85.get rfl) (M74.isb (k := 0) rfl) rfl rfl (by omega)) fun _ F86 => ?_
 refine zg (w' := w74) (zb rfl rfl rfl (F86.get rfl)) rfl F86 rfl (.int .u8 (((7 : UInt8).toNat : Nat) : Int)) (y_ldB _ rfl (F86.get rfl) (M74.isb (k := 0) rfl) (by rw [hL]; rfl) rfl) fun _ F87 => ?_
 refine zg (w' := w74) (zb rfl rfl rfl (F87.get rfl)) rfl F87 rfl (.bool true) (zl _ _ _ _ rfl (F87.get rfl) rfl Try.underlying5 (zga (by decide))) fun _ F88 => ?_
 refine exS 11 [(0, .bool false), (3, .pointer (some ⟨g28, 0, none⟩)), (9, .bool true), (10, .pointer (some ⟨g73, 0, none⟩)), (11, .bool true), (79, .bool true), (81, .int .i64 m7.k)] [0] (zq (M74.blk (k := 16) rfl) dnil) [g62] F88 (by kernel_rfl) fun _ F89 => ?_
 refine zg (w' := w74) (zb rfl rfl rfl (F89.get rfl)) rfl F89 rfl (.bool true) (zl _ _ _ _ rfl (F89.get rfl) rfl Try.underlying3 (zga (show m7.k = 7 from rfl))) fun _ F90 => ?_
 refine exA 3 [(83, .bool true), (84, .bool true), (85, .pointer (some ⟨g28, 0, none⟩))] [] dnil [] F90 (by kernel_rfl) (by kernel_rfl) fun _ F91 => ?_
 refine zc (zb rfl rfl rfl (F91.get rfl)) rfl F91 rfl rfl (enters_of Try.func32 (by kernel_rfl) rfl) #[.pointer (some ⟨g28, 0, none⟩)] (zn (F91.get rfl)) (zf ((bad_any g28 u60 3 false w74 (M74.blk (k := 1) rfl)))) ?_
 rintro _ w92 a92 ⟨rfl, b92⟩ F92
 have M92 := M74.step b92
 refine exS 11 [(0, .bool false), (95, .bool true), (97, .string rA.s)] [0] (zq (M92.blk (k := 20) rfl) dnil) [g73] F92 (by kernel_rfl) fun _ F93 => ?_
 refine zg (w' := w92) (zb rfl rfl rfl (F93.get rfl)) rfl F93 rfl (.bool true) (y_eqS _ _ _ rfl (F93.get rfl) rfl (decide_eq_true rfl)) fun _ F94 => ?_
 refine exS 2 [(0, .bool true)] [] dnil [] F94 (by kernel_rfl) fun _ F95 => ?_
 refine hK76 _ _ (wp_ret ?_)
 try simp only [Exit.then, Exit.inBlock, Exit.jump]
 exact bodyPost_ret (res1 rfl (F95.get rfl)) F95.defers ⟨rfl, M92.below⟩
end Go.Proofs.Ytlbkogdmojlpmaa
namespace Go.Proofs.Ytlbkogdmojlpmaa
open Go.ChangeShapes Go.WideShapes Go.ChangeAt Go.RowKit
def wordI (X : Int) : Int := if (X % 7 == 0) = true then X.tdiv 7 % 3 else if (X % 5 == 0) = true then 4294967295 - X.tdiv 5 % 3 else bits BinOp.xor IntKind.u32 (X % 4294967296) (X / 4294967296 % 4294967296 * 7 % 4294967296)
def rowA (x : Nat → Int) (k j : Nat) : Int := if j < k then wordI (x j) else 0
section
variable {wr : World} {b k : Nat} {z x : Nat → Int}
def AtK (w : World) (b k : Nat) (x : Nat → Int) (v : Int) : Prop := w.rowIs b 27 8 (fun j => if j = k then .int .u32 v else .int .u32 (rowA x k j))
theorem AtK.one (h : wr.rowIs b 27 8 (fun j => .int .u32 (rowA x k j))) (v : Int) : AtK (wr.setCell ⟨b, k, none⟩ (.int .u32 v)) b k x v := h.set k _
theorem AtK.two {u : Int} (h : AtK wr b k x u) (v : Int) : AtK (wr.setCell ⟨b, k, none⟩ (.int .u32 v)) b k x v := (World.rowIs.set h k _).congr fun j _ => by
  by_cases e : j = k
  · rw [if_pos e, if_pos e]
  · rw [if_neg e, if_neg e, if_neg e]
def AtX (w : World) (b k : Nat) (x : Nat → Int) : Prop := ∃ u, AtK w b k x u
theorem AtX.one (h : wr.rowIs b 27 8 (fun j => .int .u32 (rowA x k j))) (v : Int) : AtX (wr.setCell ⟨b, k, none⟩ (.int .u32 v)) b k x := ⟨v, AtK.one h v⟩
theorem AtX.two (h : AtX wr b k x) (v : Int) : AtX (wr.setCell ⟨b, k, none⟩ (.int .u32 v)) b k x := by obtain ⟨u, h⟩ := h; exact ⟨v, h.two v⟩
end
attribute [irreducible] rowA
end Go.Proofs.Ytlbkogdmojlpmaa
namespace Go.Proofs.Ytlbkogdmojlpmaa
open Go.ChangeShapes Go.WideShapes Go.ChangeAt Go.RowKit
theorem RecOk.set {r r2 : RecN} (h : RecOk r) (hp : -9223372036854775808 ≤ r2.p ∧ r2.p < 9223372036854775808) (ht : -9223372036854775808 ≤ r2.t ∧ r2.t < 9223372036854775808) (hc : -9223372036854775808 ≤ r2.c ∧ r2.c < 9223372036854775808) (hz : -9223372036854775808 ≤ r2.z ∧ r2.z < 9223372036854775808) (hs : r2.s.size ≤ 1000) (ha : r2.a < 4294967296 ^ 8) (hb : r2.b < 4294967296 ^ 8) : RecOk r2 := ⟨hp, ht, hc, hz, hs, ha, hb⟩
end Go.Proofs.Ytlbkogdmojlpmaa
namespace Go.Proofs.Ytlbkogdmojlpmaa
open Go.ChangeShapes Go.WideShapes Go.ChangeAt Go.RowKit
theorem Rd.isB' {w : World} {A : Option Addr} {l : List UInt8} {n c : Nat} (h : Rd w A l) (hn : l.length = n) (hc : n ≤ c) (hm : c ≤ maxLen) (hz : A = none → c = 0) : IsB w l (.slice A n c) := by
  subst hn
  exact ⟨A, c, rfl, hc, hm, hz, h⟩
theorem top_small {a : Nat} (h : a < 4294967296) : topI a 8 ≤ 32 := by
  by_cases h0 : a = 0
  · subst h0; rw [topI_none]; decide
  · have ha : a < 4294967296 ^ 8 := Nat.lt_trans h (by decide)
    have h1 := Nat.log2_self_le h0
    have h2 : a < 2 ^ (Nat.log2 a + 1) := Nat.lt_log2_self
    have h3 : a / 2 ^ (Nat.log2 a) = 1 := by
      apply Nat.div_eq_of_lt_le
      · omega
      · rw [Nat.pow_succ] at h2; omega
    rw [top_one ha h3]
    have h4 : Nat.log2 a < 32 := by
      refine Classical.byContradiction fun hn => ?_
      have : 2 ^ 32 ≤ 2 ^ Nat.log2 a := Nat.pow_le_pow_right (by omega) (by omega)
      omega
    omega
theorem nmB_ne (s : ByteArray) : sBy (nmB s) ≠ [] := by
  by_cases h : (sBy s).length = 0
  · rw [nmB_nil h]; simp [sBy]
  · rw [nmB_some h]
    simp only [sBy, List.toList_toArray]
    intro e
    have := congrArg List.length e
    rw [List.length_take] at this
    have h2 := nmL_len (sBy s)
    unfold sBy at h h2
    simp only [List.length_nil] at this
    omega
theorem nmB_size (s : ByteArray) : 0 < (nmB s).size ∧ (nmB s).size ≤ 16 := by
  have h := nmB_ne s
  have e : (sBy (nmB s)).length = (nmB s).size := sBy_len _
  refine ⟨by have := List.length_pos_iff.2 h; omega, ?_⟩
  by_cases h0 : (sBy s).length = 0
  · rw [nmB_nil h0]; decide
  · rw [← e, nmB_some h0]
    simp only [sBy, List.toList_toArray, List.length_take]
    omega
theorem name_of {B : ByteArray} (h1 : 0 < B.size) (h2 : B.size ≤ 16) (h : ∀ x ∈ sBy B, 33 ≤ x.toNat ∧ x.toNat ≤ 126) : nameB B = true := by
  refine @decide_eq_true _ (Classical.propDecidable _) ⟨h1, h2, fun i hi => ?_⟩
  have hg : (sBy B)[i]? = some (B[i]'hi) := by
    unfold sBy
    rw [Array.getElem?_toList]
    exact Array.getElem?_eq_getElem hi
  have := h _ (List.mem_of_getElem? hg)
  omega
theorem nmB_ok (s : ByteArray) : nameB (nmB s) = true := by
  refine name_of (nmB_size s).1 (nmB_size s).2 fun x hx => ?_
  by_cases h0 : (sBy s).length = 0
  · rw [nmB_nil h0] at hx
    have : x = 117 := by simpa [sBy] using hx
    subst this; decide
  · rw [nmB_some h0] at hx
    simp only [sBy, List.toList_toArray] at hx
    obtain ⟨y, -, hy⟩ := List.mem_map.1 (List.mem_of_mem_take hx)
    rw [← hy]
    exact nmC_in y
theorem thN_congr {f g : Nat → Bool} : ∀ k, (∀ j, j < k → f j = g j) → thN f k = thN g k
  | 0, _ => rfl
  | k + 1, h => by
    unfold thN
    rw [thN_congr k fun j hj => h j (by omega), h k (by omega)]
theorem right_of {m : MsgN} (F : Nat → Bool) (hF : ∀ k, k < 12 → zpa m k = F k) (hw : ((thN F 12 : Nat) : Int) = z8 m) (hp : 0 ≤ m.p ∧ m.p ≤ 2) (hs : nilB m.s = true ∨ nameB m.s = true) (ha : m.a < 4294967296) (hb : m.b < 4294967296)
    (h5 : m.l5.length ≤ 16) (h6 : m.l6.length ≤ 48) (h7 : m.l7.length ≤ 16) (h8 : m.l8.length ≤ 80) (h9 : m.l9.length ≤ 120) (hc : 0 ≤ m.c) (he : 0 ≤ m.e ∧ m.e ≤ 11) : zta m = true := by
  rw [← zma]
  unfold zha hasR
  rw [thN_congr 12 hF, hw]
  have e1 := top_small ha
  have e2 := top_small hb
  have e3 : (nilB m.s || nameB m.s) = true := by rcases hs with h | h <;> rw [h] <;> simp
  rw [e3]
  simp only [Bool.and_eq_true, Bool.not_eq_true', decide_eq_true_eq, decide_eq_false_iff_not]
  refine ⟨⟨⟨⟨⟨⟨⟨⟨⟨⟨⟨⟨⟨trivial, by omega⟩, by omega⟩, trivial⟩, e1⟩, e2⟩, by omega⟩, by omega⟩, by omega⟩, by omega⟩, by omega⟩, hc⟩, he.1⟩, he.2⟩
theorem zmb {m : MsgN} {F : Nat → Bool} (h0 : F 0 = false) (h1 : (m.p != 0) = F 1) (h2 : (!(sBy m.s).isEmpty) = F 2) (h3 : (!decide (m.a = 0)) = F 3) (h4 : (!decide (m.b = 0)) = F 4) (h5 : (!m.l5.isEmpty) = F 5) (h6 : (!m.l6.isEmpty) = F 6) (h7 : (!m.l7.isEmpty) = F 7) (h8 : (!m.l8.isEmpty) = F 8) (h9 : (!m.l9.isEmpty) = F 9) (h10 : (m.c != 0) = F 10) (h11 : (m.e != 0) = F 11) : ∀ k, k < 12 → zpa m k = F k := by
  intro k hk
  have : k = 0 ∨ k = 1 ∨ k = 2 ∨ k = 3 ∨ k = 4 ∨ k = 5 ∨ k = 6 ∨ k = 7 ∨ k = 8 ∨ k = 9 ∨ k = 10 ∨ k = 11 := by omega
  rcases this with rfl | rfl | rfl | rfl | rfl | rfl | rfl | rfl | rfl | rfl | rfl | rfl
  · exact h0.symm
  · rw [← fl_1, h1]
  · exact h2
  · rw [← fl_3, h3]
  · rw [← fl_4, h4]
  · exact h5
  · exact h6
  · exact h7
  · exact h8
  · exact h9
  · rw [← fl_10, h10]
  · rw [← fl_11, h11]
theorem some_ne (b : List UInt8) (n : Int) {K : Nat} (h : 0 < K) : (ze b n K).isEmpty = false := by
  have := zk b n K
  cases he : ze b n K with
  | nil => rw [he] at this; simp at this; omega
  | cons x r => rfl
theorem z9a : nilB ("".toUTF8) = true := decide_eq_true rfl
theorem nmB_nonempty (s : ByteArray) : (sBy (nmB s)).isEmpty = false := by
  cases he : sBy (nmB s) with
  | nil => exact absurd he (nmB_ne s)
  | cons x r => rfl
theorem kn (n : Int) {k : Int} (hk : 0 < k) : 0 < (1 + n % k).toNat ∧ (1 + n % k).toNat ≤ k.toNat := by
  have h1 := Int.emod_nonneg n (show k ≠ 0 by omega)
  have h2 := Int.emod_lt_of_pos n hk
  omega
theorem mkM_right (kind n : Int) (s : ByteArray) (b : List UInt8) : zta (mkM kind n s b) = true := by
  have h2 := Int.emod_two_eq n
  have hA := kn n (show (0 : Int) < 4294967295 by decide)
  have hC := kn (n.tdiv 3) (show (0 : Int) < 70000 by decide)
  have h16 := kn n (show (0 : Int) < 16 by decide)
  have h48 := kn n (show (0 : Int) < 48 by decide)
  have h80 := kn n (show (0 : Int) < 80 by decide)
  have h120 := kn n (show (0 : Int) < 120 by decide)
  have h7 := kn (n.tdiv 7) (show (0 : Int) < 16 by decide)
  have h5 := kn (n.tdiv 5) (show (0 : Int) < 110 by decide)
  have h11 := Int.emod_nonneg n (show (11 : Int) ≠ 0 by decide)
  have h11' := Int.emod_lt_of_pos n (show (0 : Int) < 11 by decide)
  have h40 := Int.emod_nonneg n (show (1099511627776 : Int) ≠ 0 by decide)
  have hp1 : ((1 + n % 2) != 0) = true := y_bneT (by omega)
  have he1 : ((1 + n % 11) != 0) = true := y_bneT (by omega)
  have hc1 : ((1 + n % 1099511627776) != 0) = true := y_bneT (by omega)
  have hA0 : decide ((1 + n % 4294967295).toNat = 0) = false := decide_eq_false (by omega)
  have hC0 : decide ((1 + n.tdiv 3 % 70000).toNat = 0) = false := decide_eq_false (by omega)
  have s16 := some_ne b n h16.1
  have s48 := some_ne b n h48.1
  have s80 := some_ne b n h80.1
  have s120 := some_ne b n h120.1
  have s7 := some_ne b (n.tdiv 7) h7.1
  have s5 := some_ne b (n.tdiv 5) h5.1
  have hn := nmB_ok s
  have hne := nmB_nonempty s
  have key : ∀ (S : List Nat) (m : MsgN), (∀ k, k < 12 → zpa m k = S.contains k) → ((thN (fun k => S.contains k) 12 : Nat) : Int) = z8 m → (0 ≤ m.p ∧ m.p ≤ 2) → (nilB m.s = true ∨ nameB m.s = true) → m.a < 4294967296 → m.b < 4294967296 → m.l5.length ≤ 16 → m.l6.length ≤ 48 → m.l7.length ≤ 16 → m.l8.length ≤ 80 → m.l9.length ≤ 120 → 0 ≤ m.c → (0 ≤ m.e ∧ m.e ≤ 11) → zta m = true := fun S m a1 a2 a3 a4 a5 a6 a7 a8 a9 a10 a11 a12 a13 => right_of (fun k => S.contains k) a1 a2 a3 a4 a5 a6 a7 a8 a9 a10 a11 a12 a13
  unfold mkM
  by_cases k0 : kind % 12 = 0
  · rw [if_pos k0]
    by_cases q : n % 2 = 0
    · rw [if_pos q]; exact key [1, 2, 3] _ (zmb rfl (by first | exact hp1 | rfl) (by first | rfl | (show (!(sBy (nmB s)).isEmpty) = _; rw [hne]; rfl)) (by first | rfl | (show (!decide (_ = 0)) = _; first | (rw [hA0]; rfl) | (rw [hC0]; rfl))) (by first | rfl | (show (!decide (_ = 0)) = _; first | (rw [hA0]; rfl) | (rw [hC0]; rfl))) (by first | rfl | (show (!(ze _ _ _).isEmpty) = _; rw [s16]; rfl)) (by first | rfl | (show (!(ze _ _ _).isEmpty) = _; rw [s48]; rfl)) (by first | rfl | (show (!(ze _ _ _).isEmpty) = _; first | (rw [s16]; rfl) | (rw [s7]; rfl))) (by first | rfl | (show (!(ze _ _ _).isEmpty) = _; rw [s80]; rfl)) (by first | rfl | (show (!(ze _ _ _).isEmpty) = _; first | (rw [s120]; rfl) | (rw [s5]; rfl))) (by first | exact hc1 | rfl) (by first | exact he1 | rfl)) (by first | rfl | decide | (rw [show thN (fun k => List.contains [7, 8] k) 12 = 384 by decide]; unfold z8; dsimp only; simp only [Int.reduceEq, ↓reduceIte, zk]; rw [if_pos (by omega)]; rfl) | (rw [show thN (fun k => List.contains [8] k) 12 = 256 by decide]; unfold z8; simp)) (by dsimp only; omega) (by first | exact .inl z9a | exact .inr hn) (by dsimp only; omega) (by dsimp only; omega) (by first | exact Nat.zero_le _ | (show (ze _ _ _).length ≤ _; rw [zk]; omega)) (by first | exact Nat.zero_le _ | (show (ze _ _ _).length ≤ _; rw [zk]; omega)) (by first | exact Nat.zero_le _ | (show (ze _ _ _).length ≤ _; rw [zk]; omega)) (by first | exact Nat.zero_le _ | (show (ze _ _ _).length ≤ _; rw [zk]; omega)) (by first | exact Nat.zero_le _ | (show (ze _ _ _).length ≤ _; rw [zk]; omega)) (by dsimp only; omega) (by dsimp only; omega)
    · rw [if_neg q]; exact key [1, 2, 3, 4] _ (zmb rfl (by first | exact hp1 | rfl) (by first | rfl | (show (!(sBy (nmB s)).isEmpty) = _; rw [hne]; rfl)) (by first | rfl | (show (!decide (_ = 0)) = _; first | (rw [hA0]; rfl) | (rw [hC0]; rfl))) (by first | rfl | (show (!decide (_ = 0)) = _; first | (rw [hA0]; rfl) | (rw [hC0]; rfl))) (by first | rfl | (show (!(ze _ _ _).isEmpty) = _; rw [s16]; rfl)) (by first | rfl | (show (!(ze _ _ _).isEmpty) = _; rw [s48]; rfl)) (by first | rfl | (show (!(ze _ _ _).isEmpty) = _; first | (rw [s16]; rfl) | (rw [s7]; rfl))) (by first | rfl | (show (!(ze _ _ _).isEmpty) = _; rw [s80]; rfl)) (by first | rfl | (show (!(ze _ _ _).isEmpty) = _; first | (rw [s120]; rfl) | (rw [s5]; rfl))) (by first | exact hc1 | rfl) (by first | exact he1 | rfl)) (by first | rfl | decide | (rw [show thN (fun k => List.contains [7, 8] k) 12 = 384 by decide]; unfold z8; dsimp only; simp only [Int.reduceEq, ↓reduceIte, zk]; rw [if_pos (by omega)]; rfl) | (rw [show thN (fun k => List.contains [8] k) 12 = 256 by decide]; unfold z8; simp)) (by dsimp only; omega) (by first | exact .inl z9a | exact .inr hn) (by dsimp only; omega) (by dsimp only; omega) (by first | exact Nat.zero_le _ | (show (ze _ _ _).length ≤ _; rw [zk]; omega)) (by first | exact Nat.zero_le _ | (show (ze _ _ _).length ≤ _; rw [zk]; omega)) (by first | exact Nat.zero_le _ | (show (ze _ _ _).length ≤ _; rw [zk]; omega)) (by first | exact Nat.zero_le _ | (show (ze _ _ _).length ≤ _; rw [zk]; omega)) (by first | exact Nat.zero_le _ | (show (ze _ _ _).length ≤ _; rw [zk]; omega)) (by dsimp only; omega) (by dsimp only; omega)
  rw [if_neg k0]
  by_cases k1 : kind % 12 = 1
  · rw [if_pos k1]
    by_cases q : n % 2 = 0
    · rw [if_pos q]; exact key [1, 4, 5] _ (zmb rfl (by first | exact hp1 | rfl) (by first | rfl | (show (!(sBy (nmB s)).isEmpty) = _; rw [hne]; rfl)) (by first | rfl | (show (!decide (_ = 0)) = _; first | (rw [hA0]; rfl) | (rw [hC0]; rfl))) (by first | rfl | (show (!decide (_ = 0)) = _; first | (rw [hA0]; rfl) | (rw [hC0]; rfl))) (by first | rfl | (show (!(ze _ _ _).isEmpty) = _; rw [s16]; rfl)) (by first | rfl | (show (!(ze _ _ _).isEmpty) = _; rw [s48]; rfl)) (by first | rfl | (show (!(ze _ _ _).isEmpty) = _; first | (rw [s16]; rfl) | (rw [s7]; rfl))) (by first | rfl | (show (!(ze _ _ _).isEmpty) = _; rw [s80]; rfl)) (by first | rfl | (show (!(ze _ _ _).isEmpty) = _; first | (rw [s120]; rfl) | (rw [s5]; rfl))) (by first | exact hc1 | rfl) (by first | exact he1 | rfl)) (by first | rfl | decide | (rw [show thN (fun k => List.contains [7, 8] k) 12 = 384 by decide]; unfold z8; dsimp only; simp only [Int.reduceEq, ↓reduceIte, zk]; rw [if_pos (by omega)]; rfl) | (rw [show thN (fun k => List.contains [8] k) 12 = 256 by decide]; unfold z8; simp)) (by dsimp only; omega) (by first | exact .inl z9a | exact .inr hn) (by dsimp only; omega) (by dsimp only; omega) (by first | exact Nat.zero_le _ | (show (ze _ _ _).length ≤ _; rw [zk]; omega)) (by first | exact Nat.zero_le _ | (show (ze _ _ _).length ≤ _; rw [zk]; omega)) (by first | exact Nat.zero_le _ | (show (ze _ _ _).length ≤ _; rw [zk]; omega)) (by first | exact Nat.zero_le _ | (show (ze _ _ _).length ≤ _; rw [zk]; omega)) (by first | exact Nat.zero_le _ | (show (ze _ _ _).length ≤ _; rw [zk]; omega)) (by dsimp only; omega) (by dsimp only; omega)
    · rw [if_neg q]; exact key [1, 3, 4, 6] _ (zmb rfl (by first | exact hp1 | rfl) (by first | rfl | (show (!(sBy (nmB s)).isEmpty) = _; rw [hne]; rfl)) (by first | rfl | (show (!decide (_ = 0)) = _; first | (rw [hA0]; rfl) | (rw [hC0]; rfl))) (by first | rfl | (show (!decide (_ = 0)) = _; first | (rw [hA0]; rfl) | (rw [hC0]; rfl))) (by first | rfl | (show (!(ze _ _ _).isEmpty) = _; rw [s16]; rfl)) (by first | rfl | (show (!(ze _ _ _).isEmpty) = _; rw [s48]; rfl)) (by first | rfl | (show (!(ze _ _ _).isEmpty) = _; first | (rw [s16]; rfl) | (rw [s7]; rfl))) (by first | rfl | (show (!(ze _ _ _).isEmpty) = _; rw [s80]; rfl)) (by first | rfl | (show (!(ze _ _ _).isEmpty) = _; first | (rw [s120]; rfl) | (rw [s5]; rfl))) (by first | exact hc1 | rfl) (by first | exact he1 | rfl)) (by first | rfl | decide | (rw [show thN (fun k => List.contains [7, 8] k) 12 = 384 by decide]; unfold z8; dsimp only; simp only [Int.reduceEq, ↓reduceIte, zk]; rw [if_pos (by omega)]; rfl) | (rw [show thN (fun k => List.contains [8] k) 12 = 256 by decide]; unfold z8; simp)) (by dsimp only; omega) (by first | exact .inl z9a | exact .inr hn) (by dsimp only; omega) (by dsimp only; omega) (by first | exact Nat.zero_le _ | (show (ze _ _ _).length ≤ _; rw [zk]; omega)) (by first | exact Nat.zero_le _ | (show (ze _ _ _).length ≤ _; rw [zk]; omega)) (by first | exact Nat.zero_le _ | (show (ze _ _ _).length ≤ _; rw [zk]; omega)) (by first | exact Nat.zero_le _ | (show (ze _ _ _).length ≤ _; rw [zk]; omega)) (by first | exact Nat.zero_le _ | (show (ze _ _ _).length ≤ _; rw [zk]; omega)) (by dsimp only; omega) (by dsimp only; omega)
  rw [if_neg k1]
  by_cases k2 : kind % 12 = 2
  · rw [if_pos k2]
    exact key [7] _ (zmb rfl (by first | exact hp1 | rfl) (by first | rfl | (show (!(sBy (nmB s)).isEmpty) = _; rw [hne]; rfl)) (by first | rfl | (show (!decide (_ = 0)) = _; first | (rw [hA0]; rfl) | (rw [hC0]; rfl))) (by first | rfl | (show (!decide (_ = 0)) = _; first | (rw [hA0]; rfl) | (rw [hC0]; rfl))) (by first | rfl | (show (!(ze _ _ _).isEmpty) = _; rw [s16]; rfl)) (by first | rfl | (show (!(ze _ _ _).isEmpty) = _; rw [s48]; rfl)) (by first | rfl | (show (!(ze _ _ _).isEmpty) = _; first | (rw [s16]; rfl) | (rw [s7]; rfl))) (by first | rfl | (show (!(ze _ _ _).isEmpty) = _; rw [s80]; rfl)) (by first | rfl | (show (!(ze _ _ _).isEmpty) = _; first | (rw [s120]; rfl) | (rw [s5]; rfl))) (by first | exact hc1 | rfl) (by first | exact he1 | rfl)) (by first | rfl | decide | (rw [show thN (fun k => List.contains [7, 8] k) 12 = 384 by decide]; unfold z8; dsimp only; simp only [Int.reduceEq, ↓reduceIte, zk]; rw [if_pos (by omega)]; rfl) | (rw [show thN (fun k => List.contains [8] k) 12 = 256 by decide]; unfold z8; simp)) (by dsimp only; omega) (by first | exact .inl z9a | exact .inr hn) (by dsimp only; omega) (by dsimp only; omega) (by first | exact Nat.zero_le _ | (show (ze _ _ _).length ≤ _; rw [zk]; omega)) (by first | exact Nat.zero_le _ | (show (ze _ _ _).length ≤ _; rw [zk]; omega)) (by first | exact Nat.zero_le _ | (show (ze _ _ _).length ≤ _; rw [zk]; omega)) (by first | exact Nat.zero_le _ | (show (ze _ _ _).length ≤ _; rw [zk]; omega)) (by first | exact Nat.zero_le _ | (show (ze _ _ _).length ≤ _; rw [zk]; omega)) (by dsimp only; omega) (by dsimp only; omega)
  rw [if_neg k2]
  by_cases k3 : kind % 12 = 3
  · rw [if_pos k3]
    by_cases q : n.tdiv 2 % 2 = 0
    · rw [if_pos q]; exact key [7, 8] _ (zmb rfl (by first | exact hp1 | rfl) (by first | rfl | (show (!(sBy (nmB s)).isEmpty) = _; rw [hne]; rfl)) (by first | rfl | (show (!decide (_ = 0)) = _; first | (rw [hA0]; rfl) | (rw [hC0]; rfl))) (by first | rfl | (show (!decide (_ = 0)) = _; first | (rw [hA0]; rfl) | (rw [hC0]; rfl))) (by first | rfl | (show (!(ze _ _ _).isEmpty) = _; rw [s16]; rfl)) (by first | rfl | (show (!(ze _ _ _).isEmpty) = _; rw [s48]; rfl)) (by first | rfl | (show (!(ze _ _ _).isEmpty) = _; first | (rw [s16]; rfl) | (rw [s7]; rfl))) (by first | rfl | (show (!(ze _ _ _).isEmpty) = _; rw [s80]; rfl)) (by first | rfl | (show (!(ze _ _ _).isEmpty) = _; first | (rw [s120]; rfl) | (rw [s5]; rfl))) (by first | exact hc1 | rfl) (by first | exact he1 | rfl)) (by first | rfl | decide | (rw [show thN (fun k => List.contains [7, 8] k) 12 = 384 by decide]; unfold z8; dsimp only; simp only [Int.reduceEq, ↓reduceIte, zk]; rw [if_pos (by omega)]; rfl) | (rw [show thN (fun k => List.contains [8] k) 12 = 256 by decide]; unfold z8; simp)) (by dsimp only; omega) (by first | exact .inl z9a | exact .inr hn) (by dsimp only; omega) (by dsimp only; omega) (by first | exact Nat.zero_le _ | (show (ze _ _ _).length ≤ _; rw [zk]; omega)) (by first | exact Nat.zero_le _ | (show (ze _ _ _).length ≤ _; rw [zk]; omega)) (by first | exact Nat.zero_le _ | (show (ze _ _ _).length ≤ _; rw [zk]; omega)) (by first | exact Nat.zero_le _ | (show (ze _ _ _).length ≤ _; rw [zk]; omega)) (by first | exact Nat.zero_le _ | (show (ze _ _ _).length ≤ _; rw [zk]; omega)) (by dsimp only; omega) (by dsimp only; omega)
    · rw [if_neg q]; exact key [8] _ (zmb rfl (by first | exact hp1 | rfl) (by first | rfl | (show (!(sBy (nmB s)).isEmpty) = _; rw [hne]; rfl)) (by first | rfl | (show (!decide (_ = 0)) = _; first | (rw [hA0]; rfl) | (rw [hC0]; rfl))) (by first | rfl | (show (!decide (_ = 0)) = _; first | (rw [hA0]; rfl) | (rw [hC0]; rfl))) (by first | rfl | (show (!(ze _ _ _).isEmpty) = _; rw [s16]; rfl)) (by first | rfl | (show (!(ze _ _ _).isEmpty) = _; rw [s48]; rfl)) (by first | rfl | (show (!(ze _ _ _).isEmpty) = _; first | (rw [s16]; rfl) | (rw [s7]; rfl))) (by first | rfl | (show (!(ze _ _ _).isEmpty) = _; rw [s80]; rfl)) (by first | rfl | (show (!(ze _ _ _).isEmpty) = _; first | (rw [s120]; rfl) | (rw [s5]; rfl))) (by first | exact hc1 | rfl) (by first | exact he1 | rfl)) (by first | rfl | decide | (rw [show thN (fun k => List.contains [7, 8] k) 12 = 384 by decide]; unfold z8; dsimp only; simp only [Int.reduceEq, ↓reduceIte, zk]; rw [if_pos (by omega)]; rfl) | (rw [show thN (fun k => List.contains [8] k) 12 = 256 by decide]; unfold z8; simp)) (by dsimp only; omega) (by first | exact .inl z9a | exact .inr hn) (by dsimp only; omega) (by dsimp only; omega) (by first | exact Nat.zero_le _ | (show (ze _ _ _).length ≤ _; rw [zk]; omega)) (by first | exact Nat.zero_le _ | (show (ze _ _ _).length ≤ _; rw [zk]; omega)) (by first | exact Nat.zero_le _ | (show (ze _ _ _).length ≤ _; rw [zk]; omega)) (by first | exact Nat.zero_le _ | (show (ze _ _ _).length ≤ _; rw [zk]; omega)) (by first | exact Nat.zero_le _ | (show (ze _ _ _).length ≤ _; rw [zk]; omega)) (by dsimp only; omega) (by dsimp only; omega)
  rw [if_neg k3]
  by_cases k4 : kind % 12 = 4
  · rw [if_pos k4]
    exact key [11] _ (zmb rfl (by first | exact hp1 | rfl) (by first | rfl | (show (!(sBy (nmB s)).isEmpty) = _; rw [hne]; rfl)) (by first | rfl | (show (!decide (_ = 0)) = _; first | (rw [hA0]; rfl) | (rw [hC0]; rfl))) (by first | rfl | (show (!decide (_ = 0)) = _; first | (rw [hA0]; rfl) | (rw [hC0]; rfl))) (by first | rfl | (show (!(ze _ _ _).isEmpty) = _; rw [s16]; rfl)) (by first | rfl | (show (!(ze _ _ _).isEmpty) = _; rw [s48]; rfl)) (by first | rfl | (show (!(ze _ _ _).isEmpty) = _; first | (rw [s16]; rfl) | (rw [s7]; rfl))) (by first | rfl | (show (!(ze _ _ _).isEmpty) = _; rw [s80]; rfl)) (by first | rfl | (show (!(ze _ _ _).isEmpty) = _; first | (rw [s120]; rfl) | (rw [s5]; rfl))) (by first | exact hc1 | rfl) (by first | exact he1 | rfl)) (by first | rfl | decide | (rw [show thN (fun k => List.contains [7, 8] k) 12 = 384 by decide]; unfold z8; dsimp only; simp only [Int.reduceEq, ↓reduceIte, zk]; rw [if_pos (by omega)]; rfl) | (rw [show thN (fun k => List.contains [8] k) 12 = 256 by decide]; unfold z8; simp)) (by dsimp only; omega) (by first | exact .inl z9a | exact .inr hn) (by dsimp only; omega) (by dsimp only; omega) (by first | exact Nat.zero_le _ | (show (ze _ _ _).length ≤ _; rw [zk]; omega)) (by first | exact Nat.zero_le _ | (show (ze _ _ _).length ≤ _; rw [zk]; omega)) (by first | exact Nat.zero_le _ | (show (ze _ _ _).length ≤ _; rw [zk]; omega)) (by first | exact Nat.zero_le _ | (show (ze _ _ _).length ≤ _; rw [zk]; omega)) (by first | exact Nat.zero_le _ | (show (ze _ _ _).length ≤ _; rw [zk]; omega)) (by dsimp only; omega) (by dsimp only; omega)
  rw [if_neg k4]
  by_cases k5 : kind % 12 = 5
  · rw [if_pos k5]
    exact key [1, 2, 9] _ (zmb rfl (by first | exact hp1 | rfl) (by first | rfl | (show (!(sBy (nmB s)).isEmpty) = _; rw [hne]; rfl)) (by first | rfl | (show (!decide (_ = 0)) = _; first | (rw [hA0]; rfl) | (rw [hC0]; rfl))) (by first | rfl | (show (!decide (_ = 0)) = _; first | (rw [hA0]; rfl) | (rw [hC0]; rfl))) (by first | rfl | (show (!(ze _ _ _).isEmpty) = _; rw [s16]; rfl)) (by first | rfl | (show (!(ze _ _ _).isEmpty) = _; rw [s48]; rfl)) (by first | rfl | (show (!(ze _ _ _).isEmpty) = _; first | (rw [s16]; rfl) | (rw [s7]; rfl))) (by first | rfl | (show (!(ze _ _ _).isEmpty) = _; rw [s80]; rfl)) (by first | rfl | (show (!(ze _ _ _).isEmpty) = _; first | (rw [s120]; rfl) | (rw [s5]; rfl))) (by first | exact hc1 | rfl) (by first | exact he1 | rfl)) (by first | rfl | decide | (rw [show thN (fun k => List.contains [7, 8] k) 12 = 384 by decide]; unfold z8; dsimp only; simp only [Int.reduceEq, ↓reduceIte, zk]; rw [if_pos (by omega)]; rfl) | (rw [show thN (fun k => List.contains [8] k) 12 = 256 by decide]; unfold z8; simp)) (by dsimp only; omega) (by first | exact .inl z9a | exact .inr hn) (by dsimp only; omega) (by dsimp only; omega) (by first | exact Nat.zero_le _ | (show (ze _ _ _).length ≤ _; rw [zk]; omega)) (by first | exact Nat.zero_le _ | (show (ze _ _ _).length ≤ _; rw [zk]; omega)) (by first | exact Nat.zero_le _ | (show (ze _ _ _).length ≤ _; rw [zk]; omega)) (by first | exact Nat.zero_le _ | (show (ze _ _ _).length ≤ _; rw [zk]; omega)) (by first | exact Nat.zero_le _ | (show (ze _ _ _).length ≤ _; rw [zk]; omega)) (by dsimp only; omega) (by dsimp only; omega)
  rw [if_neg k5]
  by_cases k6 : kind % 12 = 6
  · rw [if_pos k6]
    exact key [] _ (zmb rfl (by first | exact hp1 | rfl) (by first | rfl | (show (!(sBy (nmB s)).isEmpty) = _; rw [hne]; rfl)) (by first | rfl | (show (!decide (_ = 0)) = _; first | (rw [hA0]; rfl) | (rw [hC0]; rfl))) (by first | rfl | (show (!decide (_ = 0)) = _; first | (rw [hA0]; rfl) | (rw [hC0]; rfl))) (by first | rfl | (show (!(ze _ _ _).isEmpty) = _; rw [s16]; rfl)) (by first | rfl | (show (!(ze _ _ _).isEmpty) = _; rw [s48]; rfl)) (by first | rfl | (show (!(ze _ _ _).isEmpty) = _; first | (rw [s16]; rfl) | (rw [s7]; rfl))) (by first | rfl | (show (!(ze _ _ _).isEmpty) = _; rw [s80]; rfl)) (by first | rfl | (show (!(ze _ _ _).isEmpty) = _; first | (rw [s120]; rfl) | (rw [s5]; rfl))) (by first | exact hc1 | rfl) (by first | exact he1 | rfl)) (by first | rfl | decide | (rw [show thN (fun k => List.contains [7, 8] k) 12 = 384 by decide]; unfold z8; dsimp only; simp only [Int.reduceEq, ↓reduceIte, zk]; rw [if_pos (by omega)]; rfl) | (rw [show thN (fun k => List.contains [8] k) 12 = 256 by decide]; unfold z8; simp)) (by dsimp only; omega) (by first | exact .inl z9a | exact .inr hn) (by dsimp only; omega) (by dsimp only; omega) (by first | exact Nat.zero_le _ | (show (ze _ _ _).length ≤ _; rw [zk]; omega)) (by first | exact Nat.zero_le _ | (show (ze _ _ _).length ≤ _; rw [zk]; omega)) (by first | exact Nat.zero_le _ | (show (ze _ _ _).length ≤ _; rw [zk]; omega)) (by first | exact Nat.zero_le _ | (show (ze _ _ _).length ≤ _; rw [zk]; omega)) (by first | exact Nat.zero_le _ | (show (ze _ _ _).length ≤ _; rw [zk]; omega)) (by dsimp only; omega) (by dsimp only; omega)
  rw [if_neg k6]
  by_cases k7 : kind % 12 = 7
  · rw [if_pos k7]
    exact key [8, 10] _ (zmb rfl (by first | exact hp1 | rfl) (by first | rfl | (show (!(sBy (nmB s)).isEmpty) = _; rw [hne]; rfl)) (by first | rfl | (show (!decide (_ = 0)) = _; first | (rw [hA0]; rfl) | (rw [hC0]; rfl))) (by first | rfl | (show (!decide (_ = 0)) = _; first | (rw [hA0]; rfl) | (rw [hC0]; rfl))) (by first | rfl | (show (!(ze _ _ _).isEmpty) = _; rw [s16]; rfl)) (by first | rfl | (show (!(ze _ _ _).isEmpty) = _; rw [s48]; rfl)) (by first | rfl | (show (!(ze _ _ _).isEmpty) = _; first | (rw [s16]; rfl) | (rw [s7]; rfl))) (by first | rfl | (show (!(ze _ _ _).isEmpty) = _; rw [s80]; rfl)) (by first | rfl | (show (!(ze _ _ _).isEmpty) = _; first | (rw [s120]; rfl) | (rw [s5]; rfl))) (by first | exact hc1 | rfl) (by first | exact he1 | rfl)) (by first | rfl | decide | (rw [show thN (fun k => List.contains [7, 8] k) 12 = 384 by decide]; unfold z8; dsimp only; simp only [Int.reduceEq, ↓reduceIte, zk]; rw [if_pos (by omega)]; rfl) | (rw [show thN (fun k => List.contains [8] k) 12 = 256 by decide]; unfold z8; simp)) (by dsimp only; omega) (by first | exact .inl z9a | exact .inr hn) (by dsimp only; omega) (by dsimp only; omega) (by first | exact Nat.zero_le _ | (show (ze _ _ _).length ≤ _; rw [zk]; omega)) (by first | exact Nat.zero_le _ | (show (ze _ _ _).length ≤ _; rw [zk]; omega)) (by first | exact Nat.zero_le _ | (show (ze _ _ _).length ≤ _; rw [zk]; omega)) (by first | exact Nat.zero_le _ | (show (ze _ _ _).length ≤ _; rw [zk]; omega)) (by first | exact Nat.zero_le _ | (show (ze _ _ _).length ≤ _; rw [zk]; omega)) (by dsimp only; omega) (by dsimp only; omega)
  rw [if_neg k7]
  by_cases k8 : kind % 12 = 8
  · rw [if_pos k8]
    exact key [8] _ (zmb rfl (by first | exact hp1 | rfl) (by first | rfl | (show (!(sBy (nmB s)).isEmpty) = _; rw [hne]; rfl)) (by first | rfl | (show (!decide (_ = 0)) = _; first | (rw [hA0]; rfl) | (rw [hC0]; rfl))) (by first | rfl | (show (!decide (_ = 0)) = _; first | (rw [hA0]; rfl) | (rw [hC0]; rfl))) (by first | rfl | (show (!(ze _ _ _).isEmpty) = _; rw [s16]; rfl)) (by first | rfl | (show (!(ze _ _ _).isEmpty) = _; rw [s48]; rfl)) (by first | rfl | (show (!(ze _ _ _).isEmpty) = _; first | (rw [s16]; rfl) | (rw [s7]; rfl))) (by first | rfl | (show (!(ze _ _ _).isEmpty) = _; rw [s80]; rfl)) (by first | rfl | (show (!(ze _ _ _).isEmpty) = _; first | (rw [s120]; rfl) | (rw [s5]; rfl))) (by first | exact hc1 | rfl) (by first | exact he1 | rfl)) (by first | rfl | decide | (rw [show thN (fun k => List.contains [7, 8] k) 12 = 384 by decide]; unfold z8; dsimp only; simp only [Int.reduceEq, ↓reduceIte, zk]; rw [if_pos (by omega)]; rfl) | (rw [show thN (fun k => List.contains [8] k) 12 = 256 by decide]; unfold z8; simp)) (by dsimp only; omega) (by first | exact .inl z9a | exact .inr hn) (by dsimp only; omega) (by dsimp only; omega) (by first | exact Nat.zero_le _ | (show (ze _ _ _).length ≤ _; rw [zk]; omega)) (by first | exact Nat.zero_le _ | (show (ze _ _ _).length ≤ _; rw [zk]; omega)) (by first | exact Nat.zero_le _ | (show (ze _ _ _).length ≤ _; rw [zk]; omega)) (by first | exact Nat.zero_le _ | (show (ze _ _ _).length ≤ _; rw [zk]; omega)) (by first | exact Nat.zero_le _ | (show (ze _ _ _).length ≤ _; rw [zk]; omega)) (by dsimp only; omega) (by dsimp only; omega)
  rw [if_neg k8]
  by_cases k9 : kind % 12 = 9
  · rw [if_pos k9]
    exact key [8] _ (zmb rfl (by first | exact hp1 | rfl) (by first | rfl | (show (!(sBy (nmB s)).isEmpty) = _; rw [hne]; rfl)) (by first | rfl | (show (!decide (_ = 0)) = _; first | (rw [hA0]; rfl) | (rw [hC0]; rfl))) (by first | rfl | (show (!decide (_ = 0)) = _; first | (rw [hA0]; rfl) | (rw [hC0]; rfl))) (by first | rfl | (show (!(ze _ _ _).isEmpty) = _; rw [s16]; rfl)) (by first | rfl | (show (!(ze _ _ _).isEmpty) = _; rw [s48]; rfl)) (by first | rfl | (show (!(ze _ _ _).isEmpty) = _; first | (rw [s16]; rfl) | (rw [s7]; rfl))) (by first | rfl | (show (!(ze _ _ _).isEmpty) = _; rw [s80]; rfl)) (by first | rfl | (show (!(ze _ _ _).isEmpty) = _; first | (rw [s120]; rfl) | (rw [s5]; rfl))) (by first | exact hc1 | rfl) (by first | exact he1 | rfl)) (by first | rfl | decide | (rw [show thN (fun k => List.contains [7, 8] k) 12 = 384 by decide]; unfold z8; dsimp only; simp only [Int.reduceEq, ↓reduceIte, zk]; rw [if_pos (by omega)]; rfl) | (rw [show thN (fun k => List.contains [8] k) 12 = 256 by decide]; unfold z8; simp)) (by dsimp only; omega) (by first | exact .inl z9a | exact .inr hn) (by dsimp only; omega) (by dsimp only; omega) (by first | exact Nat.zero_le _ | (show (ze _ _ _).length ≤ _; rw [zk]; omega)) (by first | exact Nat.zero_le _ | (show (ze _ _ _).length ≤ _; rw [zk]; omega)) (by first | exact Nat.zero_le _ | (show (ze _ _ _).length ≤ _; rw [zk]; omega)) (by first | exact Nat.zero_le _ | (show (ze _ _ _).length ≤ _; rw [zk]; omega)) (by first | exact Nat.zero_le _ | (show (ze _ _ _).length ≤ _; rw [zk]; omega)) (by dsimp only; omega) (by dsimp only; omega)
  rw [if_neg k9]
  by_cases k10 : kind % 12 = 10
  · rw [if_pos k10]
    exact key [1, 8, 9] _ (zmb rfl (by first | exact hp1 | rfl) (by first | rfl | (show (!(sBy (nmB s)).isEmpty) = _; rw [hne]; rfl)) (by first | rfl | (show (!decide (_ = 0)) = _; first | (rw [hA0]; rfl) | (rw [hC0]; rfl))) (by first | rfl | (show (!decide (_ = 0)) = _; first | (rw [hA0]; rfl) | (rw [hC0]; rfl))) (by first | rfl | (show (!(ze _ _ _).isEmpty) = _; rw [s16]; rfl)) (by first | rfl | (show (!(ze _ _ _).isEmpty) = _; rw [s48]; rfl)) (by first | rfl | (show (!(ze _ _ _).isEmpty) = _; first | (rw [s16]; rfl) | (rw [s7]; rfl))) (by first | rfl | (show (!(ze _ _ _).isEmpty) = _; rw [s80]; rfl)) (by first | rfl | (show (!(ze _ _ _).isEmpty) = _; first | (rw [s120]; rfl) | (rw [s5]; rfl))) (by first | exact hc1 | rfl) (by first | exact he1 | rfl)) (by first | rfl | decide | (rw [show thN (fun k => List.contains [7, 8] k) 12 = 384 by decide]; unfold z8; dsimp only; simp only [Int.reduceEq, ↓reduceIte, zk]; rw [if_pos (by omega)]; rfl) | (rw [show thN (fun k => List.contains [8] k) 12 = 256 by decide]; unfold z8; simp)) (by dsimp only; omega) (by first | exact .inl z9a | exact .inr hn) (by dsimp only; omega) (by dsimp only; omega) (by first | exact Nat.zero_le _ | (show (ze _ _ _).length ≤ _; rw [zk]; omega)) (by first | exact Nat.zero_le _ | (show (ze _ _ _).length ≤ _; rw [zk]; omega)) (by first | exact Nat.zero_le _ | (show (ze _ _ _).length ≤ _; rw [zk]; omega)) (by first | exact Nat.zero_le _ | (show (ze _ _ _).length ≤ _; rw [zk]; omega)) (by first | exact Nat.zero_le _ | (show (ze _ _ _).length ≤ _; rw [zk]; omega)) (by dsimp only; omega) (by dsimp only; omega)
  rw [if_neg k10]
  exact key [8, 10] _ (zmb rfl (by first | exact hp1 | rfl) (by first | rfl | (show (!(sBy (nmB s)).isEmpty) = _; rw [hne]; rfl)) (by first | rfl | (show (!decide (_ = 0)) = _; first | (rw [hA0]; rfl) | (rw [hC0]; rfl))) (by first | rfl | (show (!decide (_ = 0)) = _; first | (rw [hA0]; rfl) | (rw [hC0]; rfl))) (by first | rfl | (show (!(ze _ _ _).isEmpty) = _; rw [s16]; rfl)) (by first | rfl | (show (!(ze _ _ _).isEmpty) = _; rw [s48]; rfl)) (by first | rfl | (show (!(ze _ _ _).isEmpty) = _; first | (rw [s16]; rfl) | (rw [s7]; rfl))) (by first | rfl | (show (!(ze _ _ _).isEmpty) = _; rw [s80]; rfl)) (by first | rfl | (show (!(ze _ _ _).isEmpty) = _; first | (rw [s120]; rfl) | (rw [s5]; rfl))) (by first | exact hc1 | rfl) (by first | exact he1 | rfl)) (by first | rfl | decide | (rw [show thN (fun k => List.contains [7, 8] k) 12 = 384 by decide]; unfold z8; dsimp only; simp only [Int.reduceEq, ↓reduceIte, zk]; rw [if_pos (by omega)]; rfl) | (rw [show thN (fun k => List.contains [8] k) 12 = 256 by decide]; unfold z8; simp)) (by dsimp only; omega) (by first | exact .inl z9a | exact .inr hn) (by dsimp only; omega) (by dsimp only; omega) (by first | exact Nat.zero_le _ | (show (ze _ _ _).length ≤ _; rw [zk]; omega)) (by first | exact Nat.zero_le _ | (show (ze _ _ _).length ≤ _; rw [zk]; omega)) (by first | exact Nat.zero_le _ | (show (ze _ _ _).length ≤ _; rw [zk]; omega)) (by first | exact Nat.zero_le _ | (show (ze _ _ _).length ≤ _; rw [zk]; omega)) (by first | exact Nat.zero_le _ | (show (ze _ _ _).length ≤ _; rw [zk]; omega)) (by dsimp only; omega) (by dsimp only; omega)
theorem mkM_ok (kind n : Int) (s : ByteArray) (b : List UInt8) : MsgOk (mkM kind n s b) ∧ (mkM kind n s b).s.size ≤ 1000 := by
  have h2 := Int.emod_two_eq n
  have hA := kn n (show (0 : Int) < 4294967295 by decide)
  have hC := kn (n.tdiv 3) (show (0 : Int) < 70000 by decide)
  have h11 := Int.emod_nonneg n (show (11 : Int) ≠ 0 by decide)
  have h11' := Int.emod_lt_of_pos n (show (0 : Int) < 11 by decide)
  have h40 := Int.emod_nonneg n (show (1099511627776 : Int) ≠ 0 by decide)
  have h40' := Int.emod_lt_of_pos n (show (0 : Int) < 1099511627776 by decide)
  have hs := nmB_size s
  have e1 : ("".toUTF8).size ≤ 1000000 := by decide
  have e2 : ("".toUTF8).size ≤ 1000 := by decide
  unfold mkM
  by_cases k0 : kind % 12 = 0
  · rw [if_pos k0]
    by_cases q : n % 2 = 0
    · rw [if_pos q]; exact ⟨⟨(by dsimp only; omega), (by dsimp only; omega), (by dsimp only; omega), (by dsimp only; omega), (by dsimp only; first | exact e1 | omega), Nat.lt_trans (m := 4294967296) (by dsimp only; omega) (by decide), Nat.lt_trans (m := 4294967296) (by dsimp only; omega) (by decide)⟩, (by dsimp only; first | exact e2 | omega)⟩
    · rw [if_neg q]; exact ⟨⟨(by dsimp only; omega), (by dsimp only; omega), (by dsimp only; omega), (by dsimp only; omega), (by dsimp only; first | exact e1 | omega), Nat.lt_trans (m := 4294967296) (by dsimp only; omega) (by decide), Nat.lt_trans (m := 4294967296) (by dsimp only; omega) (by decide)⟩, (by dsimp only; first | exact e2 | omega)⟩
  rw [if_neg k0]
  by_cases k1 : kind % 12 = 1
  · rw [if_pos k1]
    by_cases q : n % 2 = 0
    · rw [if_pos q]; exact ⟨⟨(by dsimp only; omega), (by dsimp only; omega), (by dsimp only; omega), (by dsimp only; omega), (by dsimp only; first | exact e1 | omega), Nat.lt_trans (m := 4294967296) (by dsimp only; omega) (by decide), Nat.lt_trans (m := 4294967296) (by dsimp only; omega) (by decide)⟩, (by dsimp only; first | exact e2 | omega)⟩
    · rw [if_neg q]; exact ⟨⟨(by dsimp only; omega), (by dsimp only; omega), (by dsimp only; omega), (by dsimp only; omega), (by dsimp only; first | exact e1 | omega), Nat.lt_trans (m := 4294967296) (by dsimp only; omega) (by decide), Nat.lt_trans (m := 4294967296) (by dsimp only; omega) (by decide)⟩, (by dsimp only; first | exact e2 | omega)⟩
  rw [if_neg k1]
  by_cases k2 : kind % 12 = 2
  · rw [if_pos k2]
    exact ⟨⟨(by dsimp only; omega), (by dsimp only; omega), (by dsimp only; omega), (by dsimp only; omega), (by dsimp only; first | exact e1 | omega), Nat.lt_trans (m := 4294967296) (by dsimp only; omega) (by decide), Nat.lt_trans (m := 4294967296) (by dsimp only; omega) (by decide)⟩, (by dsimp only; first | exact e2 | omega)⟩
  rw [if_neg k2]
  by_cases k3 : kind % 12 = 3
  · rw [if_pos k3]
    by_cases q : n.tdiv 2 % 2 = 0
    · rw [if_pos q]; exact ⟨⟨(by dsimp only; omega), (by dsimp only; omega), (by dsimp only; omega), (by dsimp only; omega), (by dsimp only; first | exact e1 | omega), Nat.lt_trans (m := 4294967296) (by dsimp only; omega) (by decide), Nat.lt_trans (m := 4294967296) (by dsimp only; omega) (by decide)⟩, (by dsimp only; first | exact e2 | omega)⟩
    · rw [if_neg q]; exact ⟨⟨(by dsimp only; omega), (by dsimp only; omega), (by dsimp only; omega), (by dsimp only; omega), (by dsimp only; first | exact e1 | omega), Nat.lt_trans (m := 4294967296) (by dsimp only; omega) (by decide), Nat.lt_trans (m := 4294967296) (by dsimp only; omega) (by decide)⟩, (by dsimp only; first | exact e2 | omega)⟩
  rw [if_neg k3]
  by_cases k4 : kind % 12 = 4
  · rw [if_pos k4]
    exact ⟨⟨(by dsimp only; omega), (by dsimp only; omega), (by dsimp only; omega), (by dsimp only; omega), (by dsimp only; first | exact e1 | omega), Nat.lt_trans (m := 4294967296) (by dsimp only; omega) (by decide), Nat.lt_trans (m := 4294967296) (by dsimp only; omega) (by decide)⟩, (by dsimp only; first | exact e2 | omega)⟩
  rw [if_neg k4]
  by_cases k5 : kind % 12 = 5
  · rw [if_pos k5]
    exact ⟨⟨(by dsimp only; omega), (by dsimp only; omega), (by dsimp only; omega), (by dsimp only; omega), (by dsimp only; first | exact e1 | omega), Nat.lt_trans (m := 4294967296) (by dsimp only; omega) (by decide), Nat.lt_trans (m := 4294967296) (by dsimp only; omega) (by decide)⟩, (by dsimp only; first | exact e2 | omega)⟩
  rw [if_neg k5]
  by_cases k6 : kind % 12 = 6
  · rw [if_pos k6]
    exact ⟨⟨(by dsimp only; omega), (by dsimp only; omega), (by dsimp only; omega), (by dsimp only; omega), (by dsimp only; first | exact e1 | omega), Nat.lt_trans (m := 4294967296) (by dsimp only; omega) (by decide), Nat.lt_trans (m := 4294967296) (by dsimp only; omega) (by decide)⟩, (by dsimp only; first | exact e2 | omega)⟩
  rw [if_neg k6]
  by_cases k7 : kind % 12 = 7
  · rw [if_pos k7]
    exact ⟨⟨(by dsimp only; omega), (by dsimp only; omega), (by dsimp only; omega), (by dsimp only; omega), (by dsimp only; first | exact e1 | omega), Nat.lt_trans (m := 4294967296) (by dsimp only; omega) (by decide), Nat.lt_trans (m := 4294967296) (by dsimp only; omega) (by decide)⟩, (by dsimp only; first | exact e2 | omega)⟩
  rw [if_neg k7]
  by_cases k8 : kind % 12 = 8
  · rw [if_pos k8]
    exact ⟨⟨(by dsimp only; omega), (by dsimp only; omega), (by dsimp only; omega), (by dsimp only; omega), (by dsimp only; first | exact e1 | omega), Nat.lt_trans (m := 4294967296) (by dsimp only; omega) (by decide), Nat.lt_trans (m := 4294967296) (by dsimp only; omega) (by decide)⟩, (by dsimp only; first | exact e2 | omega)⟩
  rw [if_neg k8]
  by_cases k9 : kind % 12 = 9
  · rw [if_pos k9]
    exact ⟨⟨(by dsimp only; omega), (by dsimp only; omega), (by dsimp only; omega), (by dsimp only; omega), (by dsimp only; first | exact e1 | omega), Nat.lt_trans (m := 4294967296) (by dsimp only; omega) (by decide), Nat.lt_trans (m := 4294967296) (by dsimp only; omega) (by decide)⟩, (by dsimp only; first | exact e2 | omega)⟩
  rw [if_neg k9]
  by_cases k10 : kind % 12 = 10
  · rw [if_pos k10]
    exact ⟨⟨(by dsimp only; omega), (by dsimp only; omega), (by dsimp only; omega), (by dsimp only; omega), (by dsimp only; first | exact e1 | omega), Nat.lt_trans (m := 4294967296) (by dsimp only; omega) (by decide), Nat.lt_trans (m := 4294967296) (by dsimp only; omega) (by decide)⟩, (by dsimp only; first | exact e2 | omega)⟩
  rw [if_neg k10]
  exact ⟨⟨(by dsimp only; omega), (by dsimp only; omega), (by dsimp only; omega), (by dsimp only; omega), (by dsimp only; first | exact e1 | omega), Nat.lt_trans (m := 4294967296) (by dsimp only; omega) (by decide), Nat.lt_trans (m := 4294967296) (by dsimp only; omega) (by decide)⟩, (by dsimp only; first | exact e2 | omega)⟩
theorem mkM_kind (kind n : Int) (s : ByteArray) (b : List UInt8) : (mkM kind n s b).k = 1 + kind % 12 := by
  have h1 := Int.emod_nonneg kind (show (12 : Int) ≠ 0 by decide)
  have h2 := Int.emod_lt_of_pos kind (show (0 : Int) < 12 by decide)
  unfold mkM
  by_cases k0 : kind % 12 = 0
  · rw [if_pos k0]
    by_cases q : n % 2 = 0
    · rw [if_pos q]; dsimp only; omega
    · rw [if_neg q]; dsimp only; omega
  rw [if_neg k0]
  by_cases k1 : kind % 12 = 1
  · rw [if_pos k1]
    by_cases q : n % 2 = 0
    · rw [if_pos q]; dsimp only; omega
    · rw [if_neg q]; dsimp only; omega
  rw [if_neg k1]
  by_cases k2 : kind % 12 = 2
  · rw [if_pos k2]
    dsimp only; omega
  rw [if_neg k2]
  by_cases k3 : kind % 12 = 3
  · rw [if_pos k3]
    by_cases q : n.tdiv 2 % 2 = 0
    · rw [if_pos q]; dsimp only; omega
    · rw [if_neg q]; dsimp only; omega
  rw [if_neg k3]
  by_cases k4 : kind % 12 = 4
  · rw [if_pos k4]
    dsimp only; omega
  rw [if_neg k4]
  by_cases k5 : kind % 12 = 5
  · rw [if_pos k5]
    dsimp only; omega
  rw [if_neg k5]
  by_cases k6 : kind % 12 = 6
  · rw [if_pos k6]
    dsimp only; omega
  rw [if_neg k6]
  by_cases k7 : kind % 12 = 7
  · rw [if_pos k7]
    dsimp only; omega
  rw [if_neg k7]
  by_cases k8 : kind % 12 = 8
  · rw [if_pos k8]
    dsimp only; omega
  rw [if_neg k8]
  by_cases k9 : kind % 12 = 9
  · rw [if_pos k9]
    dsimp only; omega
  rw [if_neg k9]
  by_cases k10 : kind % 12 = 10
  · rw [if_pos k10]
    dsimp only; omega
  rw [if_neg k10]
  dsimp only; omega
end Go.Proofs.Ytlbkogdmojlpmaa
