/- What WireBad stands on, part 13. -/
import Derived.Test.YtlbkogdmojlpmaaWireBadP1
import Derived.Test.YtlbkogdmojlpmaaWireBadP2
import Derived.Test.YtlbkogdmojlpmaaWireBadP3
import Derived.Test.YtlbkogdmojlpmaaWireBadP4
import Derived.Test.YtlbkogdmojlpmaaWireBadP5
import Derived.Test.YtlbkogdmojlpmaaWireBadP6
import Derived.Test.YtlbkogdmojlpmaaWireBadP7
import Derived.Test.YtlbkogdmojlpmaaWireBadP8
import Derived.Test.YtlbkogdmojlpmaaWireBadP9
import Derived.Test.YtlbkogdmojlpmaaWireBadP10
import Derived.Test.YtlbkogdmojlpmaaWireBadP11
import Derived.Test.YtlbkogdmojlpmaaWireBadP12
set_option maxRecDepth 100000
set_option maxHeartbeats 8000000
set_option linter.unusedVariables false
set_option linter.unusedSimpArgs false
namespace Go.Proofs.Ytlbkogdmojlpmaa
open Go.ChangeShapes Go.WideShapes Go.ChangeAt Go.RowKit
theorem enc_is (m : MsgN) (V : MsgV) (ho : MsgOk m) (hs : m.s.size ≤ 1000) (ok : Bool) (l : List UInt8) (h1 : zua m = ok) (h2 : encL m = l) (w : World) (hm : MsgIs w m V) : Calls Try.prog 17 #[.agg (msgA m V)] w fun e w' => ∃ t, e = .returned t ∧ ∃ v, t = .tuple #[v, .bool ok] ∧ Byt w' w.heap.size v l ∧ Below w.heap.size w w' := by
  subst h1 h2; exact encode_ex m V ho hs w hm
theorem renc_is (m : MsgN) (V : MsgV) (ho : MsgOk m) (hs : m.s.size ≤ 1000) (ok : Bool) (l : List UInt8) (h1 : zua m = ok) (h2 : encL m = l) (w : World) (hm : MsgIs w m V) : Calls Try.prog 18 #[.agg (msgA m V)] w fun e w' => ∃ t, e = .returned t ∧ ∃ v, t = .tuple #[v, .bool ok] ∧ Byt w' w.heap.size v l ∧ Below w.heap.size w w' := by
  subst h1 h2; exact rencode_ex m V ho hs w hm
theorem rdec_is (b : List UInt8) (bv : Value) (hl : b.length ≤ 100000) (ok : Bool) (m : MsgN) (h1 : z0a b = ok) (h2 : decR b = m) (w : World) (hb : IsB w b bv) : Calls Try.prog 23 #[bv] w fun e w' => ∃ t, e = .returned t ∧ ∃ V, t = .tuple #[.agg (msgA m V), .bool ok] ∧ MsgIs w' m V ∧ (∀ q, z5a V q → w.heap.size ≤ q) ∧ Below w.heap.size w w' := by
  subst h1 h2; exact rdecode_ex b bv hl w hb
theorem rec_is (r : RecN) (V : RecV) (ho : RecOk r) (ok : Bool) (l : List UInt8) (h1 : zfb r = ok) (h2 : recE r = l) (w : World) (hm : RecIs w r V) : Calls Try.prog 35 #[.agg (recA r V)] w fun e w' => ∃ t, e = .returned t ∧ ∃ v, t = .tuple #[v, .bool ok] ∧ Byt w' w.heap.size v l ∧ Below w.heap.size w w' := by
  subst h1 h2; exact record_ex r V ho w hm
theorem rd_is (b : List UInt8) (bv : Value) (hl : b.length ≤ 100000) (ok : Bool) (r : RecN) (h1 : rdOk b = ok) (h2 : rdR b = r) (w : World) (hb : IsB w b bv) : Calls Try.prog 37 #[bv] w fun e w' => ∃ t, e = .returned t ∧ ∃ V, t = .tuple #[.agg (recA r V), .bool ok] ∧ RecIs w' r V ∧ (∀ q, bfp V.v2 q ∨ bfp V.v5 q → w.heap.size ≤ q) ∧ Below w.heap.size w w' := by
  subst h1 h2; exact (readrec_any b bv hl w hb).mono fun e w' ⟨V, k1, k2, k3, k4⟩ => ⟨_, k1, V, rfl, k2, k3, k4⟩
theorem make_is (kind n : Int) (s : ByteArray) (b : List UInt8) (v : Value) (hkd : -9223372036854775808 ≤ kind ∧ kind < 9223372036854775808) (hN : -9223372036854775808 ≤ n ∧ n < 9223372036854775808) (hs : s.size ≤ 40) (m : MsgN) (hm : mkM kind n s b = m) (w : World) (hv : IsB w b v) : Calls Try.prog 16 #[.int .i64 kind, .int .i64 n, .string s, v] w fun e w' => ∃ t, e = .returned t ∧ ∃ V, t = .agg (msgA m V) ∧ MsgIs w' m V ∧ (∀ g, z5a V g → w.heap.size ≤ g) ∧ Below w.heap.size w w' := by
  subst hm; exact make_msg kind n s b v hkd hN hs w hv
section
variable {G : Option Nat} {w0 w : World} {R : List (Nat × Res)}
theorem Mx.nilT (M : Mx G w0 w R) (i : Nat) : Mx G w0 w ((i, tlR [] (zN)) :: R) :=
  M.cons i _ (show Tl w (zN) [] from .inl ⟨rfl, rfl⟩) tlR_dep (fun g hg => by cases hg) (fun _ g hg => by cases hg) fun _ _ _ _ _ g hg => by cases hg
theorem Mx.newRec {w' : World} (M : Mx G w0 w R) (h : Below w.heap.size w w') {r : RecN} {V : RecV} (hm : RecIs w' r V) (hlo : ∀ q, bfp V.v2 q ∨ bfp V.v5 q → w.heap.size ≤ q) (a b : Nat) : Mx G w0 w' ((b, bytR r.l5 V.v5) :: (a, bytR r.l2 V.v2) :: R) := by
  obtain ⟨M1, n1⟩ := (M.step h).roB2 (N := w.heap.size) (fun k s e _ g hg => M.lt k s e g hg) a hm.h2 (fun g hg => hlo g (.inl hg))
  exact (M1.roB2 n1 b hm.h5 (fun g hg => hlo g (.inr hg))).1
theorem next_is (M0 : Mx G w0 w R) (k q g : Nat) (l : List UInt8) (u : Value) (n : Int) (b : Bool) (hk : look R k = some (blkR g 94 #[u, .int .i64 n, .bool b])) (hq : look R q = some (tlR l u)) (hne : k ≠ q) (hl : l.length ≤ 1000000) (k5 k6 k7 k8 k9 : Nat) (m : MsgN) (ok bad : Bool) (l2 : List UInt8) (h1 : nxM l = m) (h2 : nxOk l = ok) (h3 : (b || nxBad l) = bad) (h4 : nxL l = l2) :
    Calls Try.prog 30 #[.pointer (some ⟨g, 0, none⟩)] w fun e w' => ∃ t, e = .returned t ∧ ∃ u' V, Mx G w0 w' ((k9, bytR m.l9 V.v9) :: (k8, bytR m.l8 V.v8) :: (k7, bytR m.l7 V.v7) :: (k6, bytR m.l6 V.v6) :: (k5, bytR m.l5 V.v5) :: (k, blkR g 94 #[u', .int .i64 n, .bool bad]) :: (q, tlR l2 u') :: R) ∧ t = .tuple #[.agg (msgA m V), .bool ok] := by
  subst h1 h2 h3 h4; exact next_any M0 k q g l u n b hk hq hne hl k5 k6 k7 k8 k9
end
end Go.Proofs.Ytlbkogdmojlpmaa
namespace Go.Proofs.Ytlbkogdmojlpmaa
open Go.ChangeShapes Go.WideShapes Go.ChangeAt Go.RowKit
def m7 : MsgN := ⟨7, 0, 0, 0, "".toUTF8, 0, 0, [], [], [], [], []⟩
def rA : RecN := ⟨1, ⟨#[97]⟩, [], 0, 0, [], 0, 0, 0⟩
theorem m7_ok : MsgOk m7 := ⟨by decide, by decide, by decide, by decide, by decide, by decide, by decide⟩
theorem rA_ok : RecOk rA := ⟨by decide, by decide, by decide, by decide, by decide, by decide, by decide⟩
theorem m7_right : zva m7 = true := by
  unfold zva
  rw [show wantOk m7.k m7.p = true from rfl, show decide (hasB m7 = wantN m7.k m7.p) = true from by decide]
  unfold zba
  rw [show nilB m7.s = true from decide_eq_true rfl, show topI m7.a 8 = 0 from topI_none 8, show topI m7.b 8 = 0 from topI_none 8]
  simp [m7]
theorem enc7 : zua m7 = true ∧ encL m7 = [0, 1, 7] := by
  have h : zua m7 = true := by
    unfold zua
    rw [m7_right]
    decide
  exact ⟨h, by rw [encL_ok h]; decide⟩
theorem rA_name : NameOk rA.s := by
  refine ⟨by decide, by decide, fun i h => ?_⟩
  have : i = 0 := by have h1 : rA.s.size = 1 := rfl; omega
  subst this
  exact (show (33 : Int) ≤ ((97 : UInt8).toNat : Int) ∧ ((97 : UInt8).toNat : Int) ≤ 126 by decide)
theorem rA_keep : zfb rA = true := by
  unfold zfb
  rw [show nameB rA.s = true from @decide_eq_true _ (Classical.propDecidable _) rA_name, show topI rA.a 8 = 0 from topI_none 8, show topI rA.b 8 = 0 from topI_none 8]
  decide
theorem known_1 : wrN true 0 (([0, 1, 7] : List UInt8).take 1) = 1 ∧ nxM (([0, 1, 7] : List UInt8).take 1) = mZero ∧ nxOk (([0, 1, 7] : List UInt8).take 1) = false ∧ (false || nxBad (([0, 1, 7] : List UInt8).take 1)) = false ∧ nxL (([0, 1, 7] : List UInt8).take 1) = ([0, 1, 7] : List UInt8).take 1 := by
  obtain ⟨h1, h2⟩ := nx_short (l := ([0, 1, 7] : List UInt8).take 1) (by decide)
  refine ⟨rfl, by rw [nxM, h1]; rfl, h1, by rw [h2]; rfl, by rw [nxL, h1, h2]; rfl⟩
theorem known_2 : wrL true (([0, 1, 7] : List UInt8).take 1) (([0, 1, 7] : List UInt8).drop 1) = [0, 1, 7] ∧ wrN true 1 (([0, 1, 7] : List UInt8).drop 1) = 3 ∧ nxM ([0, 1, 7] : List UInt8) = m7 ∧ nxOk ([0, 1, 7] : List UInt8) = true ∧ (false || nxBad ([0, 1, 7] : List UInt8)) = false ∧ nxL ([0, 1, 7] : List UInt8) = [] := by
  obtain ⟨e1, e2⟩ := enc7
  obtain ⟨d1, d2⟩ := decOk_enc m7_ok e1
  rw [e2] at d1 d2
  have hF : nxF ([0, 1, 7] : List UInt8) = 1 := rfl
  have hT : ([0, 1, 7] : List UInt8).take (2 + nxF ([0, 1, 7] : List UInt8)) = [0, 1, 7] := rfl
  obtain ⟨h1, h2⟩ := nx_whole (l := ([0, 1, 7] : List UInt8)) (by decide) (by rw [hF]; decide) (by rw [hF]; decide)
  rw [hT, d1] at h1 h2
  exact ⟨rfl, rfl, by rw [nxM, h1, hT, d2]; rfl, h1, by rw [h2]; rfl, by rw [nxL, h1]; rfl⟩
theorem y_eqPN {a : Act} {w : World} {o : Oper} (ty tz : TypeId) (hu : Try.prog.underlying ty = some (.pointer (Try.prog.pointee ty))) (hgt : Try.prog.eqGuardType Try.prog.depth ty = false) (x : Operand) {p : Addr} (ho : o.op = .binOp .eql ty x (.const (.pointer none)) tz) (hx : a.eval x = .pointer (some p)) : (execOp a.eval o).run Try.prog w = .ok (.value (.bool false)) w :=
  y_eqV ty tz x _ ho hx (v := .pointer none) rfl (by simp [eqGuard, go_sem, hgt]) (by rw [run_eql_pointer_nil (h := hu)]; rfl)
theorem lknown_any  (w : World) :
  Calls Try.prog 15 #[] w fun e w' => e = .returned (.bool true) ∧ Below w.heap.size w w' := by
 obtain ⟨L, hL⟩ : ∃ L, L = ([0, 1, 7] : List UInt8) := ⟨_, rfl⟩
 obtain ⟨RB, hRB⟩ : ∃ l, recE rA = l := ⟨_, rfl⟩
 have hRl : RB.length ≤ 100000 := by rw [← hRB, show recE rA = recL rA from if_pos rA_keep]; decide
 have k1 := known_1
 have k2 := known_2
 have hL3 : L.length = 3 := by rw [hL]; rfl
 rw [← hL] at k1 k2
 obtain ⟨e1, e2⟩ := enc7
 rw [← hL] at e2
 obtain ⟨y1, y2⟩ := rd_rec rA_ok rA_keep
 rw [hRB] at y1 y2
 refine zi (args := []) 100 Try.func15 rfl rfl rfl ?_
 intro fa F
 have M := Mx.start w
 refine zT fun _ hK21 => ?_
 refine rm rfl F fun _ F22 => ?_
 refine hK21 _ _ (zS fun _ hK23 => ?_)
 refine zR ?_
 refine rn rfl rfl F22 rfl (.agg (msgA ⟨7, 0, 0, 0, "".toUTF8, 0, 0, [], [], [], [], []⟩ ⟨zN, zN, zN, zN, zN⟩)) (by unfold execOp; simp only [List.map_toArray, List.map_cons, List.map_nil, ]; kernel_rfl) fun _ F24 => ?_
 refine zd (za rfl) rfl F24 rfl rfl (enters_of Try.func17 (by kernel_rfl) rfl) #[.agg (msgA ⟨7, 0, 0, 0, "".toUTF8, 0, 0, [], [], [], [], []⟩ ⟨zN, zN, zN, zN, zN⟩)] (zl (F24.get rfl)) (enc_is m7 vZero m7_ok (by decide) true L e1 e2 w ⟨zc _, zc _, zc _, zc _, zc _⟩) ?_
 rintro _ w25 a25 ⟨v25, rfl, hv25, b25⟩ F25
 have M25 := M.newO b25 0 hv25
 clear M b25 hv25
 obtain ⟨A25, c25, rfl⟩ := (M25.isO (k := 0) rfl).shape
 refine exS 5 [(0, .bool false), (1, .slice A25 (L).length c25), (2, .bool true)] [] dnil [] F25 (by kernel_rfl) fun _ F26 => ?_
 refine hK23 _ _ (zS fun _ hK27 => ?_)
 refine zR ?_
 refine zd (za rfl) rfl F26 rfl rfl (enters_of Try.func26 (by kernel_rfl) rfl) #[] (args0) (new_any w25) ?_
 rintro _ w28 a28 ⟨g28, rfl, hg28, hc28, b28⟩ F28
 have M28 := (M25.newb b28 1 hg28 hc28).nilT 2
 clear M25 b28 hg28 hc28
 refine rm rfl F28 fun _ F29 => ?_
 refine hK27 _ _ (zS fun _ hK30 => ?_)
 refine zT fun _ hK31 => ?_
 refine rm rfl F29 fun _ F32 => ?_
 refine rn rfl rfl F32 rfl (.bool false) (y_eqPN 46 _ Try.underlying46 (by kernel_rfl) _ rfl (F32.get rfl)) fun _ F33 => ?_
 refine hK31 _ _ (wp_cond_false (F33.get rfl) ?_)
 refine wp_skip ?_
 refine hK30 _ _ (zS fun _ hK34 => ?_)
 refine zR ?_
 refine rm rfl F33 fun _ F35 => ?_
 refine rm rfl F35 fun _ F36 => ?_
 refine rm rfl F36 fun _ F37 => ?_
 refine rn rfl rfl F37 rfl (.int .i64 3) (zca _ rfl (F37.get rfl) (M28.isO (k := 0) rfl) (by rw [hL3]; rfl)) fun _ F38 => ?_
 refine rn rfl rfl F38 rfl (.int .i64 1) (y_min _ _ rfl rfl (F38.get rfl) (by decide)) fun _ F39 => ?_
 refine zjb (za rfl) rfl F39 rfl (y_slTo _ _ rfl (F39.get rfl) (M28.isO (k := 0) rfl) (F39.get rfl) (j := 1) rfl (by omega)) ?_
 intro v40 a40 h40 F40
 have og41 := M28.owns (k := 0) rfl
 have M41 := M28.tame (k := 0) rfl
 clear M28
 have M40 := M41.partB 3 (k := 0) rfl h40.1 h40.2
 clear M41
 obtain ⟨A40, c40, rfl⟩ := (M40.isb (k := 3) rfl).shape
 refine zd (za rfl) rfl F40 rfl rfl (enters_of Try.func28 (by kernel_rfl) rfl) #[.pointer (some ⟨g28, 0, none⟩), .slice A40 ((L.take 1)).length c40] (zfa (F40.get rfl) (F40.get rfl)) (zfc M40 1 2 3 g28 [] (L.take 1) (zN) (.slice A40 ((L.take 1)).length c40) 0 false rfl rfl rfl (by decide) (by decide) (by simp only [List.length_nil, List.length_take]; omega) (by decide) true rfl) ?_
 rintro _ w42 a42 ⟨u42, N42, rfl⟩ F42
 rw [(show wrL true [] (L.take 1) = L.take 1 from rfl)] at N42
 rw [k1.1] at N42
 clear M40
 replace N42 : Mx _ _ _ ((1, blkR g28 94 #[u42, .int .i64 1, .bool false]) :: _) := N42
 refine hK34 _ _ (zS fun _ hK43 => ?_)
 refine zR ?_
 refine rm rfl F42 fun _ F44 => ?_
 refine zd (za rfl) rfl F44 rfl rfl (enters_of Try.func30 (by kernel_rfl) rfl) #[.pointer (some ⟨g28, 0, none⟩)] (zl (F44.get rfl)) (next_is N42 1 2 g28 (L.take 1) u42 1 false rfl rfl (by decide) (by rw [List.length_take]; omega) 4 5 6 7 8 mZero false false (L.take 1) k1.2.1 k1.2.2.1 k1.2.2.2.1 k1.2.2.2.2) ?_
 rintro _ w45 a45 ⟨u45, V45, N45, rfl⟩ F45
 clear N42
 refine exS 3 [(0, .bool false), (1, .slice A25 (L).length c25), (2, .bool true), (3, .pointer (some ⟨g28, 0, none⟩)), (30, .agg (msgA mZero V45)), (31, .bool false)] [] dnil [] F45 (by kernel_rfl) fun _ F46 => ?_
 refine zf (za rfl) rfl F46 rfl N45 9 (t := 29) (c := msgA ⟨0, 0, 0, 0, "".toUTF8, 0, 0, [], [], [], [], []⟩ ⟨zN, zN, zN, zN, zN⟩) (by unfold execOp; kernel_rfl) ?_
 intro g47 a47 w47 F47 M47
 clear F46 N45
 refine zo (za rfl) rfl F47 M47 (k := 9) rfl _ _ _ rfl (F47.get rfl) (F47.get rfl) (msgA mZero V45) (msgA mZero V45) rfl (Nat.le_of_ble_eq_true rfl) (zz (w := w47) ⟨(M47.isb (k := 4) rfl), (M47.isb (k := 5) rfl), (M47.isb (k := 6) rfl), (M47.isb (k := 7) rfl), (M47.isb (k := 8) rfl)⟩) (zu rfl) (by kernel_rfl) ?_
 intro w48 M48
 clear M47
 refine rm rfl F47 fun _ F49 => ?_
 refine hK43 _ _ (zS fun _ hK50 => ?_)
 refine zR ?_
 refine rm rfl F49 fun _ F51 => ?_
 refine rm rfl F51 fun _ F52 => ?_
 refine rm rfl F52 fun _ F53 => ?_
 refine rn rfl rfl F53 rfl (.int .i64 3) (zca _ rfl (F53.get rfl) (M48.isb (k := 0) rfl) (by rw [hL3]; rfl)) fun _ F54 => ?_
 refine rn rfl rfl F54 rfl (.int .i64 1) (y_min _ _ rfl rfl (F54.get rfl) (by decide)) fun _ F55 => ?_
 refine zjb (za rfl) rfl F55 rfl (y_slFrom _ _ rfl (F55.get rfl) (M48.isb (k := 0) rfl) (F55.get rfl) (i := 1) rfl (by omega)) ?_
 intro v56 a56 h56 F56
 have M56 := M48.partB 10 (k := 0) rfl h56.1 h56.2
 clear M48
 obtain ⟨A56, c56, rfl⟩ := (M56.isb (k := 10) rfl).shape
 refine zd (za rfl) rfl F56 rfl rfl (enters_of Try.func28 (by kernel_rfl) rfl) #[.pointer (some ⟨g28, 0, none⟩), .slice A56 ((L.drop 1)).length c56] (zfa (F56.get rfl) (F56.get rfl)) (zfc M56 1 2 10 g28 (L.take 1) (L.drop 1) u45 (.slice A56 ((L.drop 1)).length c56) 1 false rfl rfl rfl (by decide) (by decide) (by simp only [List.length_take, List.length_drop]; omega) (by decide) true (by decide)) ?_
 rintro _ w57 a57 ⟨u57, N57, rfl⟩ F57
 rw [k2.1] at N57
 rw [k2.2.1] at N57
 clear M56
 replace N57 : Mx _ _ _ ((1, blkR g28 94 #[u57, .int .i64 3, .bool false]) :: _) := N57
 refine hK50 _ _ (zS fun _ hK58 => ?_)
 refine zR ?_
 refine rm rfl F57 fun _ F59 => ?_
 refine zd (za rfl) rfl F59 rfl rfl (enters_of Try.func30 (by kernel_rfl) rfl) #[.pointer (some ⟨g28, 0, none⟩)] (zl (F59.get rfl)) (next_is N57 1 2 g28 L u57 3 false rfl rfl (by decide) (by omega) 11 12 13 14 15 m7 true false ([] : List UInt8) k2.2.2.1 k2.2.2.2.1 k2.2.2.2.2.1 k2.2.2.2.2.2) ?_
 rintro _ w60 a60 ⟨u60, V60, N60, rfl⟩ F60
 clear N57
 refine exA 3 [(39, .tuple #[.agg (msgA m7 V60), .bool true]), (42, .agg (msgA m7 V60)), (43, .bool true)] [] dnil [] F60 (by kernel_rfl) (by kernel_rfl) fun _ F61 => ?_
 refine zf (za rfl) rfl F61 rfl N60 16 (t := 29) (c := msgA ⟨0, 0, 0, 0, "".toUTF8, 0, 0, [], [], [], [], []⟩ ⟨zN, zN, zN, zN, zN⟩) (by unfold execOp; kernel_rfl) ?_
 intro g62 a62 w62 F62 M62
 clear F61 N60
 refine zo (za rfl) rfl F62 M62 (k := 16) rfl _ _ _ rfl (F62.get rfl) (F62.get rfl) (msgA m7 V60) (msgA m7 V60) rfl (Nat.le_of_ble_eq_true rfl) (zz (w := w62) ⟨(M62.isb (k := 11) rfl), (M62.isb (k := 12) rfl), (M62.isb (k := 13) rfl), (M62.isb (k := 14) rfl), (M62.isb (k := 15) rfl)⟩) (zu rfl) (by kernel_rfl) ?_
 intro w63 M63
 clear M62
 refine rm rfl F62 fun _ F64 => ?_
 refine hK58 _ _ (zS fun _ hK65 => ?_)
 refine zR ?_
 refine rn rfl rfl F64 rfl (.agg (recA ⟨1, ({ data := #[97] }), [], 0, 0, [], 0, 0, 0⟩ ⟨zN, zN⟩)) (by unfold execOp; simp only [List.map_toArray, List.map_cons, List.map_nil, ]; kernel_rfl) fun _ F66 => ?_
 refine zd (za rfl) rfl F66 rfl rfl (enters_of Try.func35 (by kernel_rfl) rfl) #[.agg (recA ⟨1, ({ data := #[97] }), [], 0, 0, [], 0, 0, 0⟩ ⟨zN, zN⟩)] (zl (F66.get rfl)) (rec_is rA rvZero rA_ok true RB rA_keep hRB w63 ⟨zc _, zc _⟩) ?_
 rintro _ w67 a67 ⟨v67, rfl, hv67, b67⟩ F67
 have M67 := M63.newO b67 17 hv67
 clear M63 b67 hv67
 obtain ⟨A67, c67, rfl⟩ := (M67.isO (k := 17) rfl).shape
 refine exA 5 [(44, .tuple #[.slice A67 (RB).length c67, .bool true]), (47, .slice A67 (RB).length c67), (48, .bool true), (8, .slice A67 (RB).length c67), (9, .bool true)] [] dnil [] F67 (by kernel_rfl) (by kernel_rfl) fun _ F68 => ?_
 refine hK65 _ _ (zS fun _ hK69 => ?_)
 refine zR ?_
 refine rm rfl F68 fun _ F70 => ?_
 refine zd (za rfl) rfl F70 rfl rfl (enters_of Try.func37 (by kernel_rfl) rfl) #[.slice A67 (RB).length c67] (zl (F70.get rfl)) (rd_is RB (.slice A67 (RB).length c67) hRl true rA y1 y2 w67 (M67.isO (k := 17) rfl)) ?_
 rintro _ w71 a71 ⟨V71, rfl, is71, lo71, b71⟩ F71
 have M71 := M67.newRec b71 is71 lo71 18 19
 clear M67 b71 lo71
 refine exA 3 [(49, .tuple #[.agg (recA rA V71), .bool true]), (52, .agg (recA rA V71)), (53, .bool true)] [] dnil [] F71 (by kernel_rfl) (by kernel_rfl) fun _ F72 => ?_
 refine zf (za rfl) rfl F72 rfl M71 20 (t := 54) (c := recA ⟨0, "".toUTF8, [], 0, 0, [], 0, 0, 0⟩ ⟨zN, zN⟩) (by unfold execOp; kernel_rfl) ?_
 intro g73 a73 w73 F73 M73
 clear F72 M71
 refine zo (za rfl) rfl F73 M73 (k := 20) rfl _ _ _ rfl (F73.get rfl) (F73.get rfl) (recA rA V71) (recA rA V71) rfl (Nat.le_of_ble_eq_true rfl) (recA_one (w := w73) ⟨(M73.isb (k := 18) rfl), (M73.isb (k := 19) rfl)⟩) (zu rfl) (by kernel_rfl) ?_
 intro w74 M74
 clear M73
 refine rm rfl F73 fun _ F75 => ?_
 refine hK69 _ _ (zS fun _ hK76 => ?_)
 refine zR ?_
 refine rm rfl F75 fun _ F77 => ?_
 refine rm rfl F77 fun _ F78 => ?_
 refine rm rfl F78 fun _ F79 => ?_
 refine zg (w' := w74) (zb rfl rfl rfl (F79.get rfl)) rfl F79 rfl (.int .i64 3) (zca _ rfl (F79.get rfl) (M74.isb (k := 0) rfl) (by rw [hL3]; rfl)) fun _ F80 => ?_
 refine exA 4 [(58, .bool true), (59, .bool true), (60, .bool true), (61, .slice A25 (L).length c25)] [] dnil [] F80 (by kernel_rfl) (by kernel_rfl) fun _ F81 => ?_
 refine zg (w' := w74) (zb rfl rfl rfl (F81.get rfl)) rfl F81 rfl ((ixV (.slice A25 (L).length c25) 1)) (z2b _ _ rfl (F81.get rfl) (M74.isb (k := 0) rfl) rfl rfl (by omega)) fun _ F82 => ?_
 refine zg (w' := w74) (zb rfl rfl rfl (F82.get rfl)) rfl F82 rfl (.int .u8 (((1 : UInt8).toNat : Nat) : Int)) (y_ldB _ rfl (F82.get rfl) (M74.isb (k := 0) rfl) (by rw [hL]; rfl) rfl) fun _ F83 => ?_
 refine zg (w' := w74) (zb rfl rfl rfl (F83.get rfl)) rfl F83 rfl (.bool true) (zq _ _ _ _ rfl (F83.get rfl) rfl Try.underlying5 (zma (by decide))) fun _ F84 => ?_
 refine exA 3 [(65, .bool true), (66, .bool true), (67, .slice A25 (L).length c25)] [] dnil [] F84 (by kernel_rfl) (by kernel_rfl) fun _ F85 => ?_
 refine zg (w' := w74) (zb rfl rfl rfl (F85.get rfl)) rfl F85 rfl ((ixV (.slice A25 (L).length c25) 2)) (z2b _ _ rfl (F85.get rfl) (M74.isb (k := 0) rfl) rfl rfl (by omega)) fun _ F86 => ?_
 refine zg (w' := w74) (zb rfl rfl rfl (F86.get rfl)) rfl F86 rfl (.int .u8 (((7 : UInt8).toNat : Nat) : Int)) (y_ldB _ rfl (F86.get rfl) (M74.isb (k := 0) rfl) (by rw [hL]; rfl) rfl) fun _ F87 => ?_
 refine zg (w' := w74) (zb rfl rfl rfl (F87.get rfl)) rfl F87 rfl (.bool true) (zq _ _ _ _ rfl (F87.get rfl) rfl Try.underlying5 (zma (by decide))) fun _ F88 => ?_
 refine exS 11 [(0, .bool false), (3, .pointer (some ⟨g28, 0, none⟩)), (9, .bool true), (10, .pointer (some ⟨g73, 0, none⟩)), (11, .bool true), (79, .bool true), (81, .int .i64 m7.k)] [0] (zt (M74.blk (k := 16) rfl) dnil) [g62] F88 (by kernel_rfl) fun _ F89 => ?_
 refine zg (w' := w74) (zb rfl rfl rfl (F89.get rfl)) rfl F89 rfl (.bool true) (zq _ _ _ _ rfl (F89.get rfl) rfl Try.underlying3 (zma (show m7.k = 7 from rfl))) fun _ F90 => ?_
 refine exA 3 [(83, .bool true), (84, .bool true), (85, .pointer (some ⟨g28, 0, none⟩))] [] dnil [] F90 (by kernel_rfl) (by kernel_rfl) fun _ F91 => ?_
 refine zd (zb rfl rfl rfl (F91.get rfl)) rfl F91 rfl rfl (enters_of Try.func32 (by kernel_rfl) rfl) #[.pointer (some ⟨g28, 0, none⟩)] (zl (F91.get rfl)) (zh ((bad_any g28 u60 3 false w74 (M74.blk (k := 1) rfl)))) ?_
 rintro _ w92 a92 ⟨rfl, b92⟩ F92
 have M92 := M74.step b92
 refine exS 11 [(0, .bool false), (95, .bool true), (97, .string rA.s)] [0] (zt (M92.blk (k := 20) rfl) dnil) [g73] F92 (by kernel_rfl) fun _ F93 => ?_
 refine zg (w' := w92) (zb rfl rfl rfl (F93.get rfl)) rfl F93 rfl (.bool true) (y_eqS _ _ _ rfl (F93.get rfl) rfl (decide_eq_true rfl)) fun _ F94 => ?_
 refine exS 2 [(0, .bool true)] [] dnil [] F94 (by kernel_rfl) fun _ F95 => ?_
 refine hK76 _ _ (wp_ret ?_)
 try simp only [Exit.then, Exit.inBlock, Exit.jump]
 exact bodyPost_ret (res1 rfl (F95.get (t := 0) rfl)) F95.defers ⟨rfl, M92.below⟩
end Go.Proofs.Ytlbkogdmojlpmaa
namespace Go.Proofs.Ytlbkogdmojlpmaa
open Go.ChangeShapes Go.WideShapes Go.ChangeAt Go.RowKit
theorem nx_nil {l : List UInt8} (h : l = []) : nxM l = mZero ∧ nxOk l = false ∧ nxBad l = false ∧ nxL l = [] := by
  obtain ⟨h1, h2⟩ := nx_short (l := l) (by rw [h]; decide)
  exact ⟨by rw [nxM, h1]; rfl, h1, h2, by rw [nxL, h1, h2]; exact h⟩
end Go.Proofs.Ytlbkogdmojlpmaa
namespace Go.Proofs.Ytlbkogdmojlpmaa
open Go.ChangeShapes Go.WideShapes Go.ChangeAt Go.RowKit
theorem encL_nn {m : MsgN} (h : zua m = false) : encL m = [] := if_neg (by rw [h]; exact Bool.false_ne_true)
theorem hd_of {b : List UInt8} (h : z0a b = true) : ∃ (m : MsgN) (b1 b2 : UInt8), MsgOk m ∧ zua m = true ∧ b = 0 :: b1 :: b2 :: remN m 11 ∧ b1.toNat + 2 = b.length ∧ ((b2.toNat : Nat) : Int) = m.k ∧ 1 ≤ m.k ∧ m.k ≤ 12 ∧ b.length ≤ 202 := by
  obtain ⟨h1, h2, -⟩ := decOk_is h
  obtain ⟨m, hm⟩ : ∃ m, decM b = m := ⟨_, rfl⟩
  have ho := (decM_msgok b).1
  rw [hm] at h1 h2 ho
  have hr := encOk_right h1
  have hk := right_kind hr
  have hl : (encL m).length = (encRk m 12).length + 2 := by rw [encL_ok h1, encF_len]
  have h3 : (encRk m 12).length ≤ 200 := by
    unfold zua at h1
    simp only [Bool.and_eq_true, decide_eq_true_eq] at h1
    rw [encRk_len]; omega
  have he : encL m = 0 :: zx ((encRk m 12).length : Int) :: zx m.k :: remN m 11 := by
    rw [encL_ok h1, encF_is, encRk_rem m 11 (Nat.le_refl _)]; rfl
  refine ⟨m, _, _, ho, h1, h2.symm.trans he, ?_, ?_, hk.1, hk.2, ?_⟩
  · rw [← h2, hl, byteI_nat (by omega)]
  · have := z6b m.k; omega
  · rw [← h2, hl]; omega
theorem rem_len (m : MsgN) (hf : MsgFit m) : ∀ n, n ≤ 11 → remN m n = [] ∨ 3 ≤ (remN m n).length
  | 0, _ => .inl rfl
  | n + 1, h => by
    by_cases hc : zw m (11 - n) = []
    · rw [show remN m (n + 1) = remN m n from if_pos hc]; exact rem_len m hf n (by omega)
    · right
      rw [show remN m (n + 1) = zx ((11 - n : Nat) : Int) :: zx ((zw m (11 - n)).length : Int) :: (zw m (11 - n) ++ remN m n) from if_neg hc]
      have := List.length_pos_iff.2 hc
      simp only [List.length_cons, List.length_append]; omega
theorem no_short {b : List UInt8} (h : b.length < 3) : z0a b = false := by
  cases hd : z0a b with
  | false => rfl
  | true =>
    obtain ⟨m, b1, b2, -, -, e, -⟩ := hd_of hd
    rw [e] at h; simp at h; omega
theorem no_kind {a x y : UInt8} {r : List UInt8} (h : y.toNat = 0 ∨ 12 < y.toNat) : z0a (a :: x :: y :: r) = false := by
  cases hd : z0a (a :: x :: y :: r) with
  | false => rfl
  | true =>
    obtain ⟨m, b1, b2, -, -, e, -, hk, h1, h2, -⟩ := hd_of hd
    injection e with _ e; injection e with _ e; injection e with e _
    subst e; omega
theorem no_rest {a x y : UInt8} {r : List UInt8} (h : 0 < r.length) (h3 : r.length < 3) : z0a (a :: x :: y :: r) = false := by
  cases hd : z0a (a :: x :: y :: r) with
  | false => rfl
  | true =>
    obtain ⟨m, b1, b2, ho, hm, e, -⟩ := hd_of hd
    injection e with _ e; injection e with _ e; injection e with _ e
    subst e
    rcases rem_len m (right_fit ho (encOk_right hm)) 11 (Nat.le_refl _) with h1 | h1
    · rw [h1] at h; exact absurd h (Nat.lt_irrefl 0)
    · omega
theorem no_err0 : z0a [0, 4, 5, 11, 1, 0] = false := by
  have e : decM [0, 4, 5, 11, 1, 0] = ⟨5, 0, 0, 0, "".toUTF8, 0, 0, [], [], [], [], []⟩ := rfl
  unfold z0a z7a
  rw [e]
  have hn : zva ⟨5, 0, 0, 0, "".toUTF8, 0, 0, [], [], [], [], []⟩ = false := by
    unfold zva
    rw [show decide (hasB ⟨5, 0, 0, 0, "".toUTF8, 0, 0, [], [], [], [], []⟩ = wantN 5 0) = false from by decide]
    simp
  unfold zua
  rw [hn]; rfl
theorem no_err12 : z0a [0, 4, 5, 11, 1, 12] = false := by
  have e : decM [0, 4, 5, 11, 1, 12] = ⟨5, 0, 0, 12, "".toUTF8, 0, 0, [], [], [], [], []⟩ := rfl
  unfold z0a z7a
  rw [e]
  have hn : zva ⟨5, 0, 0, 12, "".toUTF8, 0, 0, [], [], [], [], []⟩ = false := by
    unfold zva zba
    simp
  unfold zua
  rw [hn]; rfl
theorem zzb {l : List UInt8} (h2 : 2 ≤ l.length) (h : 200 < nxF l ∨ (2 + nxF l ≤ l.length ∧ z0a (l.take (2 + nxF l)) = false)) : nxOk l = false ∧ nxBad l = true := by
  rcases h with h | ⟨h, hd⟩
  · exact nx_over h2 h
  · by_cases hf : 200 < nxF l
    · exact nx_over h2 hf
    · obtain ⟨e1, e2⟩ := nx_whole h2 (by omega) h
      rw [hd] at e1 e2
      exact ⟨e1, e2⟩
def badL (j : Nat) : List UInt8 := (([[0, 201], [255, 255], [0, 0], [0, 1, 0], [0, 1, 13], [0, 2, 7, 0], [0, 3, 5, 11, 0], [0, 4, 5, 11, 1, 0], [0, 4, 5, 11, 1, 12]] : List (List UInt8))[j]?).getD []
theorem bad_is : ∀ j, j < 9 → z0a (badL j) = false ∧ nxOk (badL j) = false ∧ nxBad (badL j) = true ∧ (badL j).length ≤ 6
  | 0, _ => ⟨no_short (by decide), (zzb (l := badL 0) (by decide) (.inl (by decide))).1, (zzb (l := badL 0) (by decide) (.inl (by decide))).2, by decide⟩
  | 1, _ => ⟨no_short (by decide), (zzb (l := badL 1) (by decide) (.inl (by decide))).1, (zzb (l := badL 1) (by decide) (.inl (by decide))).2, by decide⟩
  | 2, _ => have h : z0a (badL 2) = false := no_short (by decide); ⟨h, (zzb (l := badL 2) (by decide) (.inr ⟨by decide, h⟩)).1, (zzb (l := badL 2) (by decide) (.inr ⟨by decide, h⟩)).2, by decide⟩
  | 3, _ => have h : z0a (badL 3) = false := no_kind (.inl rfl); ⟨h, (zzb (l := badL 3) (by decide) (.inr ⟨by decide, h⟩)).1, (zzb (l := badL 3) (by decide) (.inr ⟨by decide, h⟩)).2, by decide⟩
  | 4, _ => have h : z0a (badL 4) = false := no_kind (.inr (by decide)); ⟨h, (zzb (l := badL 4) (by decide) (.inr ⟨by decide, h⟩)).1, (zzb (l := badL 4) (by decide) (.inr ⟨by decide, h⟩)).2, by decide⟩
  | 5, _ => have h : z0a (badL 5) = false := no_rest (r := [0]) (by decide) (by decide); ⟨h, (zzb (l := badL 5) (by decide) (.inr ⟨by decide, h⟩)).1, (zzb (l := badL 5) (by decide) (.inr ⟨by decide, h⟩)).2, by decide⟩
  | 6, _ => have h : z0a (badL 6) = false := no_rest (r := [11, 0]) (by decide) (by decide); ⟨h, (zzb (l := badL 6) (by decide) (.inr ⟨by decide, h⟩)).1, (zzb (l := badL 6) (by decide) (.inr ⟨by decide, h⟩)).2, by decide⟩
  | 7, _ => have h : z0a (badL 7) = false := no_err0; ⟨h, (zzb (l := badL 7) (by decide) (.inr ⟨by decide, h⟩)).1, (zzb (l := badL 7) (by decide) (.inr ⟨by decide, h⟩)).2, by decide⟩
  | 8, _ => have h : z0a (badL 8) = false := no_err12; ⟨h, (zzb (l := badL 8) (by decide) (.inr ⟨by decide, h⟩)).1, (zzb (l := badL 8) (by decide) (.inr ⟨by decide, h⟩)).2, by decide⟩
  | n + 9, h => absurd h (by omega)
theorem bad_dec {j : Nat} (h : j < 9) : decR (badL j) = mZero := decR_no (bad_is j h).1
theorem bad_nx {l : List UInt8} (h1 : nxOk l = false) (h2 : nxBad l = true) : nxM l = mZero ∧ nxL l = [] := ⟨by rw [nxM, h1]; rfl, by rw [nxL, h1, h2]; rfl⟩
theorem nx_front {m : MsgN} (ho : MsgOk m) (h : zua m = true) (r : List UInt8) : nxOk (encL m ++ r) = true ∧ nxM (encL m ++ r) = m ∧ nxBad (encL m ++ r) = false ∧ nxL (encL m ++ r) = r := by
  obtain ⟨d1, d2⟩ := decOk_enc ho h
  obtain ⟨m', b1, b2, -, -, e, hb, -, -, -, hl⟩ := hd_of d1
  have h0 : (encL m ++ r).getD 0 0 = 0 := by rw [e]; rfl
  have h1 : (encL m ++ r).getD 1 0 = b1 := by rw [e]; rfl
  have hF : nxF (encL m ++ r) + 2 = (encL m).length := by
    unfold nxF
    rw [h0, h1]
    have : (0 : UInt8).toNat = 0 := rfl
    omega
  have h2 : 2 ≤ (encL m ++ r).length := by rw [List.length_append]; omega
  have hT : (encL m ++ r).take (2 + nxF (encL m ++ r)) = encL m := by rw [Nat.add_comm, hF]; exact List.take_left
  have hD : (encL m ++ r).drop (2 + nxF (encL m ++ r)) = r := by rw [Nat.add_comm, hF]; exact List.drop_left
  obtain ⟨e1, e2⟩ := nx_whole h2 (by omega) (by rw [List.length_append]; omega)
  rw [hT, d1] at e1 e2
  exact ⟨e1, by rw [nxM, e1, hT]; exact d2, e2, by rw [nxL, e1, hD]; rfl⟩
end Go.Proofs.Ytlbkogdmojlpmaa
namespace Go.Proofs.Ytlbkogdmojlpmaa
open Go.ChangeShapes Go.WideShapes Go.ChangeAt Go.RowKit
theorem Rd.isB' {w : World} {A : Option Addr} {l : List UInt8} {n c : Nat} (h : Rd w A l) (hn : l.length = n) (hc : n ≤ c) (hm : c ≤ maxLen) (hz : A = none → c = 0) : IsB w l (.slice A n c) := by
  subst hn
  exact ⟨A, c, rfl, hc, hm, hz, h⟩
theorem top_small {a : Nat} (h : a < 4294967296) : topI a 8 ≤ 32 := by
  by_cases h0 : a = 0
  · subst h0; rw [topI_none]; decide
  · have ha : a < 4294967296 ^ 8 := Nat.lt_trans h (by decide)
    have h1 := Nat.log2_self_le h0
    have h2 : a < 2 ^ (Nat.log2 a + 1) := Nat.lt_log2_self
    have h3 : a / 2 ^ (Nat.log2 a) = 1 := by
      apply Nat.div_eq_of_lt_le
      · omega
      · rw [Nat.pow_succ] at h2; omega
    rw [top_one ha h3]
    have h4 : Nat.log2 a < 32 := by
      refine Classical.byContradiction fun hn => ?_
      have : 2 ^ 32 ≤ 2 ^ Nat.log2 a := Nat.pow_le_pow_right (by omega) (by omega)
      omega
    omega
theorem nmB_ne (s : ByteArray) : sBy (nmB s) ≠ [] := by
  by_cases h : (sBy s).length = 0
  · rw [nmB_nil h]; simp [sBy]
  · rw [nmB_some h]
    simp only [sBy, List.toList_toArray]
    intro e
    have := congrArg List.length e
    rw [List.length_take] at this
    have h2 := nmL_len (sBy s)
    unfold sBy at h h2
    simp only [List.length_nil] at this
    omega
theorem nmB_size (s : ByteArray) : 0 < (nmB s).size ∧ (nmB s).size ≤ 16 := by
  have h := nmB_ne s
  have e : (sBy (nmB s)).length = (nmB s).size := sBy_len _
  refine ⟨by have := List.length_pos_iff.2 h; omega, ?_⟩
  by_cases h0 : (sBy s).length = 0
  · rw [nmB_nil h0]; decide
  · rw [← e, nmB_some h0]
    simp only [sBy, List.toList_toArray, List.length_take]
    omega
theorem name_of {B : ByteArray} (h1 : 0 < B.size) (h2 : B.size ≤ 16) (h : ∀ x ∈ sBy B, 33 ≤ x.toNat ∧ x.toNat ≤ 126) : nameB B = true := by
  refine @decide_eq_true _ (Classical.propDecidable _) ⟨h1, h2, fun i hi => ?_⟩
  have hg : (sBy B)[i]? = some (B[i]'hi) := by
    unfold sBy
    rw [Array.getElem?_toList]
    exact Array.getElem?_eq_getElem hi
  have := h _ (List.mem_of_getElem? hg)
  omega
theorem nmB_ok (s : ByteArray) : nameB (nmB s) = true := by
  refine name_of (nmB_size s).1 (nmB_size s).2 fun x hx => ?_
  by_cases h0 : (sBy s).length = 0
  · rw [nmB_nil h0] at hx
    have : x = 117 := by simpa [sBy] using hx
    subst this; decide
  · rw [nmB_some h0] at hx
    simp only [sBy, List.toList_toArray] at hx
    obtain ⟨y, -, hy⟩ := List.mem_map.1 (List.mem_of_mem_take hx)
    rw [← hy]
    exact nmC_in y
theorem thN_congr {f g : Nat → Bool} : ∀ k, (∀ j, j < k → f j = g j) → thN f k = thN g k
  | 0, _ => rfl
  | k + 1, h => by
    unfold thN
    rw [thN_congr k fun j hj => h j (by omega), h k (by omega)]
theorem right_of {m : MsgN} (F : Nat → Bool) (hF : ∀ k, k < 12 → zra m k = F k) (hw : ((thN F 12 : Nat) : Int) = zea m) (hp : 0 ≤ m.p ∧ m.p ≤ 2) (hs : nilB m.s = true ∨ nameB m.s = true) (ha : m.a < 4294967296) (hb : m.b < 4294967296)
    (h5 : m.l5.length ≤ 16) (h6 : m.l6.length ≤ 48) (h7 : m.l7.length ≤ 16) (h8 : m.l8.length ≤ 80) (h9 : m.l9.length ≤ 120) (hc : 0 ≤ m.c) (he : 0 ≤ m.e ∧ m.e ≤ 11) : zva m = true := by
  rw [← zna]
  unfold zha hasR
  rw [thN_congr 12 hF, hw]
  have e1 := top_small ha
  have e2 := top_small hb
  have e3 : (nilB m.s || nameB m.s) = true := by rcases hs with h | h <;> rw [h] <;> simp
  rw [e3]
  simp only [Bool.and_eq_true, Bool.not_eq_true', decide_eq_true_eq, decide_eq_false_iff_not]
  refine ⟨⟨⟨⟨⟨⟨⟨⟨⟨⟨⟨⟨⟨trivial, by omega⟩, by omega⟩, trivial⟩, e1⟩, e2⟩, by omega⟩, by omega⟩, by omega⟩, by omega⟩, by omega⟩, hc⟩, he.1⟩, he.2⟩
theorem zyb {m : MsgN} {F : Nat → Bool} (h0 : F 0 = false) (h1 : (m.p != 0) = F 1) (h2 : (!(sBy m.s).isEmpty) = F 2) (h3 : (!decide (m.a = 0)) = F 3) (h4 : (!decide (m.b = 0)) = F 4) (h5 : (!m.l5.isEmpty) = F 5) (h6 : (!m.l6.isEmpty) = F 6) (h7 : (!m.l7.isEmpty) = F 7) (h8 : (!m.l8.isEmpty) = F 8) (h9 : (!m.l9.isEmpty) = F 9) (h10 : (m.c != 0) = F 10) (h11 : (m.e != 0) = F 11) : ∀ k, k < 12 → zra m k = F k := by
  intro k hk
  have : k = 0 ∨ k = 1 ∨ k = 2 ∨ k = 3 ∨ k = 4 ∨ k = 5 ∨ k = 6 ∨ k = 7 ∨ k = 8 ∨ k = 9 ∨ k = 10 ∨ k = 11 := by omega
  rcases this with rfl | rfl | rfl | rfl | rfl | rfl | rfl | rfl | rfl | rfl | rfl | rfl
  · exact h0.symm
  · rw [← fl_1, h1]
  · exact h2
  · rw [← fl_3, h3]
  · rw [← fl_4, h4]
  · exact h5
  · exact h6
  · exact h7
  · exact h8
  · exact h9
  · rw [← fl_10, h10]
  · rw [← fl_11, h11]
theorem some_ne (b : List UInt8) (n : Int) {K : Nat} (h : 0 < K) : (ze b n K).isEmpty = false := by
  have := zk b n K
  cases he : ze b n K with
  | nil => rw [he] at this; simp at this; omega
  | cons x r => rfl
theorem zhb : nilB ("".toUTF8) = true := decide_eq_true rfl
theorem nmB_nonempty (s : ByteArray) : (sBy (nmB s)).isEmpty = false := by
  cases he : sBy (nmB s) with
  | nil => exact absurd he (nmB_ne s)
  | cons x r => rfl
theorem kn (n : Int) {k : Int} (hk : 0 < k) : 0 < (1 + n % k).toNat ∧ (1 + n % k).toNat ≤ k.toNat := by
  have h1 := Int.emod_nonneg n (show k ≠ 0 by omega)
  have h2 := Int.emod_lt_of_pos n hk
  omega
theorem mkM_right (kind n : Int) (s : ByteArray) (b : List UInt8) : zva (mkM kind n s b) = true := by
  have h2 := Int.emod_two_eq n
  have hA := kn n (show (0 : Int) < 4294967295 by decide)
  have hC := kn (n.tdiv 3) (show (0 : Int) < 70000 by decide)
  have h16 := kn n (show (0 : Int) < 16 by decide)
  have h48 := kn n (show (0 : Int) < 48 by decide)
  have h80 := kn n (show (0 : Int) < 80 by decide)
  have h120 := kn n (show (0 : Int) < 120 by decide)
  have h7 := kn (n.tdiv 7) (show (0 : Int) < 16 by decide)
  have h5 := kn (n.tdiv 5) (show (0 : Int) < 110 by decide)
  have h11 := Int.emod_nonneg n (show (11 : Int) ≠ 0 by decide)
  have h11' := Int.emod_lt_of_pos n (show (0 : Int) < 11 by decide)
  have h40 := Int.emod_nonneg n (show (1099511627776 : Int) ≠ 0 by decide)
  have hp1 : ((1 + n % 2) != 0) = true := y_bneT (by omega)
  have he1 : ((1 + n % 11) != 0) = true := y_bneT (by omega)
  have hc1 : ((1 + n % 1099511627776) != 0) = true := y_bneT (by omega)
  have hA0 : decide ((1 + n % 4294967295).toNat = 0) = false := decide_eq_false (by omega)
  have hC0 : decide ((1 + n.tdiv 3 % 70000).toNat = 0) = false := decide_eq_false (by omega)
  have s16 := some_ne b n h16.1
  have s48 := some_ne b n h48.1
  have s80 := some_ne b n h80.1
  have s120 := some_ne b n h120.1
  have s7 := some_ne b (n.tdiv 7) h7.1
  have s5 := some_ne b (n.tdiv 5) h5.1
  have hn := nmB_ok s
  have hne := nmB_nonempty s
  have key : ∀ (S : List Nat) (m : MsgN), (∀ k, k < 12 → zra m k = S.contains k) → ((thN (fun k => S.contains k) 12 : Nat) : Int) = zea m → (0 ≤ m.p ∧ m.p ≤ 2) → (nilB m.s = true ∨ nameB m.s = true) → m.a < 4294967296 → m.b < 4294967296 → m.l5.length ≤ 16 → m.l6.length ≤ 48 → m.l7.length ≤ 16 → m.l8.length ≤ 80 → m.l9.length ≤ 120 → 0 ≤ m.c → (0 ≤ m.e ∧ m.e ≤ 11) → zva m = true := fun S m a1 a2 a3 a4 a5 a6 a7 a8 a9 a10 a11 a12 a13 => right_of (fun k => S.contains k) a1 a2 a3 a4 a5 a6 a7 a8 a9 a10 a11 a12 a13
  unfold mkM
  by_cases k0 : kind % 12 = 0
  · rw [if_pos k0]
    by_cases q : n % 2 = 0
    · rw [if_pos q]; exact key [1, 2, 3] _ (zyb rfl (by first | exact hp1 | rfl) (by first | rfl | (show (!(sBy (nmB s)).isEmpty) = _; rw [hne]; rfl)) (by first | rfl | (show (!decide (_ = 0)) = _; first | (rw [hA0]; rfl) | (rw [hC0]; rfl))) (by first | rfl | (show (!decide (_ = 0)) = _; first | (rw [hA0]; rfl) | (rw [hC0]; rfl))) (by first | rfl | (show (!(ze _ _ _).isEmpty) = _; rw [s16]; rfl)) (by first | rfl | (show (!(ze _ _ _).isEmpty) = _; rw [s48]; rfl)) (by first | rfl | (show (!(ze _ _ _).isEmpty) = _; first | (rw [s16]; rfl) | (rw [s7]; rfl))) (by first | rfl | (show (!(ze _ _ _).isEmpty) = _; rw [s80]; rfl)) (by first | rfl | (show (!(ze _ _ _).isEmpty) = _; first | (rw [s120]; rfl) | (rw [s5]; rfl))) (by first | exact hc1 | rfl) (by first | exact he1 | rfl)) (by first | rfl | decide | (rw [show thN (fun k => List.contains [7, 8] k) 12 = 384 by decide]; unfold zea; dsimp only; simp only [Int.reduceEq, ↓reduceIte, zk]; rw [if_pos (by omega)]; rfl) | (rw [show thN (fun k => List.contains [8] k) 12 = 256 by decide]; unfold zea; simp)) (by dsimp only; omega) (by first | exact .inl zhb | exact .inr hn) (by dsimp only; omega) (by dsimp only; omega) (by first | exact Nat.zero_le _ | (show (ze _ _ _).length ≤ _; rw [zk]; omega)) (by first | exact Nat.zero_le _ | (show (ze _ _ _).length ≤ _; rw [zk]; omega)) (by first | exact Nat.zero_le _ | (show (ze _ _ _).length ≤ _; rw [zk]; omega)) (by first | exact Nat.zero_le _ | (show (ze _ _ _).length ≤ _; rw [zk]; omega)) (by first | exact Nat.zero_le _ | (show (ze _ _ _).length ≤ _; rw [zk]; omega)) (by dsimp only; omega) (by dsimp only; omega)
    · rw [if_neg q]; exact key [1, 2, 3, 4] _ (zyb rfl (by first | exact hp1 | rfl) (by first | rfl | (show (!(sBy (nmB s)).isEmpty) = _; rw [hne]; rfl)) (by first | rfl | (show (!decide (_ = 0)) = _; first | (rw [hA0]; rfl) | (rw [hC0]; rfl))) (by first | rfl | (show (!decide (_ = 0)) = _; first | (rw [hA0]; rfl) | (rw [hC0]; rfl))) (by first | rfl | (show (!(ze _ _ _).isEmpty) = _; rw [s16]; rfl)) (by first | rfl | (show (!(ze _ _ _).isEmpty) = _; rw [s48]; rfl)) (by first | rfl | (show (!(ze _ _ _).isEmpty) = _; first | (rw [s16]; rfl) | (rw [s7]; rfl))) (by first | rfl | (show (!(ze _ _ _).isEmpty) = _; rw [s80]; rfl)) (by first | rfl | (show (!(ze _ _ _).isEmpty) = _; first | (rw [s120]; rfl) | (rw [s5]; rfl))) (by first | exact hc1 | rfl) (by first | exact he1 | rfl)) (by first | rfl | decide | (rw [show thN (fun k => List.contains [7, 8] k) 12 = 384 by decide]; unfold zea; dsimp only; simp only [Int.reduceEq, ↓reduceIte, zk]; rw [if_pos (by omega)]; rfl) | (rw [show thN (fun k => List.contains [8] k) 12 = 256 by decide]; unfold zea; simp)) (by dsimp only; omega) (by first | exact .inl zhb | exact .inr hn) (by dsimp only; omega) (by dsimp only; omega) (by first | exact Nat.zero_le _ | (show (ze _ _ _).length ≤ _; rw [zk]; omega)) (by first | exact Nat.zero_le _ | (show (ze _ _ _).length ≤ _; rw [zk]; omega)) (by first | exact Nat.zero_le _ | (show (ze _ _ _).length ≤ _; rw [zk]; omega)) (by first | exact Nat.zero_le _ | (show (ze _ _ _).length ≤ _; rw [zk]; omega)) (by first | exact Nat.zero_le _ | (show (ze _ _ _).length ≤ _; rw [zk]; omega)) (by dsimp only; omega) (by dsimp only; omega)
  rw [if_neg k0]
  by_cases k1 : kind % 12 = 1
  · rw [if_pos k1]
    by_cases q : n % 2 = 0
    · rw [if_pos q]; exact key [1, 4, 5] _ (zyb rfl (by first | exact hp1 | rfl) (by first | rfl | (show (!(sBy (nmB s)).isEmpty) = _; rw [hne]; rfl)) (by first | rfl | (show (!decide (_ = 0)) = _; first | (rw [hA0]; rfl) | (rw [hC0]; rfl))) (by first | rfl | (show (!decide (_ = 0)) = _; first | (rw [hA0]; rfl) | (rw [hC0]; rfl))) (by first | rfl | (show (!(ze _ _ _).isEmpty) = _; rw [s16]; rfl)) (by first | rfl | (show (!(ze _ _ _).isEmpty) = _; rw [s48]; rfl)) (by first | rfl | (show (!(ze _ _ _).isEmpty) = _; first | (rw [s16]; rfl) | (rw [s7]; rfl))) (by first | rfl | (show (!(ze _ _ _).isEmpty) = _; rw [s80]; rfl)) (by first | rfl | (show (!(ze _ _ _).isEmpty) = _; first | (rw [s120]; rfl) | (rw [s5]; rfl))) (by first | exact hc1 | rfl) (by first | exact he1 | rfl)) (by first | rfl | decide | (rw [show thN (fun k => List.contains [7, 8] k) 12 = 384 by decide]; unfold zea; dsimp only; simp only [Int.reduceEq, ↓reduceIte, zk]; rw [if_pos (by omega)]; rfl) | (rw [show thN (fun k => List.contains [8] k) 12 = 256 by decide]; unfold zea; simp)) (by dsimp only; omega) (by first | exact .inl zhb | exact .inr hn) (by dsimp only; omega) (by dsimp only; omega) (by first | exact Nat.zero_le _ | (show (ze _ _ _).length ≤ _; rw [zk]; omega)) (by first | exact Nat.zero_le _ | (show (ze _ _ _).length ≤ _; rw [zk]; omega)) (by first | exact Nat.zero_le _ | (show (ze _ _ _).length ≤ _; rw [zk]; omega)) (by first | exact Nat.zero_le _ | (show (ze _ _ _).length ≤ _; rw [zk]; omega)) (by first | exact Nat.zero_le _ | (show (ze _ _ _).length ≤ _; rw [zk]; omega)) (by dsimp only; omega) (by dsimp only; omega)
    · rw [if_neg q]; exact key [1, 3, 4, 6] _ (zyb rfl (by first | exact hp1 | rfl) (by first | rfl | (show (!(sBy (nmB s)).isEmpty) = _; rw [hne]; rfl)) (by first | rfl | (show (!decide (_ = 0)) = _; first | (rw [hA0]; rfl) | (rw [hC0]; rfl))) (by first | rfl | (show (!decide (_ = 0)) = _; first | (rw [hA0]; rfl) | (rw [hC0]; rfl))) (by first | rfl | (show (!(ze _ _ _).isEmpty) = _; rw [s16]; rfl)) (by first | rfl | (show (!(ze _ _ _).isEmpty) = _; rw [s48]; rfl)) (by first | rfl | (show (!(ze _ _ _).isEmpty) = _; first | (rw [s16]; rfl) | (rw [s7]; rfl))) (by first | rfl | (show (!(ze _ _ _).isEmpty) = _; rw [s80]; rfl)) (by first | rfl | (show (!(ze _ _ _).isEmpty) = _; first | (rw [s120]; rfl) | (rw [s5]; rfl))) (by first | exact hc1 | rfl) (by first | exact he1 | rfl)) (by first | rfl | decide | (rw [show thN (fun k => List.contains [7, 8] k) 12 = 384 by decide]; unfold zea; dsimp only; simp only [Int.reduceEq, ↓reduceIte, zk]; rw [if_pos (by omega)]; rfl) | (rw [show thN (fun k => List.contains [8] k) 12 = 256 by decide]; unfold zea; simp)) (by dsimp only; omega) (by first | exact .inl zhb | exact .inr hn) (by dsimp only; omega) (by dsimp only; omega) (by first | exact Nat.zero_le _ | (show (ze _ _ _).length ≤ _; rw [zk]; omega)) (by first | exact Nat.zero_le _ | (show (ze _ _ _).length ≤ _; rw [zk]; omega)) (by first | exact Nat.zero_le _ | (show (ze _ _ _).length ≤ _; rw [zk]; omega)) (by first | exact Nat.zero_le _ | (show (ze _ _ _).length ≤ _; rw [zk]; omega)) (by first | exact Nat.zero_le _ | (show (ze _ _ _).length ≤ _; rw [zk]; omega)) (by dsimp only; omega) (by dsimp only; omega)
  rw [if_neg k1]
  by_cases k2 : kind % 12 = 2
  · rw [if_pos k2]
    exact key [7] _ (zyb rfl (by first | exact hp1 | rfl) (by first | rfl | (show (!(sBy (nmB s)).isEmpty) = _; rw [hne]; rfl)) (by first | rfl | (show (!decide (_ = 0)) = _; first | (rw [hA0]; rfl) | (rw [hC0]; rfl))) (by first | rfl | (show (!decide (_ = 0)) = _; first | (rw [hA0]; rfl) | (rw [hC0]; rfl))) (by first | rfl | (show (!(ze _ _ _).isEmpty) = _; rw [s16]; rfl)) (by first | rfl | (show (!(ze _ _ _).isEmpty) = _; rw [s48]; rfl)) (by first | rfl | (show (!(ze _ _ _).isEmpty) = _; first | (rw [s16]; rfl) | (rw [s7]; rfl))) (by first | rfl | (show (!(ze _ _ _).isEmpty) = _; rw [s80]; rfl)) (by first | rfl | (show (!(ze _ _ _).isEmpty) = _; first | (rw [s120]; rfl) | (rw [s5]; rfl))) (by first | exact hc1 | rfl) (by first | exact he1 | rfl)) (by first | rfl | decide | (rw [show thN (fun k => List.contains [7, 8] k) 12 = 384 by decide]; unfold zea; dsimp only; simp only [Int.reduceEq, ↓reduceIte, zk]; rw [if_pos (by omega)]; rfl) | (rw [show thN (fun k => List.contains [8] k) 12 = 256 by decide]; unfold zea; simp)) (by dsimp only; omega) (by first | exact .inl zhb | exact .inr hn) (by dsimp only; omega) (by dsimp only; omega) (by first | exact Nat.zero_le _ | (show (ze _ _ _).length ≤ _; rw [zk]; omega)) (by first | exact Nat.zero_le _ | (show (ze _ _ _).length ≤ _; rw [zk]; omega)) (by first | exact Nat.zero_le _ | (show (ze _ _ _).length ≤ _; rw [zk]; omega)) (by first | exact Nat.zero_le _ | (show (ze _ _ _).length ≤ _; rw [zk]; omega)) (by first | exact Nat.zero_le _ | (show (ze _ _ _).length ≤ _; rw [zk]; omega)) (by dsimp only; omega) (by dsimp only; omega)
  rw [if_neg k2]
  by_cases k3 : kind % 12 = 3
  · rw [if_pos k3]
    by_cases q : n.tdiv 2 % 2 = 0
    · rw [if_pos q]; exact key [7, 8] _ (zyb rfl (by first | exact hp1 | rfl) (by first | rfl | (show (!(sBy (nmB s)).isEmpty) = _; rw [hne]; rfl)) (by first | rfl | (show (!decide (_ = 0)) = _; first | (rw [hA0]; rfl) | (rw [hC0]; rfl))) (by first | rfl | (show (!decide (_ = 0)) = _; first | (rw [hA0]; rfl) | (rw [hC0]; rfl))) (by first | rfl | (show (!(ze _ _ _).isEmpty) = _; rw [s16]; rfl)) (by first | rfl | (show (!(ze _ _ _).isEmpty) = _; rw [s48]; rfl)) (by first | rfl | (show (!(ze _ _ _).isEmpty) = _; first | (rw [s16]; rfl) | (rw [s7]; rfl))) (by first | rfl | (show (!(ze _ _ _).isEmpty) = _; rw [s80]; rfl)) (by first | rfl | (show (!(ze _ _ _).isEmpty) = _; first | (rw [s120]; rfl) | (rw [s5]; rfl))) (by first | exact hc1 | rfl) (by first | exact he1 | rfl)) (by first | rfl | decide | (rw [show thN (fun k => List.contains [7, 8] k) 12 = 384 by decide]; unfold zea; dsimp only; simp only [Int.reduceEq, ↓reduceIte, zk]; rw [if_pos (by omega)]; rfl) | (rw [show thN (fun k => List.contains [8] k) 12 = 256 by decide]; unfold zea; simp)) (by dsimp only; omega) (by first | exact .inl zhb | exact .inr hn) (by dsimp only; omega) (by dsimp only; omega) (by first | exact Nat.zero_le _ | (show (ze _ _ _).length ≤ _; rw [zk]; omega)) (by first | exact Nat.zero_le _ | (show (ze _ _ _).length ≤ _; rw [zk]; omega)) (by first | exact Nat.zero_le _ | (show (ze _ _ _).length ≤ _; rw [zk]; omega)) (by first | exact Nat.zero_le _ | (show (ze _ _ _).length ≤ _; rw [zk]; omega)) (by first | exact Nat.zero_le _ | (show (ze _ _ _).length ≤ _; rw [zk]; omega)) (by dsimp only; omega) (by dsimp only; omega)
    · rw [if_neg q]; exact key [8] _ (zyb rfl (by first | exact hp1 | rfl) (by first | rfl | (show (!(sBy (nmB s)).isEmpty) = _; rw [hne]; rfl)) (by first | rfl | (show (!decide (_ = 0)) = _; first | (rw [hA0]; rfl) | (rw [hC0]; rfl))) (by first | rfl | (show (!decide (_ = 0)) = _; first | (rw [hA0]; rfl) | (rw [hC0]; rfl))) (by first | rfl | (show (!(ze _ _ _).isEmpty) = _; rw [s16]; rfl)) (by first | rfl | (show (!(ze _ _ _).isEmpty) = _; rw [s48]; rfl)) (by first | rfl | (show (!(ze _ _ _).isEmpty) = _; first | (rw [s16]; rfl) | (rw [s7]; rfl))) (by first | rfl | (show (!(ze _ _ _).isEmpty) = _; rw [s80]; rfl)) (by first | rfl | (show (!(ze _ _ _).isEmpty) = _; first | (rw [s120]; rfl) | (rw [s5]; rfl))) (by first | exact hc1 | rfl) (by first | exact he1 | rfl)) (by first | rfl | decide | (rw [show thN (fun k => List.contains [7, 8] k) 12 = 384 by decide]; unfold zea; dsimp only; simp only [Int.reduceEq, ↓reduceIte, zk]; rw [if_pos (by omega)]; rfl) | (rw [show thN (fun k => List.contains [8] k) 12 = 256 by decide]; unfold zea; simp)) (by dsimp only; omega) (by first | exact .inl zhb | exact .inr hn) (by dsimp only; omega) (by dsimp only; omega) (by first | exact Nat.zero_le _ | (show (ze _ _ _).length ≤ _; rw [zk]; omega)) (by first | exact Nat.zero_le _ | (show (ze _ _ _).length ≤ _; rw [zk]; omega)) (by first | exact Nat.zero_le _ | (show (ze _ _ _).length ≤ _; rw [zk]; omega)) (by first | exact Nat.zero_le _ | (show (ze _ _ _).length ≤ _; rw [zk]; omega)) (by first | exact Nat.zero_le _ | (show (ze _ _ _).length ≤ _; rw [zk]; omega)) (by dsimp only; omega) (by dsimp only; omega)
  rw [if_neg k3]
  by_cases k4 : kind % 12 = 4
  · rw [if_pos k4]
    exact key [11] _ (zyb rfl (by first | exact hp1 | rfl) (by first | rfl | (show (!(sBy (nmB s)).isEmpty) = _; rw [hne]; rfl)) (by first | rfl | (show (!decide (_ = 0)) = _; first | (rw [hA0]; rfl) | (rw [hC0]; rfl))) (by first | rfl | (show (!decide (_ = 0)) = _; first | (rw [hA0]; rfl) | (rw [hC0]; rfl))) (by first | rfl | (show (!(ze _ _ _).isEmpty) = _; rw [s16]; rfl)) (by first | rfl | (show (!(ze _ _ _).isEmpty) = _; rw [s48]; rfl)) (by first | rfl | (show (!(ze _ _ _).isEmpty) = _; first | (rw [s16]; rfl) | (rw [s7]; rfl))) (by first | rfl | (show (!(ze _ _ _).isEmpty) = _; rw [s80]; rfl)) (by first | rfl | (show (!(ze _ _ _).isEmpty) = _; first | (rw [s120]; rfl) | (rw [s5]; rfl))) (by first | exact hc1 | rfl) (by first | exact he1 | rfl)) (by first | rfl | decide | (rw [show thN (fun k => List.contains [7, 8] k) 12 = 384 by decide]; unfold zea; dsimp only; simp only [Int.reduceEq, ↓reduceIte, zk]; rw [if_pos (by omega)]; rfl) | (rw [show thN (fun k => List.contains [8] k) 12 = 256 by decide]; unfold zea; simp)) (by dsimp only; omega) (by first | exact .inl zhb | exact .inr hn) (by dsimp only; omega) (by dsimp only; omega) (by first | exact Nat.zero_le _ | (show (ze _ _ _).length ≤ _; rw [zk]; omega)) (by first | exact Nat.zero_le _ | (show (ze _ _ _).length ≤ _; rw [zk]; omega)) (by first | exact Nat.zero_le _ | (show (ze _ _ _).length ≤ _; rw [zk]; omega)) (by first | exact Nat.zero_le _ | (show (ze _ _ _).length ≤ _; rw [zk]; omega)) (by first | exact Nat.zero_le _ | (show (ze _ _ _).length ≤ _; rw [zk]; omega)) (by dsimp only; omega) (by dsimp only; omega)
  rw [if_neg k4]
  by_cases k5 : kind % 12 = 5
  · rw [if_pos k5]
    exact key [1, 2, 9] _ (zyb rfl (by first | exact hp1 | rfl) (by first | rfl | (show (!(sBy (nmB s)).isEmpty) = _; rw [hne]; rfl)) (by first | rfl | (show (!decide (_ = 0)) = _; first | (rw [hA0]; rfl) | (rw [hC0]; rfl))) (by first | rfl | (show (!decide (_ = 0)) = _; first | (rw [hA0]; rfl) | (rw [hC0]; rfl))) (by first | rfl | (show (!(ze _ _ _).isEmpty) = _; rw [s16]; rfl)) (by first | rfl | (show (!(ze _ _ _).isEmpty) = _; rw [s48]; rfl)) (by first | rfl | (show (!(ze _ _ _).isEmpty) = _; first | (rw [s16]; rfl) | (rw [s7]; rfl))) (by first | rfl | (show (!(ze _ _ _).isEmpty) = _; rw [s80]; rfl)) (by first | rfl | (show (!(ze _ _ _).isEmpty) = _; first | (rw [s120]; rfl) | (rw [s5]; rfl))) (by first | exact hc1 | rfl) (by first | exact he1 | rfl)) (by first | rfl | decide | (rw [show thN (fun k => List.contains [7, 8] k) 12 = 384 by decide]; unfold zea; dsimp only; simp only [Int.reduceEq, ↓reduceIte, zk]; rw [if_pos (by omega)]; rfl) | (rw [show thN (fun k => List.contains [8] k) 12 = 256 by decide]; unfold zea; simp)) (by dsimp only; omega) (by first | exact .inl zhb | exact .inr hn) (by dsimp only; omega) (by dsimp only; omega) (by first | exact Nat.zero_le _ | (show (ze _ _ _).length ≤ _; rw [zk]; omega)) (by first | exact Nat.zero_le _ | (show (ze _ _ _).length ≤ _; rw [zk]; omega)) (by first | exact Nat.zero_le _ | (show (ze _ _ _).length ≤ _; rw [zk]; omega)) (by first | exact Nat.zero_le _ | (show (ze _ _ _).length ≤ _; rw [zk]; omega)) (by first | exact Nat.zero_le _ | (show (ze _ _ _).length ≤ _; rw [zk]; omega)) (by dsimp only; omega) (by dsimp only; omega)
  rw [if_neg k5]
  by_cases k6 : kind % 12 = 6
  · rw [if_pos k6]
    exact key [] _ (zyb rfl (by first | exact hp1 | rfl) (by first | rfl | (show (!(sBy (nmB s)).isEmpty) = _; rw [hne]; rfl)) (by first | rfl | (show (!decide (_ = 0)) = _; first | (rw [hA0]; rfl) | (rw [hC0]; rfl))) (by first | rfl | (show (!decide (_ = 0)) = _; first | (rw [hA0]; rfl) | (rw [hC0]; rfl))) (by first | rfl | (show (!(ze _ _ _).isEmpty) = _; rw [s16]; rfl)) (by first | rfl | (show (!(ze _ _ _).isEmpty) = _; rw [s48]; rfl)) (by first | rfl | (show (!(ze _ _ _).isEmpty) = _; first | (rw [s16]; rfl) | (rw [s7]; rfl))) (by first | rfl | (show (!(ze _ _ _).isEmpty) = _; rw [s80]; rfl)) (by first | rfl | (show (!(ze _ _ _).isEmpty) = _; first | (rw [s120]; rfl) | (rw [s5]; rfl))) (by first | exact hc1 | rfl) (by first | exact he1 | rfl)) (by first | rfl | decide | (rw [show thN (fun k => List.contains [7, 8] k) 12 = 384 by decide]; unfold zea; dsimp only; simp only [Int.reduceEq, ↓reduceIte, zk]; rw [if_pos (by omega)]; rfl) | (rw [show thN (fun k => List.contains [8] k) 12 = 256 by decide]; unfold zea; simp)) (by dsimp only; omega) (by first | exact .inl zhb | exact .inr hn) (by dsimp only; omega) (by dsimp only; omega) (by first | exact Nat.zero_le _ | (show (ze _ _ _).length ≤ _; rw [zk]; omega)) (by first | exact Nat.zero_le _ | (show (ze _ _ _).length ≤ _; rw [zk]; omega)) (by first | exact Nat.zero_le _ | (show (ze _ _ _).length ≤ _; rw [zk]; omega)) (by first | exact Nat.zero_le _ | (show (ze _ _ _).length ≤ _; rw [zk]; omega)) (by first | exact Nat.zero_le _ | (show (ze _ _ _).length ≤ _; rw [zk]; omega)) (by dsimp only; omega) (by dsimp only; omega)
  rw [if_neg k6]
  by_cases k7 : kind % 12 = 7
  · rw [if_pos k7]
    exact key [8, 10] _ (zyb rfl (by first | exact hp1 | rfl) (by first | rfl | (show (!(sBy (nmB s)).isEmpty) = _; rw [hne]; rfl)) (by first | rfl | (show (!decide (_ = 0)) = _; first | (rw [hA0]; rfl) | (rw [hC0]; rfl))) (by first | rfl | (show (!decide (_ = 0)) = _; first | (rw [hA0]; rfl) | (rw [hC0]; rfl))) (by first | rfl | (show (!(ze _ _ _).isEmpty) = _; rw [s16]; rfl)) (by first | rfl | (show (!(ze _ _ _).isEmpty) = _; rw [s48]; rfl)) (by first | rfl | (show (!(ze _ _ _).isEmpty) = _; first | (rw [s16]; rfl) | (rw [s7]; rfl))) (by first | rfl | (show (!(ze _ _ _).isEmpty) = _; rw [s80]; rfl)) (by first | rfl | (show (!(ze _ _ _).isEmpty) = _; first | (rw [s120]; rfl) | (rw [s5]; rfl))) (by first | exact hc1 | rfl) (by first | exact he1 | rfl)) (by first | rfl | decide | (rw [show thN (fun k => List.contains [7, 8] k) 12 = 384 by decide]; unfold zea; dsimp only; simp only [Int.reduceEq, ↓reduceIte, zk]; rw [if_pos (by omega)]; rfl) | (rw [show thN (fun k => List.contains [8] k) 12 = 256 by decide]; unfold zea; simp)) (by dsimp only; omega) (by first | exact .inl zhb | exact .inr hn) (by dsimp only; omega) (by dsimp only; omega) (by first | exact Nat.zero_le _ | (show (ze _ _ _).length ≤ _; rw [zk]; omega)) (by first | exact Nat.zero_le _ | (show (ze _ _ _).length ≤ _; rw [zk]; omega)) (by first | exact Nat.zero_le _ | (show (ze _ _ _).length ≤ _; rw [zk]; omega)) (by first | exact Nat.zero_le _ | (show (ze _ _ _).length ≤ _; rw [zk]; omega)) (by first | exact Nat.zero_le _ | (show (ze _ _ _).length ≤ _; rw [zk]; omega)) (by dsimp only; omega) (by dsimp only; omega)
  rw [if_neg k7]
  by_cases k8 : kind % 12 = 8
  · rw [if_pos k8]
    exact key [8] _ (zyb rfl (by first | exact hp1 | rfl) (by first | rfl | (show (!(sBy (nmB s)).isEmpty) = _; rw [hne]; rfl)) (by first | rfl | (show (!decide (_ = 0)) = _; first | (rw [hA0]; rfl) | (rw [hC0]; rfl))) (by first | rfl | (show (!decide (_ = 0)) = _; first | (rw [hA0]; rfl) | (rw [hC0]; rfl))) (by first | rfl | (show (!(ze _ _ _).isEmpty) = _; rw [s16]; rfl)) (by first | rfl | (show (!(ze _ _ _).isEmpty) = _; rw [s48]; rfl)) (by first | rfl | (show (!(ze _ _ _).isEmpty) = _; first | (rw [s16]; rfl) | (rw [s7]; rfl))) (by first | rfl | (show (!(ze _ _ _).isEmpty) = _; rw [s80]; rfl)) (by first | rfl | (show (!(ze _ _ _).isEmpty) = _; first | (rw [s120]; rfl) | (rw [s5]; rfl))) (by first | exact hc1 | rfl) (by first | exact he1 | rfl)) (by first | rfl | decide | (rw [show thN (fun k => List.contains [7, 8] k) 12 = 384 by decide]; unfold zea; dsimp only; simp only [Int.reduceEq, ↓reduceIte, zk]; rw [if_pos (by omega)]; rfl) | (rw [show thN (fun k => List.contains [8] k) 12 = 256 by decide]; unfold zea; simp)) (by dsimp only; omega) (by first | exact .inl zhb | exact .inr hn) (by dsimp only; omega) (by dsimp only; omega) (by first | exact Nat.zero_le _ | (show (ze _ _ _).length ≤ _; rw [zk]; omega)) (by first | exact Nat.zero_le _ | (show (ze _ _ _).length ≤ _; rw [zk]; omega)) (by first | exact Nat.zero_le _ | (show (ze _ _ _).length ≤ _; rw [zk]; omega)) (by first | exact Nat.zero_le _ | (show (ze _ _ _).length ≤ _; rw [zk]; omega)) (by first | exact Nat.zero_le _ | (show (ze _ _ _).length ≤ _; rw [zk]; omega)) (by dsimp only; omega) (by dsimp only; omega)
  rw [if_neg k8]
  by_cases k9 : kind % 12 = 9
  · rw [if_pos k9]
    exact key [8] _ (zyb rfl (by first | exact hp1 | rfl) (by first | rfl | (show (!(sBy (nmB s)).isEmpty) = _; rw [hne]; rfl)) (by first | rfl | (show (!decide (_ = 0)) = _; first | (rw [hA0]; rfl) | (rw [hC0]; rfl))) (by first | rfl | (show (!decide (_ = 0)) = _; first | (rw [hA0]; rfl) | (rw [hC0]; rfl))) (by first | rfl | (show (!(ze _ _ _).isEmpty) = _; rw [s16]; rfl)) (by first | rfl | (show (!(ze _ _ _).isEmpty) = _; rw [s48]; rfl)) (by first | rfl | (show (!(ze _ _ _).isEmpty) = _; first | (rw [s16]; rfl) | (rw [s7]; rfl))) (by first | rfl | (show (!(ze _ _ _).isEmpty) = _; rw [s80]; rfl)) (by first | rfl | (show (!(ze _ _ _).isEmpty) = _; first | (rw [s120]; rfl) | (rw [s5]; rfl))) (by first | exact hc1 | rfl) (by first | exact he1 | rfl)) (by first | rfl | decide | (rw [show thN (fun k => List.contains [7, 8] k) 12 = 384 by decide]; unfold zea; dsimp only; simp only [Int.reduceEq, ↓reduceIte, zk]; rw [if_pos (by omega)]; rfl) | (rw [show thN (fun k => List.contains [8] k) 12 = 256 by decide]; unfold zea; simp)) (by dsimp only; omega) (by first | exact .inl zhb | exact .inr hn) (by dsimp only; omega) (by dsimp only; omega) (by first | exact Nat.zero_le _ | (show (ze _ _ _).length ≤ _; rw [zk]; omega)) (by first | exact Nat.zero_le _ | (show (ze _ _ _).length ≤ _; rw [zk]; omega)) (by first | exact Nat.zero_le _ | (show (ze _ _ _).length ≤ _; rw [zk]; omega)) (by first | exact Nat.zero_le _ | (show (ze _ _ _).length ≤ _; rw [zk]; omega)) (by first | exact Nat.zero_le _ | (show (ze _ _ _).length ≤ _; rw [zk]; omega)) (by dsimp only; omega) (by dsimp only; omega)
  rw [if_neg k9]
  by_cases k10 : kind % 12 = 10
  · rw [if_pos k10]
    exact key [1, 8, 9] _ (zyb rfl (by first | exact hp1 | rfl) (by first | rfl | (show (!(sBy (nmB s)).isEmpty) = _; rw [hne]; rfl)) (by first | rfl | (show (!decide (_ = 0)) = _; first | (rw [hA0]; rfl) | (rw [hC0]; rfl))) (by first | rfl | (show (!decide (_ = 0)) = _; first | (rw [hA0]; rfl) | (rw [hC0]; rfl))) (by first | rfl | (show (!(ze _ _ _).isEmpty) = _; rw [s16]; rfl)) (by first | rfl | (show (!(ze _ _ _).isEmpty) = _; rw [s48]; rfl)) (by first | rfl | (show (!(ze _ _ _).isEmpty) = _; first | (rw [s16]; rfl) | (rw [s7]; rfl))) (by first | rfl | (show (!(ze _ _ _).isEmpty) = _; rw [s80]; rfl)) (by first | rfl | (show (!(ze _ _ _).isEmpty) = _; first | (rw [s120]; rfl) | (rw [s5]; rfl))) (by first | exact hc1 | rfl) (by first | exact he1 | rfl)) (by first | rfl | decide | (rw [show thN (fun k => List.contains [7, 8] k) 12 = 384 by decide]; unfold zea; dsimp only; simp only [Int.reduceEq, ↓reduceIte, zk]; rw [if_pos (by omega)]; rfl) | (rw [show thN (fun k => List.contains [8] k) 12 = 256 by decide]; unfold zea; simp)) (by dsimp only; omega) (by first | exact .inl zhb | exact .inr hn) (by dsimp only; omega) (by dsimp only; omega) (by first | exact Nat.zero_le _ | (show (ze _ _ _).length ≤ _; rw [zk]; omega)) (by first | exact Nat.zero_le _ | (show (ze _ _ _).length ≤ _; rw [zk]; omega)) (by first | exact Nat.zero_le _ | (show (ze _ _ _).length ≤ _; rw [zk]; omega)) (by first | exact Nat.zero_le _ | (show (ze _ _ _).length ≤ _; rw [zk]; omega)) (by first | exact Nat.zero_le _ | (show (ze _ _ _).length ≤ _; rw [zk]; omega)) (by dsimp only; omega) (by dsimp only; omega)
  rw [if_neg k10]
  exact key [8, 10] _ (zyb rfl (by first | exact hp1 | rfl) (by first | rfl | (show (!(sBy (nmB s)).isEmpty) = _; rw [hne]; rfl)) (by first | rfl | (show (!decide (_ = 0)) = _; first | (rw [hA0]; rfl) | (rw [hC0]; rfl))) (by first | rfl | (show (!decide (_ = 0)) = _; first | (rw [hA0]; rfl) | (rw [hC0]; rfl))) (by first | rfl | (show (!(ze _ _ _).isEmpty) = _; rw [s16]; rfl)) (by first | rfl | (show (!(ze _ _ _).isEmpty) = _; rw [s48]; rfl)) (by first | rfl | (show (!(ze _ _ _).isEmpty) = _; first | (rw [s16]; rfl) | (rw [s7]; rfl))) (by first | rfl | (show (!(ze _ _ _).isEmpty) = _; rw [s80]; rfl)) (by first | rfl | (show (!(ze _ _ _).isEmpty) = _; first | (rw [s120]; rfl) | (rw [s5]; rfl))) (by first | exact hc1 | rfl) (by first | exact he1 | rfl)) (by first | rfl | decide | (rw [show thN (fun k => List.contains [7, 8] k) 12 = 384 by decide]; unfold zea; dsimp only; simp only [Int.reduceEq, ↓reduceIte, zk]; rw [if_pos (by omega)]; rfl) | (rw [show thN (fun k => List.contains [8] k) 12 = 256 by decide]; unfold zea; simp)) (by dsimp only; omega) (by first | exact .inl zhb | exact .inr hn) (by dsimp only; omega) (by dsimp only; omega) (by first | exact Nat.zero_le _ | (show (ze _ _ _).length ≤ _; rw [zk]; omega)) (by first | exact Nat.zero_le _ | (show (ze _ _ _).length ≤ _; rw [zk]; omega)) (by first | exact Nat.zero_le _ | (show (ze _ _ _).length ≤ _; rw [zk]; omega)) (by first | exact Nat.zero_le _ | (show (ze _ _ _).length ≤ _; rw [zk]; omega)) (by first | exact Nat.zero_le _ | (show (ze _ _ _).length ≤ _; rw [zk]; omega)) (by dsimp only; omega) (by dsimp only; omega)
theorem mkM_ok (kind n : Int) (s : ByteArray) (b : List UInt8) : MsgOk (mkM kind n s b) ∧ (mkM kind n s b).s.size ≤ 1000 := by
  have h2 := Int.emod_two_eq n
  have hA := kn n (show (0 : Int) < 4294967295 by decide)
  have hC := kn (n.tdiv 3) (show (0 : Int) < 70000 by decide)
  have h11 := Int.emod_nonneg n (show (11 : Int) ≠ 0 by decide)
  have h11' := Int.emod_lt_of_pos n (show (0 : Int) < 11 by decide)
  have h40 := Int.emod_nonneg n (show (1099511627776 : Int) ≠ 0 by decide)
  have h40' := Int.emod_lt_of_pos n (show (0 : Int) < 1099511627776 by decide)
  have hs := nmB_size s
  have e1 : ("".toUTF8).size ≤ 1000000 := by decide
  have e2 : ("".toUTF8).size ≤ 1000 := by decide
  unfold mkM
  by_cases k0 : kind % 12 = 0
  · rw [if_pos k0]
    by_cases q : n % 2 = 0
    · rw [if_pos q]; exact ⟨⟨(by dsimp only; omega), (by dsimp only; omega), (by dsimp only; omega), (by dsimp only; omega), (by dsimp only; first | exact e1 | omega), Nat.lt_trans (m := 4294967296) (by dsimp only; omega) (by decide), Nat.lt_trans (m := 4294967296) (by dsimp only; omega) (by decide)⟩, (by dsimp only; first | exact e2 | omega)⟩
    · rw [if_neg q]; exact ⟨⟨(by dsimp only; omega), (by dsimp only; omega), (by dsimp only; omega), (by dsimp only; omega), (by dsimp only; first | exact e1 | omega), Nat.lt_trans (m := 4294967296) (by dsimp only; omega) (by decide), Nat.lt_trans (m := 4294967296) (by dsimp only; omega) (by decide)⟩, (by dsimp only; first | exact e2 | omega)⟩
  rw [if_neg k0]
  by_cases k1 : kind % 12 = 1
  · rw [if_pos k1]
    by_cases q : n % 2 = 0
    · rw [if_pos q]; exact ⟨⟨(by dsimp only; omega), (by dsimp only; omega), (by dsimp only; omega), (by dsimp only; omega), (by dsimp only; first | exact e1 | omega), Nat.lt_trans (m := 4294967296) (by dsimp only; omega) (by decide), Nat.lt_trans (m := 4294967296) (by dsimp only; omega) (by decide)⟩, (by dsimp only; first | exact e2 | omega)⟩
    · rw [if_neg q]; exact ⟨⟨(by dsimp only; omega), (by dsimp only; omega), (by dsimp only; omega), (by dsimp only; omega), (by dsimp only; first | exact e1 | omega), Nat.lt_trans (m := 4294967296) (by dsimp only; omega) (by decide), Nat.lt_trans (m := 4294967296) (by dsimp only; omega) (by decide)⟩, (by dsimp only; first | exact e2 | omega)⟩
  rw [if_neg k1]
  by_cases k2 : kind % 12 = 2
  · rw [if_pos k2]
    exact ⟨⟨(by dsimp only; omega), (by dsimp only; omega), (by dsimp only; omega), (by dsimp only; omega), (by dsimp only; first | exact e1 | omega), Nat.lt_trans (m := 4294967296) (by dsimp only; omega) (by decide), Nat.lt_trans (m := 4294967296) (by dsimp only; omega) (by decide)⟩, (by dsimp only; first | exact e2 | omega)⟩
  rw [if_neg k2]
  by_cases k3 : kind % 12 = 3
  · rw [if_pos k3]
    by_cases q : n.tdiv 2 % 2 = 0
    · rw [if_pos q]; exact ⟨⟨(by dsimp only; omega), (by dsimp only; omega), (by dsimp only; omega), (by dsimp only; omega), (by dsimp only; first | exact e1 | omega), Nat.lt_trans (m := 4294967296) (by dsimp only; omega) (by decide), Nat.lt_trans (m := 4294967296) (by dsimp only; omega) (by decide)⟩, (by dsimp only; first | exact e2 | omega)⟩
    · rw [if_neg q]; exact ⟨⟨(by dsimp only; omega), (by dsimp only; omega), (by dsimp only; omega), (by dsimp only; omega), (by dsimp only; first | exact e1 | omega), Nat.lt_trans (m := 4294967296) (by dsimp only; omega) (by decide), Nat.lt_trans (m := 4294967296) (by dsimp only; omega) (by decide)⟩, (by dsimp only; first | exact e2 | omega)⟩
  rw [if_neg k3]
  by_cases k4 : kind % 12 = 4
  · rw [if_pos k4]
    exact ⟨⟨(by dsimp only; omega), (by dsimp only; omega), (by dsimp only; omega), (by dsimp only; omega), (by dsimp only; first | exact e1 | omega), Nat.lt_trans (m := 4294967296) (by dsimp only; omega) (by decide), Nat.lt_trans (m := 4294967296) (by dsimp only; omega) (by decide)⟩, (by dsimp only; first | exact e2 | omega)⟩
  rw [if_neg k4]
  by_cases k5 : kind % 12 = 5
  · rw [if_pos k5]
    exact ⟨⟨(by dsimp only; omega), (by dsimp only; omega), (by dsimp only; omega), (by dsimp only; omega), (by dsimp only; first | exact e1 | omega), Nat.lt_trans (m := 4294967296) (by dsimp only; omega) (by decide), Nat.lt_trans (m := 4294967296) (by dsimp only; omega) (by decide)⟩, (by dsimp only; first | exact e2 | omega)⟩
  rw [if_neg k5]
  by_cases k6 : kind % 12 = 6
  · rw [if_pos k6]
    exact ⟨⟨(by dsimp only; omega), (by dsimp only; omega), (by dsimp only; omega), (by dsimp only; omega), (by dsimp only; first | exact e1 | omega), Nat.lt_trans (m := 4294967296) (by dsimp only; omega) (by decide), Nat.lt_trans (m := 4294967296) (by dsimp only; omega) (by decide)⟩, (by dsimp only; first | exact e2 | omega)⟩
  rw [if_neg k6]
  by_cases k7 : kind % 12 = 7
  · rw [if_pos k7]
    exact ⟨⟨(by dsimp only; omega), (by dsimp only; omega), (by dsimp only; omega), (by dsimp only; omega), (by dsimp only; first | exact e1 | omega), Nat.lt_trans (m := 4294967296) (by dsimp only; omega) (by decide), Nat.lt_trans (m := 4294967296) (by dsimp only; omega) (by decide)⟩, (by dsimp only; first | exact e2 | omega)⟩
  rw [if_neg k7]
  by_cases k8 : kind % 12 = 8
  · rw [if_pos k8]
    exact ⟨⟨(by dsimp only; omega), (by dsimp only; omega), (by dsimp only; omega), (by dsimp only; omega), (by dsimp only; first | exact e1 | omega), Nat.lt_trans (m := 4294967296) (by dsimp only; omega) (by decide), Nat.lt_trans (m := 4294967296) (by dsimp only; omega) (by decide)⟩, (by dsimp only; first | exact e2 | omega)⟩
  rw [if_neg k8]
  by_cases k9 : kind % 12 = 9
  · rw [if_pos k9]
    exact ⟨⟨(by dsimp only; omega), (by dsimp only; omega), (by dsimp only; omega), (by dsimp only; omega), (by dsimp only; first | exact e1 | omega), Nat.lt_trans (m := 4294967296) (by dsimp only; omega) (by decide), Nat.lt_trans (m := 4294967296) (by dsimp only; omega) (by decide)⟩, (by dsimp only; first | exact e2 | omega)⟩
  rw [if_neg k9]
  by_cases k10 : kind % 12 = 10
  · rw [if_pos k10]
    exact ⟨⟨(by dsimp only; omega), (by dsimp only; omega), (by dsimp only; omega), (by dsimp only; omega), (by dsimp only; first | exact e1 | omega), Nat.lt_trans (m := 4294967296) (by dsimp only; omega) (by decide), Nat.lt_trans (m := 4294967296) (by dsimp only; omega) (by decide)⟩, (by dsimp only; first | exact e2 | omega)⟩
  rw [if_neg k10]
  exact ⟨⟨(by dsimp only; omega), (by dsimp only; omega), (by dsimp only; omega), (by dsimp only; omega), (by dsimp only; first | exact e1 | omega), Nat.lt_trans (m := 4294967296) (by dsimp only; omega) (by decide), Nat.lt_trans (m := 4294967296) (by dsimp only; omega) (by decide)⟩, (by dsimp only; first | exact e2 | omega)⟩
theorem mkM_kind (kind n : Int) (s : ByteArray) (b : List UInt8) : (mkM kind n s b).k = 1 + kind % 12 := by
  have h1 := Int.emod_nonneg kind (show (12 : Int) ≠ 0 by decide)
  have h2 := Int.emod_lt_of_pos kind (show (0 : Int) < 12 by decide)
  unfold mkM
  by_cases k0 : kind % 12 = 0
  · rw [if_pos k0]
    by_cases q : n % 2 = 0
    · rw [if_pos q]; dsimp only; omega
    · rw [if_neg q]; dsimp only; omega
  rw [if_neg k0]
  by_cases k1 : kind % 12 = 1
  · rw [if_pos k1]
    by_cases q : n % 2 = 0
    · rw [if_pos q]; dsimp only; omega
    · rw [if_neg q]; dsimp only; omega
  rw [if_neg k1]
  by_cases k2 : kind % 12 = 2
  · rw [if_pos k2]
    dsimp only; omega
  rw [if_neg k2]
  by_cases k3 : kind % 12 = 3
  · rw [if_pos k3]
    by_cases q : n.tdiv 2 % 2 = 0
    · rw [if_pos q]; dsimp only; omega
    · rw [if_neg q]; dsimp only; omega
  rw [if_neg k3]
  by_cases k4 : kind % 12 = 4
  · rw [if_pos k4]
    dsimp only; omega
  rw [if_neg k4]
  by_cases k5 : kind % 12 = 5
  · rw [if_pos k5]
    dsimp only; omega
  rw [if_neg k5]
  by_cases k6 : kind % 12 = 6
  · rw [if_pos k6]
    dsimp only; omega
  rw [if_neg k6]
  by_cases k7 : kind % 12 = 7
  · rw [if_pos k7]
    dsimp only; omega
  rw [if_neg k7]
  by_cases k8 : kind % 12 = 8
  · rw [if_pos k8]
    dsimp only; omega
  rw [if_neg k8]
  by_cases k9 : kind % 12 = 9
  · rw [if_pos k9]
    dsimp only; omega
  rw [if_neg k9]
  by_cases k10 : kind % 12 = 10
  · rw [if_pos k10]
    dsimp only; omega
  rw [if_neg k10]
  dsimp only; omega
end Go.Proofs.Ytlbkogdmojlpmaa
namespace Go.Proofs.Ytlbkogdmojlpmaa
open Go.ChangeShapes Go.WideShapes Go.ChangeAt Go.RowKit
theorem encL_le (m : MsgN) : (encL m).length ≤ 202 := by
  cases h : zua m with
  | false => rw [encL_nn h]; simp
  | true =>
    rw [encL_ok h, encF_len, encRk_len]
    unfold zua at h
    simp only [Bool.and_eq_true, decide_eq_true_eq] at h
    omega
theorem encL_pos {m : MsgN} (h : zua m = true) : 0 < (encL m).length := by rw [encL_ok h]; have := encF_len3 m; omega
theorem WireBad_walk (a0 : Int) (hk0 : -9223372036854775808 ≤ a0) (hl0 : a0 < 9223372036854775808)
  (a1 : Int) (hk1 : -9223372036854775808 ≤ a1) (hl1 : a1 < 9223372036854775808)
  (a2 : ByteArray) (hS2 : a2.size ≤ maxLen)
  (A3 : Option Addr) (n3 cap3 : Nat) (l3 : List UInt8) (hn3 : l3.length = n3) (hc3 : n3 ≤ cap3) (hm3 : cap3 ≤ maxLen) (hz3 : A3 = none → cap3 = 0)
  (a4 : Int) (hk4 : -9223372036854775808 ≤ a4) (hl4 : a4 < 9223372036854775808)
  (A5 : Option Addr) (n5 cap5 : Nat) (l5 : List UInt8) (hn5 : l5.length = n5) (hc5 : n5 ≤ cap5) (hm5 : cap5 ≤ maxLen) (hz5 : A5 = none → cap5 = 0) (w : World) (hr3 : Rd w A3 l3) (hr5 : Rd w A5 l5) :
  Calls Try.prog 11 #[.int .i64 a0, .int .i64 a1, .string a2, .slice A3 n3 cap3, .int .i64 a4, .slice A5 n5 cap5] w fun e w' => e = .returned (.bool true) ∧ Below w.heap.size w w' := by
 have ib3 : IsB w l3 (.slice A3 n3 cap3) := hr3.isB' hn3 hc3 hm3 hz3
 have ib5 : IsB w l5 (.slice A5 n5 cap5) := hr5.isB' hn5 hc5 hm5 hz5
 by_cases b0 : 40 < a2.size
 ·refine zi (args := [.int .i64 a0, .int .i64 a1, .string a2, .slice A3 n3 cap3, .int .i64 a4, .slice A5 n5 cap5]) 131 Try.func11 rfl rfl rfl ?_
  intro fa F
  have M := Mx.start w
  replace M := M.argB 0 ib3 (fun g e => by cases e)
  replace M := M.argB 1 ib5 (fun g e => by cases e)
  refine zT fun _ hK21 => ?_
  refine rm rfl F fun _ F22 => ?_
  refine hK21 _ _ (zS fun _ hK23 => ?_)
  refine zT fun _ hK24 => ?_
  refine zd (za rfl) rfl F22 rfl rfl (enters_of Try.func15 (by kernel_rfl) rfl) #[] (args0) (zh (lknown_any w)) ?_
  rintro _ w25 a25 ⟨rfl, b25⟩ F25
  have M25 := M.step b25
  refine rn rfl rfl F25 rfl (.bool false) (run_not _ _ rfl (F25.get (t := 25) rfl)) fun _ F26 => ?_
  refine hK24 _ _ (wp_cond_false (F26.get rfl) ?_)
  refine wp_skip ?_
  refine hK23 _ _ (zS fun _ hK27 => ?_)
  refine zT fun _ hK28 => ?_
  refine rm rfl F26 fun _ F29 => ?_
  refine rn rfl rfl F29 rfl (.int .i64 (a2.size : Int)) (y_lenS _ rfl (F29.get rfl) rfl) fun _ F30 => ?_
  refine rn rfl rfl F30 rfl (.bool true) (zya _ _ _ _ rfl (F30.get rfl) rfl (decide_eq_true (show (40 : Int) < (a2.size : Int) by omega))) fun _ F31 => ?_
  refine exS 10 [(0, .int .i64 a0), (1, .int .i64 a1), (2, .string a2), (3, .slice A3 n3 cap3), (4, .int .i64 a4), (5, .slice A5 n5 cap5), (12, .bool false), (39, .bool true)] [] dnil [] F31 (by kernel_rfl) fun _ F32 => ?_
  refine hK28 _ _ (wp_cond_true (F32.get rfl) ?_)
  refine zT fun _ hK33 => ?_
  refine rm rfl F32 fun _ F34 => ?_
  refine hK33 _ _ (wp_ret ?_)
  try simp only [Exit.then, Exit.inBlock, Exit.jump]
  exact bodyPost_ret (res1 rfl (F34.get (t := 12) rfl)) F34.defers ⟨rfl, M25.below⟩
 by_cases b1 : 100 < l3.length
 ·refine zi (args := [.int .i64 a0, .int .i64 a1, .string a2, .slice A3 n3 cap3, .int .i64 a4, .slice A5 n5 cap5]) 131 Try.func11 rfl rfl rfl ?_
  intro fa F
  have M := Mx.start w
  replace M := M.argB 0 ib3 (fun g e => by cases e)
  replace M := M.argB 1 ib5 (fun g e => by cases e)
  refine zT fun _ hK21 => ?_
  refine rm rfl F fun _ F22 => ?_
  refine hK21 _ _ (zS fun _ hK23 => ?_)
  refine zT fun _ hK24 => ?_
  refine zd (za rfl) rfl F22 rfl rfl (enters_of Try.func15 (by kernel_rfl) rfl) #[] (args0) (zh (lknown_any w)) ?_
  rintro _ w25 a25 ⟨rfl, b25⟩ F25
  have M25 := M.step b25
  refine rn rfl rfl F25 rfl (.bool false) (run_not _ _ rfl (F25.get (t := 25) rfl)) fun _ F26 => ?_
  refine hK24 _ _ (wp_cond_false (F26.get rfl) ?_)
  refine wp_skip ?_
  refine hK23 _ _ (zS fun _ hK27 => ?_)
  refine zT fun _ hK28 => ?_
  refine rm rfl F26 fun _ F29 => ?_
  refine rn rfl rfl F29 rfl (.int .i64 (a2.size : Int)) (y_lenS _ rfl (F29.get rfl) rfl) fun _ F30 => ?_
  refine rn rfl rfl F30 rfl (.bool false) (zya _ _ _ _ rfl (F30.get rfl) rfl (decide_eq_false (show ¬ (40 : Int) < (a2.size : Int) by omega))) fun _ F31 => ?_
  refine rm rfl F31 fun _ F32 => ?_
  refine rm rfl F32 fun _ F33 => ?_
  refine zg (w' := w25) (zb rfl rfl rfl (F33.get rfl)) rfl F33 rfl (.int .i64 (l3.length : Int)) (zca _ rfl (F33.get rfl) (M25.isb (k := 0) rfl) rfl) fun _ F34 => ?_
  refine zg (w' := w25) (zb rfl rfl rfl (F34.get rfl)) rfl F34 rfl (.bool true) (zya _ _ _ _ rfl (F34.get rfl) rfl (decide_eq_true (show (100 : Int) < (l3.length : Int) by omega))) fun _ F35 => ?_
  refine exA 6 [(34, .bool true), (35, .bool true), (36, undef), (37, undef), (38, undef), (39, .bool true)] [] dnil [] F35 (by kernel_rfl) (by kernel_rfl) fun _ F36 => ?_
  refine hK28 _ _ (wp_cond_true (F36.get rfl) ?_)
  refine zT fun _ hK37 => ?_
  refine rm rfl F36 fun _ F38 => ?_
  refine hK37 _ _ (wp_ret ?_)
  try simp only [Exit.then, Exit.inBlock, Exit.jump]
  exact bodyPost_ret (res1 rfl (F38.get (t := 12) rfl)) F38.defers ⟨rfl, M25.below⟩
 by_cases b2 : 60 < l5.length
 ·refine zi (args := [.int .i64 a0, .int .i64 a1, .string a2, .slice A3 n3 cap3, .int .i64 a4, .slice A5 n5 cap5]) 131 Try.func11 rfl rfl rfl ?_
  intro fa F
  have M := Mx.start w
  replace M := M.argB 0 ib3 (fun g e => by cases e)
  replace M := M.argB 1 ib5 (fun g e => by cases e)
  refine zT fun _ hK21 => ?_
  refine rm rfl F fun _ F22 => ?_
  refine hK21 _ _ (zS fun _ hK23 => ?_)
  refine zT fun _ hK24 => ?_
  refine zd (za rfl) rfl F22 rfl rfl (enters_of Try.func15 (by kernel_rfl) rfl) #[] (args0) (zh (lknown_any w)) ?_
  rintro _ w25 a25 ⟨rfl, b25⟩ F25
  have M25 := M.step b25
  refine rn rfl rfl F25 rfl (.bool false) (run_not _ _ rfl (F25.get (t := 25) rfl)) fun _ F26 => ?_
  refine hK24 _ _ (wp_cond_false (F26.get rfl) ?_)
  refine wp_skip ?_
  refine hK23 _ _ (zS fun _ hK27 => ?_)
  refine zT fun _ hK28 => ?_
  refine rm rfl F26 fun _ F29 => ?_
  refine rn rfl rfl F29 rfl (.int .i64 (a2.size : Int)) (y_lenS _ rfl (F29.get rfl) rfl) fun _ F30 => ?_
  refine rn rfl rfl F30 rfl (.bool false) (zya _ _ _ _ rfl (F30.get rfl) rfl (decide_eq_false (show ¬ (40 : Int) < (a2.size : Int) by omega))) fun _ F31 => ?_
  refine rm rfl F31 fun _ F32 => ?_
  refine rm rfl F32 fun _ F33 => ?_
  refine zg (w' := w25) (zb rfl rfl rfl (F33.get rfl)) rfl F33 rfl (.int .i64 (l3.length : Int)) (zca _ rfl (F33.get rfl) (M25.isb (k := 0) rfl) rfl) fun _ F34 => ?_
  refine zg (w' := w25) (zb rfl rfl rfl (F34.get rfl)) rfl F34 rfl (.bool false) (zya _ _ _ _ rfl (F34.get rfl) rfl (decide_eq_false (show ¬ (100 : Int) < (l3.length : Int) by omega))) fun _ F35 => ?_
  refine exA 3 [(34, .bool false), (35, .bool false), (36, .slice A5 n5 cap5)] [] dnil [] F35 (by kernel_rfl) (by kernel_rfl) fun _ F36 => ?_
  refine zg (w' := w25) (zb rfl rfl rfl (F36.get rfl)) rfl F36 rfl (.int .i64 (l5.length : Int)) (zca _ rfl (F36.get rfl) (M25.isb (k := 1) rfl) rfl) fun _ F37 => ?_
  refine zg (w' := w25) (zb rfl rfl rfl (F37.get rfl)) rfl F37 rfl (.bool true) (zya _ _ _ _ rfl (F37.get rfl) rfl (decide_eq_true (show (60 : Int) < (l5.length : Int) by omega))) fun _ F38 => ?_
  refine rn rfl rfl F38 rfl (.bool true) (zxb rfl (F38.get rfl) (F38.get rfl)) fun _ F39 => ?_
  refine hK28 _ _ (wp_cond_true (F39.get rfl) ?_)
  refine zT fun _ hK40 => ?_
  refine rm rfl F39 fun a41 F41 => ?_
  refine hK40 _ _ (wp_ret ?_)
  try simp only [Exit.then, Exit.inBlock, Exit.jump]
  exact bodyPost_ret (res1 rfl (F41.get (t := 12) rfl)) F41.defers ⟨rfl, M25.below⟩
 have hs : a2.size ≤ 40 := by omega
 obtain ⟨m, em⟩ : ∃ x, mkM a0 a1 a2 l3 = x := ⟨_, rfl⟩
 obtain ⟨om, zm⟩ := mkM_ok a0 a1 a2 l3
 have rgm := mkM_right a0 a1 a2 l3
 have km := mkM_kind a0 a1 a2 l3
 rw [em] at om zm rgm km
 obtain ⟨qm, hm1⟩ : ∃ x, zua m = x := ⟨_, rfl⟩
 obtain ⟨xm, hm2⟩ : ∃ x, encL m = x := ⟨_, rfl⟩
 clear rgm
 obtain ⟨j, hj, hj9⟩ : ∃ j : Nat, a4 % 9 = (j : Int) ∧ j < 9 := ⟨(a4 % 9).toNat, by omega, by omega⟩
 obtain ⟨bd1, bd2, bd3, bd4⟩ := bad_is j hj9
 have bd5 := bad_dec hj9
 obtain ⟨bd6, bd7⟩ := bad_nx bd2 bd3
 obtain ⟨nn1, nn2, nn3, nn4⟩ := nx_nil (l := []) rfl
 have hxl : xm.length ≤ 202 := by rw [← hm2]; exact encL_le m
 obtain ⟨N1, hN1, hN2, hN3⟩ : ∃ z, wrN true 0 (xm ++ badL j) = z ∧ 0 ≤ z ∧ z ≤ 1000000 := ⟨(0 : Int) + (((xm ++ badL j).length : Nat) : Int), rfl, by omega, by rw [List.length_append]; omega⟩
 refine zi (args := [.int .i64 a0, .int .i64 a1, .string a2, .slice A3 n3 cap3, .int .i64 a4, .slice A5 n5 cap5]) 131 Try.func11 rfl rfl rfl ?_
 intro fa F
 have M := Mx.start w
 replace M := M.argB 0 ib3 (fun g e => by cases e)
 replace M := M.argB 1 ib5 (fun g e => by cases e)
 refine zT fun _ hK21 => ?_
 refine rm rfl F fun _ F22 => ?_
 refine hK21 _ _ (zS fun _ hK23 => ?_)
 refine zT fun _ hK24 => ?_
 refine zd (za rfl) rfl F22 rfl rfl (enters_of Try.func15 (by kernel_rfl) rfl) #[] (args0) (zh (lknown_any w)) ?_
 rintro _ w25 a25 ⟨rfl, b25⟩ F25
 have M25 := M.step b25
 refine rn rfl rfl F25 rfl (.bool false) (run_not _ _ rfl (F25.get (t := 25) rfl)) fun _ F26 => ?_
 refine hK24 _ _ (wp_cond_false (F26.get rfl) ?_)
 refine wp_skip ?_
 refine hK23 _ _ (zS fun _ hK27 => ?_)
 refine zT fun _ hK28 => ?_
 refine rm rfl F26 fun _ F29 => ?_
 refine rn rfl rfl F29 rfl (.int .i64 (a2.size : Int)) (y_lenS _ rfl (F29.get rfl) rfl) fun _ F30 => ?_
 refine rn rfl rfl F30 rfl (.bool false) (zya _ _ _ _ rfl (F30.get rfl) rfl (decide_eq_false (show ¬ (40 : Int) < (a2.size : Int) by omega))) fun _ F31 => ?_
 refine rm rfl F31 fun _ F32 => ?_
 refine rm rfl F32 fun _ F33 => ?_
 refine zg (w' := w25) (zb rfl rfl rfl (F33.get rfl)) rfl F33 rfl (.int .i64 (l3.length : Int)) (zca _ rfl (F33.get rfl) (M25.isb (k := 0) rfl) rfl) fun _ F34 => ?_
 refine zg (w' := w25) (zb rfl rfl rfl (F34.get rfl)) rfl F34 rfl (.bool false) (zya _ _ _ _ rfl (F34.get rfl) rfl (decide_eq_false (show ¬ (100 : Int) < (l3.length : Int) by omega))) fun _ F35 => ?_
 refine exA 3 [(34, .bool false), (35, .bool false), (36, .slice A5 n5 cap5)] [] dnil [] F35 (by kernel_rfl) (by kernel_rfl) fun _ F36 => ?_
 refine zg (w' := w25) (zb rfl rfl rfl (F36.get rfl)) rfl F36 rfl (.int .i64 (l5.length : Int)) (zca _ rfl (F36.get rfl) (M25.isb (k := 1) rfl) rfl) fun _ F37 => ?_
 refine zg (w' := w25) (zb rfl rfl rfl (F37.get rfl)) rfl F37 rfl (.bool false) (zya _ _ _ _ rfl (F37.get rfl) rfl (decide_eq_false (show ¬ (60 : Int) < (l5.length : Int) by omega))) fun _ F38 => ?_
 refine rn rfl rfl F38 rfl (.bool false) (zxb rfl (F38.get rfl) (F38.get rfl)) fun _ F39 => ?_
 refine hK28 _ _ (wp_cond_false (F39.get rfl) ?_)
 refine wp_skip ?_
 refine hK27 _ _ (zS fun _ hK40 => ?_)
 refine zR ?_
 refine zd (za rfl) rfl F39 rfl rfl (enters_of Try.func26 (by kernel_rfl) rfl) #[] (args0) (new_any w25) ?_
 rintro _ w41 a41 ⟨g41, rfl, hg41, hc41, b41⟩ F41
 have M41 := (M25.newb b41 2 hg41 hc41).nilT 3
 clear M25 b41 hg41 hc41
 refine rm rfl F41 fun _ F42 => ?_
 refine hK40 _ _ (zS fun _ hK43 => ?_)
 refine zT fun _ hK44 => ?_
 refine rm rfl F42 fun _ F45 => ?_
 refine rn rfl rfl F45 rfl (.bool false) (y_eqPN 46 _ Try.underlying46 (by kernel_rfl) _ rfl (F45.get rfl)) fun _ F46 => ?_
 refine hK44 _ _ (wp_cond_false (F46.get rfl) ?_)
 refine wp_skip ?_
 refine hK43 _ _ (zS fun _ hK47 => ?_)
 refine zR ?_
 refine rm rfl F46 fun _ F48 => ?_
 refine rm rfl F48 fun _ F49 => ?_
 refine rm rfl F49 fun _ F50 => ?_
 refine rm rfl F50 fun _ F51 => ?_
 refine zd (za rfl) rfl F51 rfl rfl (enters_of Try.func16 (by kernel_rfl) rfl) #[.int .i64 a0, .int .i64 a1, .string a2, .slice A3 n3 cap3] (args4 (F51.get rfl) (F51.get rfl) (F51.get rfl) (F51.get rfl)) (make_is a0 a1 a2 l3 (.slice A3 n3 cap3) ⟨hk0, hl0⟩ ⟨hk1, hl1⟩ hs m em w41 (M41.isb (k := 0) rfl)) ?_
 rintro _ w52 a52 ⟨V52, rfl, is52, lo52, b52⟩ F52
 have M52 := M41.newMsg b52 is52 lo52 4 5 6 7 8
 clear M41 b52 lo52
 refine zd (za rfl) rfl F52 rfl rfl (enters_of Try.func18 (by kernel_rfl) rfl) #[.agg (msgA m V52)] (zl (F52.get rfl)) (renc_is m V52 om zm qm xm hm1 hm2 w52 ⟨(M52.isb (k := 4) rfl), (M52.isb (k := 5) rfl), (M52.isb (k := 6) rfl), (M52.isb (k := 7) rfl), (M52.isb (k := 8) rfl)⟩) ?_
 rintro _ w53 a53 ⟨v53, rfl, hv53, b53⟩ F53
 have M53 := M52.newO b53 9 hv53
 clear M52 b53 hv53
 obtain ⟨A53, c53, rfl⟩ := (M53.isO (k := 9) rfl).shape
 refine exS 5 [(4, .int .i64 a4), (5, .slice A5 n5 cap5), (12, .bool false), (13, .pointer (some ⟨g41, 0, none⟩)), (14, .slice A53 (xm).length c53)] [] dnil [] F53 (by kernel_rfl) fun _ F54 => ?_
 refine hK47 _ _ (zS fun _ hK55 => ?_)
 refine zR ?_
 refine z7 (za rfl) rfl F54 rfl (z4a M53 10 [0, 201] 2 rfl (by decide) (by decide) rfl (by simp only [List.map_toArray, List.map_cons, List.map_nil]; kernel_rfl)) ?_
 intro v56 a56 w56 F56 M56
 clear F54 M53
 obtain ⟨A56, c56, rfl⟩ := (M56.isO (k := 10) rfl).shape
 refine z7 (za rfl) rfl F56 rfl (z4a M56 11 [255, 255] 2 rfl (by decide) (by decide) rfl (by simp only [List.map_toArray, List.map_cons, List.map_nil]; kernel_rfl)) ?_
 intro v57 a57 w57 F57 M57
 clear F56 M56
 obtain ⟨A57, c57, rfl⟩ := (M57.isO (k := 11) rfl).shape
 refine z7 (za rfl) rfl F57 rfl (z4a M57 12 [0, 0] 2 rfl (by decide) (by decide) rfl (by simp only [List.map_toArray, List.map_cons, List.map_nil]; kernel_rfl)) ?_
 intro v58 a58 w58 F58 M58
 clear F57 M57
 obtain ⟨A58, c58, rfl⟩ := (M58.isO (k := 12) rfl).shape
 refine z7 (za rfl) rfl F58 rfl (z4a M58 13 [0, 1, 0] 3 rfl (by decide) (by decide) rfl (by simp only [List.map_toArray, List.map_cons, List.map_nil]; kernel_rfl)) ?_
 intro v59 a59 w59 F59 M59
 clear F58 M58
 obtain ⟨A59, c59, rfl⟩ := (M59.isO (k := 13) rfl).shape
 refine z7 (za rfl) rfl F59 rfl (z4a M59 14 [0, 1, 13] 3 rfl (by decide) (by decide) rfl (by simp only [List.map_toArray, List.map_cons, List.map_nil]; kernel_rfl)) ?_
 intro v60 a60 w60 F60 M60
 clear F59 M59
 obtain ⟨A60, c60, rfl⟩ := (M60.isO (k := 14) rfl).shape
 refine z7 (za rfl) rfl F60 rfl (z4a M60 15 [0, 2, 7, 0] 4 rfl (by decide) (by decide) rfl (by simp only [List.map_toArray, List.map_cons, List.map_nil]; kernel_rfl)) ?_
 intro v61 a61 w61 F61 M61
 clear F60 M60
 obtain ⟨A61, c61, rfl⟩ := (M61.isO (k := 15) rfl).shape
 refine z7 (za rfl) rfl F61 rfl (z4a M61 16 [0, 3, 5, 11, 0] 5 rfl (by decide) (by decide) rfl (by simp only [List.map_toArray, List.map_cons, List.map_nil]; kernel_rfl)) ?_
 intro v62 a62 w62 F62 M62
 clear F61 M61
 obtain ⟨A62, c62, rfl⟩ := (M62.isO (k := 16) rfl).shape
 refine z7 (za rfl) rfl F62 rfl (z4a M62 17 [0, 4, 5, 11, 1, 0] 6 rfl (by decide) (by decide) rfl (by simp only [List.map_toArray, List.map_cons, List.map_nil]; kernel_rfl)) ?_
 intro v63 a63 w63 F63 M63
 clear F62 M62
 obtain ⟨A63, c63, rfl⟩ := (M63.isO (k := 17) rfl).shape
 refine z7 (za rfl) rfl F63 rfl (z4a M63 18 [0, 4, 5, 11, 1, 12] 6 rfl (by decide) (by decide) rfl (by simp only [List.map_toArray, List.map_cons, List.map_nil]; kernel_rfl)) ?_
 intro v64 a64 w64 F64 M64
 clear F63 M63
 obtain ⟨A64, c64, rfl⟩ := (M64.isO (k := 18) rfl).shape
 refine zla (za rfl) rfl F64 rfl M64 19 (t := 22) (c := #[.slice A56 ([0, 201]).length c56, .slice A57 ([255, 255]).length c57, .slice A58 ([0, 0]).length c58, .slice A59 ([0, 1, 0]).length c59, .slice A60 ([0, 1, 13]).length c60, .slice A61 ([0, 2, 7, 0]).length c61, .slice A62 ([0, 3, 5, 11, 0]).length c62, .slice A63 ([0, 4, 5, 11, 1, 0]).length c63, .slice A64 ([0, 4, 5, 11, 1, 12]).length c64]) (k := 9) (m := 9) (y_litG 41 22 (s := 1) (zv := zN) Try.underlying41 (by kernel_rfl) (by kernel_rfl) rfl (#[.slice A56 ([0, 201]).length c56, .slice A57 ([255, 255]).length c57, .slice A58 ([0, 0]).length c58, .slice A59 ([0, 1, 0]).length c59, .slice A60 ([0, 1, 13]).length c60, .slice A61 ([0, 2, 7, 0]).length c61, .slice A62 ([0, 3, 5, 11, 0]).length c62, .slice A63 ([0, 4, 5, 11, 1, 0]).length c63, .slice A64 ([0, 4, 5, 11, 1, 12]).length c64]) (by decide) (by decide) (by simp only [List.map_toArray, List.map_cons, List.map_nil, (F64.get (t := 52) rfl), (F64.get (t := 53) rfl), (F64.get (t := 54) rfl), (F64.get (t := 55) rfl), (F64.get (t := 56) rfl), (F64.get (t := 57) rfl), (F64.get (t := 58) rfl), (F64.get (t := 59) rfl), (F64.get (t := 60) rfl)]; kernel_rfl)) ?_
 intro g65 a65 w65 F65 M65
 clear F64 M64
 refine rm rfl F65 fun _ F66 => ?_
 refine zd (za rfl) rfl F66 rfl rfl (enters_of Try.func22 (by kernel_rfl) rfl) #[.int .i64 a4, .int .i64 9] (zfa (F66.get rfl) rfl) (zh ((hj ▸ zn a4 9 (by omega) (by omega) (by omega) (by omega) w65))) ?_
 rintro _ w67 a67 ⟨rfl, rfl⟩ F67
 refine rn rfl rfl F67 rfl (.pointer (some ⟨g65, (0 + j * 1), none⟩)) (y_ixG 41 (s := 1) Try.underlying41 (by kernel_rfl) _ _ rfl (F67.get rfl) (F67.get rfl) rfl hj9 rfl) fun _ F68 => ?_
 have M69 := M65.tame (k := 10) rfl
 clear M65
 have M70 := M69.tame (k := 11) rfl
 clear M69
 have M71 := M70.tame (k := 12) rfl
 clear M70
 have M72 := M71.tame (k := 13) rfl
 clear M71
 have M73 := M72.tame (k := 14) rfl
 clear M72
 have M74 := M73.tame (k := 15) rfl
 clear M73
 have M75 := M74.tame (k := 16) rfl
 clear M74
 have M76 := M75.tame (k := 17) rfl
 clear M75
 have M77 := M76.tame (k := 18) rfl
 clear M76
 obtain ⟨bv, hbv, qb, hqb⟩ : ∃ v, (#[.slice A56 ([0, 201]).length c56, .slice A57 ([255, 255]).length c57, .slice A58 ([0, 0]).length c58, .slice A59 ([0, 1, 0]).length c59, .slice A60 ([0, 1, 13]).length c60, .slice A61 ([0, 2, 7, 0]).length c61, .slice A62 ([0, 3, 5, 11, 0]).length c62, .slice A63 ([0, 4, 5, 11, 1, 0]).length c63, .slice A64 ([0, 4, 5, 11, 1, 12]).length c64] : Array Value)[j]? = some v ∧ ∃ q, look [(0, bytR l3 (.slice A3 n3 cap3)), (1, bytR l5 (.slice A5 n5 cap5)), (2, blkR g41 94 (#[zN, .int .i64 0, .bool false])), (3, tlR [] (zN)), (4, bytR m.l5 V52.v5), (5, bytR m.l6 V52.v6), (6, bytR m.l7 V52.v7), (7, bytR m.l8 V52.v8), (8, bytR m.l9 V52.v9), (9, ownR xm (.slice A53 (xm).length c53)), (10, bytR [0, 201] (.slice A56 ([0, 201]).length c56)), (11, bytR [255, 255] (.slice A57 ([255, 255]).length c57)), (12, bytR [0, 0] (.slice A58 ([0, 0]).length c58)), (13, bytR [0, 1, 0] (.slice A59 ([0, 1, 0]).length c59)), (14, bytR [0, 1, 13] (.slice A60 ([0, 1, 13]).length c60)), (15, bytR [0, 2, 7, 0] (.slice A61 ([0, 2, 7, 0]).length c61)), (16, bytR [0, 3, 5, 11, 0] (.slice A62 ([0, 3, 5, 11, 0]).length c62)), (17, bytR [0, 4, 5, 11, 1, 0] (.slice A63 ([0, 4, 5, 11, 1, 0]).length c63)), (18, bytR [0, 4, 5, 11, 1, 12] (.slice A64 ([0, 4, 5, 11, 1, 12]).length c64)), (19, blkR g65 22 (#[.slice A56 ([0, 201]).length c56, .slice A57 ([255, 255]).length c57, .slice A58 ([0, 0]).length c58, .slice A59 ([0, 1, 0]).length c59, .slice A60 ([0, 1, 13]).length c60, .slice A61 ([0, 2, 7, 0]).length c61, .slice A62 ([0, 3, 5, 11, 0]).length c62, .slice A63 ([0, 4, 5, 11, 1, 0]).length c63, .slice A64 ([0, 4, 5, 11, 1, 12]).length c64]))] q = some (bytR (badL j) v) := by
  match j, hj9 with
  | 0, _ => exact ⟨_, rfl, 10, rfl⟩
  | 1, _ => exact ⟨_, rfl, 11, rfl⟩
  | 2, _ => exact ⟨_, rfl, 12, rfl⟩
  | 3, _ => exact ⟨_, rfl, 13, rfl⟩
  | 4, _ => exact ⟨_, rfl, 14, rfl⟩
  | 5, _ => exact ⟨_, rfl, 15, rfl⟩
  | 6, _ => exact ⟨_, rfl, 16, rfl⟩
  | 7, _ => exact ⟨_, rfl, 17, rfl⟩
  | 8, _ => exact ⟨_, rfl, 18, rfl⟩
  | n + 9, h => exact absurd h (by omega)
 have N78 : Mx none w w65 [(0, bytR l3 (.slice A3 n3 cap3)), (1, bytR l5 (.slice A5 n5 cap5)), (2, blkR g41 94 (#[zN, .int .i64 0, .bool false])), (3, tlR [] (zN)), (4, bytR m.l5 V52.v5), (5, bytR m.l6 V52.v6), (6, bytR m.l7 V52.v7), (7, bytR m.l8 V52.v8), (8, bytR m.l9 V52.v9), (9, ownR xm (.slice A53 (xm).length c53)), (10, bytR [0, 201] (.slice A56 ([0, 201]).length c56)), (11, bytR [255, 255] (.slice A57 ([255, 255]).length c57)), (12, bytR [0, 0] (.slice A58 ([0, 0]).length c58)), (13, bytR [0, 1, 0] (.slice A59 ([0, 1, 0]).length c59)), (14, bytR [0, 1, 13] (.slice A60 ([0, 1, 13]).length c60)), (15, bytR [0, 2, 7, 0] (.slice A61 ([0, 2, 7, 0]).length c61)), (16, bytR [0, 3, 5, 11, 0] (.slice A62 ([0, 3, 5, 11, 0]).length c62)), (17, bytR [0, 4, 5, 11, 1, 0] (.slice A63 ([0, 4, 5, 11, 1, 0]).length c63)), (18, bytR [0, 4, 5, 11, 1, 12] (.slice A64 ([0, 4, 5, 11, 1, 12]).length c64)), (19, blkR g65 22 (#[.slice A56 ([0, 201]).length c56, .slice A57 ([255, 255]).length c57, .slice A58 ([0, 0]).length c58, .slice A59 ([0, 1, 0]).length c59, .slice A60 ([0, 1, 13]).length c60, .slice A61 ([0, 2, 7, 0]).length c61, .slice A62 ([0, 3, 5, 11, 0]).length c62, .slice A63 ([0, 4, 5, 11, 1, 0]).length c63, .slice A64 ([0, 4, 5, 11, 1, 12]).length c64]))] := M77.sub ⟨rfl, rfl, rfl, rfl, rfl, rfl, rfl, rfl, rfl, rfl, rfl, rfl, rfl, rfl, rfl, rfl, rfl, rfl, rfl, rfl, trivial⟩
 have M78 := N78.part 20 _ (N78.at_ qb _ hqb) z2a rfl hqb rfl (fun _ h => h)
 clear M77 N78
 obtain ⟨Ab, cb, rfl⟩ := (M78.isb (k := 20) rfl).shape
 refine rn rfl rfl F68 rfl (.slice Ab (badL j).length cb) (y_ld1 _ _ rfl (F68.get rfl) (M78.blk (k := 19) rfl) (show _ from by rw [Nat.zero_add, Nat.mul_one]; exact hbv) Try.underlying22 rfl) fun _ F79 => ?_
 refine rm rfl F79 fun _ F80 => ?_
 refine hK55 _ _ (zS fun _ hK81 => ?_)
 refine zR ?_
 refine rm rfl F80 fun _ F82 => ?_
 cases qm
 ·have hxe : xm = [] := by rw [← hm2]; exact encL_nn hm1
  have y1 : nxOk (xm ++ badL j) = false := by rw [hxe]; exact bd2
  have y2 : nxBad (xm ++ badL j) = true := by rw [hxe]; exact bd3
  obtain ⟨y3, y4⟩ := bad_nx y1 y2
  have hx0 : xm.length = 0 := by rw [hxe]; rfl
  refine z7 (za rfl) rfl F82 rfl (zvb M78 21 rfl) ?_
  intro v83 a83 w83 F83 M83
  clear F82 M78
  obtain ⟨A83, c83, rfl⟩ := (M83.isO (k := 21) rfl).shape
  refine rm rfl F83 fun _ F84 => ?_
  refine z7 (za rfl) rfl F84 rfl (zwa M83 (k := 21) rfl _ _ rfl (F84.get rfl) (F84.get rfl) (M83.isO (k := 9) rfl) (by simp; omega)) ?_
  intro v85 a85 w85 F85 M85
  clear F84 M83
  obtain ⟨A85, c85, rfl⟩ := (M85.isO (k := 21) rfl).shape
  refine rm rfl F85 fun _ F86 => ?_
  refine z7 (za rfl) rfl F86 rfl (zwa M85 (k := 21) rfl _ _ rfl (F86.get rfl) (F86.get rfl) (M85.isb (k := 20) rfl) (by simp; omega)) ?_
  intro v87 a87 w87 F87 M87
  clear F86 M85
  obtain ⟨A87, c87, rfl⟩ := (M87.isO (k := 21) rfl).shape
  have M88 := M87.tame (k := 21) rfl
  clear M87
  refine zd (za rfl) rfl F87 rfl rfl (enters_of Try.func28 (by kernel_rfl) rfl) #[.pointer (some ⟨g41, 0, none⟩), .slice A87 ((xm ++ (badL j))).length c87] (zfa (F87.get rfl) (F87.get rfl)) (zfc M88 2 3 21 g41 [] (xm ++ (badL j)) (zN) (.slice A87 ((xm ++ (badL j))).length c87) 0 false rfl rfl rfl (by decide) (by decide) (by simp; omega) (by decide) true (by decide)) ?_
  rintro _ w89 a89 ⟨u89, N89, rfl⟩ F89
  rw [(show wrL true [] (xm ++ (badL j)) = (xm ++ (badL j)) from rfl)] at N89
  rw [hN1] at N89
  clear M88
  replace N89 : Mx _ _ _ ((2, blkR g41 94 #[u89, .int .i64 N1, .bool false]) :: _) := N89
  refine hK81 _ _ (zS fun _ hK90 => ?_)
  refine zR ?_
  refine rm rfl F89 fun _ F91 => ?_
  refine zd (za rfl) rfl F91 rfl rfl (enters_of Try.func30 (by kernel_rfl) rfl) #[.pointer (some ⟨g41, 0, none⟩)] (zl (F91.get rfl)) (next_is N89 2 3 g41 (xm ++ (badL j)) u89 N1 false rfl rfl (by decide) (by simp; omega) 22 23 24 25 26 mZero false true ([] : List UInt8) y3 y1 (by rw [y2]; rfl) y4) ?_
  rintro _ w92 a92 ⟨u92, V92, N92, rfl⟩ F92
  clear N89
  refine exA 3 [(73, .tuple #[.agg (msgA mZero V92), .bool false]), (76, .agg (msgA mZero V92)), (77, .bool false)] [] dnil [] F92 (by kernel_rfl) (by kernel_rfl) fun _ F93 => ?_
  refine zf (za rfl) rfl F93 rfl N92 27 (t := 29) (c := msgA ⟨0, 0, 0, 0, "".toUTF8, 0, 0, [], [], [], [], []⟩ ⟨zN, zN, zN, zN, zN⟩) (by unfold execOp; kernel_rfl) ?_
  intro g94 a94 w94 F94 M94
  clear F93 N92
  refine zo (za rfl) rfl F94 M94 (k := 27) rfl _ _ _ rfl (F94.get rfl) (F94.get rfl) (msgA mZero V92) (msgA mZero V92) rfl (Nat.le_of_ble_eq_true rfl) (zz (w := w94) ⟨(M94.isb (k := 22) rfl), (M94.isb (k := 23) rfl), (M94.isb (k := 24) rfl), (M94.isb (k := 25) rfl), (M94.isb (k := 26) rfl)⟩) (zu rfl) (by kernel_rfl) ?_
  intro w95 M95
  clear M94
  refine rm rfl F94 fun _ F96 => ?_
  refine hK90 _ _ (zS fun _ hK97 => ?_)
  refine zT fun _ hK98 => ?_
  refine rm rfl F96 fun _ F99 => ?_
  refine rm rfl F99 fun _ F100 => ?_
  refine rn rfl rfl F100 rfl (.int .i64 (xm.length : Int)) (zca _ rfl (F100.get rfl) (M95.isO (k := 9) rfl) rfl) fun _ F101 => ?_
  refine rn rfl rfl F101 rfl (.bool false) (zya _ _ _ _ rfl (F101.get rfl) rfl (decide_eq_false (show ¬ 0 < (xm.length : Int) by omega))) fun _ F102 => ?_
  refine rn rfl rfl F102 rfl (.bool false) (y_neB _ _ rfl (F102.get rfl) (F102.get rfl) rfl) fun _ F103 => ?_
  refine hK98 _ _ (wp_cond_false (F103.get rfl) ?_)
  refine wp_skip ?_
  refine hK97 _ _ (zS fun _ hK104 => ?_)
  refine zT fun _ hK105 => ?_
  refine rm rfl F103 fun _ F106 => ?_
  refine hK105 _ _ (wp_cond_false (F106.get rfl) ?_)
  refine wp_skip ?_
  refine hK104 _ _ (zS fun _ hK107 => ?_)
  refine zR ?_
  refine rm rfl F106 fun _ F108 => ?_
  refine zd (za rfl) rfl F108 rfl rfl (enters_of Try.func30 (by kernel_rfl) rfl) #[.pointer (some ⟨g41, 0, none⟩)] (zl (F108.get rfl)) (next_is M95 2 3 g41 ([] : List UInt8) u92 N1 true rfl rfl (by decide) (by decide) 28 29 30 31 32 mZero false true ([] : List UInt8) nn1 nn2 (by rw [nn3]; rfl) nn4) ?_
  rintro _ w109 a109 ⟨u109, V109, N109, rfl⟩ F109
  clear M95
  refine exA 3 [(90, .tuple #[.agg (msgA mZero V109), .bool false]), (93, .agg (msgA mZero V109)), (94, .bool false)] [] dnil [] F109 (by kernel_rfl) (by kernel_rfl) fun _ F110 => ?_
  refine zf (za rfl) rfl F110 rfl N109 33 (t := 29) (c := msgA ⟨0, 0, 0, 0, "".toUTF8, 0, 0, [], [], [], [], []⟩ ⟨zN, zN, zN, zN, zN⟩) (by unfold execOp; kernel_rfl) ?_
  intro g111 a111 w111 F111 M111
  clear F110 N109
  refine zo (za rfl) rfl F111 M111 (k := 33) rfl _ _ _ rfl (F111.get rfl) (F111.get rfl) (msgA mZero V109) (msgA mZero V109) rfl (Nat.le_of_ble_eq_true rfl) (zz (w := w111) ⟨(M111.isb (k := 28) rfl), (M111.isb (k := 29) rfl), (M111.isb (k := 30) rfl), (M111.isb (k := 31) rfl), (M111.isb (k := 32) rfl)⟩) (zu rfl) (by kernel_rfl) ?_
  intro w112 M112
  clear M111
  refine rm rfl F111 fun _ F113 => ?_
  refine hK107 _ _ (zS fun _ hK114 => ?_)
  refine zR ?_
  refine rm rfl F113 fun _ F115 => ?_
  refine zd (za rfl) rfl F115 rfl rfl (enters_of Try.func23 (by kernel_rfl) rfl) #[.slice Ab (badL j).length cb] (zl (F115.get rfl)) (rdec_is (badL j) (.slice Ab (badL j).length cb) (by omega) false mZero bd1 bd5 w112 (M112.isb (k := 20) rfl)) ?_
  rintro _ w116 a116 ⟨V116, rfl, is116, lo116, b116⟩ F116
  have M116 := M112.newMsg b116 is116 lo116 34 35 36 37 38
  clear M112 b116 lo116
  refine exA 3 [(95, .tuple #[.agg (msgA mZero V116), .bool false]), (98, .agg (msgA mZero V116)), (99, .bool false)] [] dnil [] F116 (by kernel_rfl) (by kernel_rfl) fun _ F117 => ?_
  refine zf (za rfl) rfl F117 rfl M116 39 (t := 29) (c := msgA ⟨0, 0, 0, 0, "".toUTF8, 0, 0, [], [], [], [], []⟩ ⟨zN, zN, zN, zN, zN⟩) (by unfold execOp; kernel_rfl) ?_
  intro g118 a118 w118 F118 M118
  clear F117 M116
  refine zo (za rfl) rfl F118 M118 (k := 39) rfl _ _ _ rfl (F118.get rfl) (F118.get rfl) (msgA mZero V116) (msgA mZero V116) rfl (Nat.le_of_ble_eq_true rfl) (zz (w := w118) ⟨(M118.isb (k := 34) rfl), (M118.isb (k := 35) rfl), (M118.isb (k := 36) rfl), (M118.isb (k := 37) rfl), (M118.isb (k := 38) rfl)⟩) (zu rfl) (by kernel_rfl) ?_
  intro w119 M119
  clear M118
  refine rm rfl F118 fun _ F120 => ?_
  refine hK114 _ _ (zS fun _ hK121 => ?_)
  refine zR ?_
  refine rm rfl F120 fun _ F122 => ?_
  refine zd (za rfl) rfl F122 rfl rfl (enters_of Try.func32 (by kernel_rfl) rfl) #[.pointer (some ⟨g41, 0, none⟩)] (zl (F122.get rfl)) (zh ((bad_any g41 u109 N1 true w119 (M119.blk (k := 2) rfl)))) ?_
  rintro _ w123 a123 ⟨rfl, b123⟩ F123
  have M123 := M119.step b123
  refine exS 11 [(5, .slice A5 n5 cap5), (12, .bool false), (13, .pointer (some ⟨g41, 0, none⟩)), (14, .slice A53 (xm).length c53), (110, .bool true), (112, .int .i64 mZero.k)] [0] (zt (M123.blk (k := 39) rfl) dnil) [g118] F123 (by kernel_rfl) fun _ F124 => ?_
  refine zg (w' := w123) (zb rfl rfl rfl (F124.get rfl)) rfl F124 rfl (.bool true) (zq _ _ _ _ rfl (F124.get rfl) rfl Try.underlying3 (zma rfl)) fun _ F125 => ?_
  refine exA 4 [(114, .bool true), (115, .bool true), (116, .pointer (some ⟨g41, 0, none⟩)), (117, .slice A5 n5 cap5)] [] dnil [] F125 (by kernel_rfl) (by kernel_rfl) fun _ F126 => ?_
  refine zd (zb rfl rfl rfl (F126.get rfl)) rfl F126 rfl rfl (enters_of Try.func28 (by kernel_rfl) rfl) #[.pointer (some ⟨g41, 0, none⟩), .slice A5 n5 cap5] (zfa (F126.get rfl) (F126.get rfl)) (zfc M123 2 3 1 g41 ([] : List UInt8) l5 u109 (.slice A5 n5 cap5) N1 true rfl rfl rfl (by decide) (by decide) (by simp; omega) ⟨hN2, hN3⟩ false rfl) ?_
  rintro _ w127 a127 ⟨u127, N127, rfl⟩ F127
  rw [(show wrL false [] l5 = [] from rfl)] at N127
  rw [(show wrN false N1 l5 = N1 from rfl)] at N127
  clear M123
  replace N127 : Mx _ _ _ ((2, blkR g41 94 #[u127, .int .i64 N1, .bool true]) :: _) := N127
  refine exS 5 [(12, .bool false), (13, .pointer (some ⟨g41, 0, none⟩)), (121, .bool true), (122, .pointer (some ⟨g41, 0, none⟩)), (123, .slice A53 (xm).length c53)] [] dnil [] F127 (by kernel_rfl) fun _ F128 => ?_
  have M129 := N127.tame (k := 9) rfl
  clear N127
  refine zd (zb rfl rfl rfl (F128.get rfl)) rfl F128 rfl rfl (enters_of Try.func28 (by kernel_rfl) rfl) #[.pointer (some ⟨g41, 0, none⟩), .slice A53 (xm).length c53] (zfa (F128.get rfl) (F128.get rfl)) (zfc M129 2 3 9 g41 [] xm u127 (.slice A53 (xm).length c53) N1 true rfl rfl rfl (by decide) (by decide) (by simp; omega) ⟨hN2, hN3⟩ false rfl) ?_
  rintro _ w130 a130 ⟨u130, N130, rfl⟩ F130
  rw [(show wrL false [] xm = [] from rfl)] at N130
  rw [(show wrN false N1 xm = N1 from rfl)] at N130
  clear M129
  replace N130 : Mx _ _ _ ((2, blkR g41 94 #[u130, .int .i64 N1, .bool true]) :: _) := N130
  refine exS 4 [(12, .bool false), (127, .bool true), (128, .pointer (some ⟨g41, 0, none⟩))] [] dnil [] F130 (by kernel_rfl) fun _ F131 => ?_
  refine zd (zb rfl rfl rfl (F131.get rfl)) rfl F131 rfl rfl (enters_of Try.func32 (by kernel_rfl) rfl) #[.pointer (some ⟨g41, 0, none⟩)] (zl (F131.get rfl)) (zh ((bad_any g41 u130 N1 true w130 (N130.blk (k := 2) rfl)))) ?_
  rintro _ w132 a132 ⟨rfl, b132⟩ F132
  have M132 := N130.step b132
  refine exS 2 [(12, .bool true)] [] dnil [] F132 (by kernel_rfl) fun _ F133 => ?_
  refine hK121 _ _ (wp_ret ?_)
  try simp only [Exit.then, Exit.inBlock, Exit.jump]
  exact bodyPost_ret (res1 rfl (F133.get (t := 12) rfl)) F133.defers ⟨rfl, M132.below⟩
 have hnx := nx_front om hm1 (badL j)
 rw [hm2] at hnx
 obtain ⟨x1, x2, x3, x4⟩ := hnx
 have hx0 : 0 < xm.length := by rw [← hm2]; exact encL_pos hm1
 refine z7 (za rfl) rfl F82 rfl (zvb M78 21 rfl) ?_
 intro v134 a134 w134 F134 M134
 clear F82 M78
 obtain ⟨A134, c134, rfl⟩ := (M134.isO (k := 21) rfl).shape
 refine rm rfl F134 fun _ F135 => ?_
 refine z7 (za rfl) rfl F135 rfl (zwa M134 (k := 21) rfl _ _ rfl (F135.get rfl) (F135.get rfl) (M134.isO (k := 9) rfl) (by simp; omega)) ?_
 intro v136 a136 w136 F136 M136
 clear F135 M134
 obtain ⟨A136, c136, rfl⟩ := (M136.isO (k := 21) rfl).shape
 refine rm rfl F136 fun _ F137 => ?_
 refine z7 (za rfl) rfl F137 rfl (zwa M136 (k := 21) rfl _ _ rfl (F137.get rfl) (F137.get rfl) (M136.isb (k := 20) rfl) (by simp; omega)) ?_
 intro v138 a138 w138 F138 M138
 clear F137 M136
 obtain ⟨A138, c138, rfl⟩ := (M138.isO (k := 21) rfl).shape
 have M139 := M138.tame (k := 21) rfl
 clear M138
 refine zd (za rfl) rfl F138 rfl rfl (enters_of Try.func28 (by kernel_rfl) rfl) #[.pointer (some ⟨g41, 0, none⟩), .slice A138 ((xm ++ (badL j))).length c138] (zfa (F138.get rfl) (F138.get rfl)) (zfc M139 2 3 21 g41 [] (xm ++ (badL j)) (zN) (.slice A138 ((xm ++ (badL j))).length c138) 0 false rfl rfl rfl (by decide) (by decide) (by simp; omega) (by decide) true (by decide)) ?_
 rintro _ w140 a140 ⟨u140, N140, rfl⟩ F140
 rw [(show wrL true [] (xm ++ (badL j)) = (xm ++ (badL j)) from rfl)] at N140
 rw [hN1] at N140
 clear M139
 replace N140 : Mx _ _ _ ((2, blkR g41 94 #[u140, .int .i64 N1, .bool false]) :: _) := N140
 refine hK81 _ _ (zS fun _ hK141 => ?_)
 refine zR ?_
 refine rm rfl F140 fun _ F142 => ?_
 refine zd (za rfl) rfl F142 rfl rfl (enters_of Try.func30 (by kernel_rfl) rfl) #[.pointer (some ⟨g41, 0, none⟩)] (zl (F142.get rfl)) (next_is N140 2 3 g41 (xm ++ (badL j)) u140 N1 false rfl rfl (by decide) (by simp; omega) 22 23 24 25 26 m true false (badL j) x2 x1 (by rw [x3]; rfl) x4) ?_
 rintro _ w143 a143 ⟨u143, V143, N143, rfl⟩ F143
 clear N140
 refine exA 3 [(73, .tuple #[.agg (msgA m V143), .bool true]), (76, .agg (msgA m V143)), (77, .bool true)] [] dnil [] F143 (by kernel_rfl) (by kernel_rfl) fun _ F144 => ?_
 refine zf (za rfl) rfl F144 rfl N143 27 (t := 29) (c := msgA ⟨0, 0, 0, 0, "".toUTF8, 0, 0, [], [], [], [], []⟩ ⟨zN, zN, zN, zN, zN⟩) (by unfold execOp; kernel_rfl) ?_
 intro g145 a145 w145 F145 M145
 clear F144 N143
 refine zo (za rfl) rfl F145 M145 (k := 27) rfl _ _ _ rfl (F145.get rfl) (F145.get rfl) (msgA m V143) (msgA m V143) rfl (Nat.le_of_ble_eq_true rfl) (zz (w := w145) ⟨(M145.isb (k := 22) rfl), (M145.isb (k := 23) rfl), (M145.isb (k := 24) rfl), (M145.isb (k := 25) rfl), (M145.isb (k := 26) rfl)⟩) (zu rfl) (by kernel_rfl) ?_
 intro w146 M146
 clear M145
 refine rm rfl F145 fun _ F147 => ?_
 refine hK141 _ _ (zS fun _ hK148 => ?_)
 refine zT fun _ hK149 => ?_
 refine rm rfl F147 fun _ F150 => ?_
 refine rm rfl F150 fun _ F151 => ?_
 refine rn rfl rfl F151 rfl (.int .i64 (xm.length : Int)) (zca _ rfl (F151.get rfl) (M146.isO (k := 9) rfl) rfl) fun _ F152 => ?_
 refine rn rfl rfl F152 rfl (.bool true) (zya _ _ _ _ rfl (F152.get rfl) rfl (decide_eq_true (show 0 < (xm.length : Int) by omega))) fun _ F153 => ?_
 refine rn rfl rfl F153 rfl (.bool false) (y_neB _ _ rfl (F153.get rfl) (F153.get rfl) rfl) fun _ F154 => ?_
 refine hK149 _ _ (wp_cond_false (F154.get rfl) ?_)
 refine wp_skip ?_
 refine hK148 _ _ (zS fun _ hK155 => ?_)
 refine zT fun _ hK156 => ?_
 refine rm rfl F154 fun _ F157 => ?_
 refine hK156 _ _ (wp_cond_true (F157.get rfl) ?_)
 refine zT fun _ hK158 => ?_
 refine rm rfl F157 fun _ F159 => ?_
 refine zd (za rfl) rfl F159 rfl rfl (enters_of Try.func30 (by kernel_rfl) rfl) #[.pointer (some ⟨g41, 0, none⟩)] (zl (F159.get rfl)) (next_is M146 2 3 g41 (badL j) u143 N1 false rfl rfl (by decide) (by omega) 28 29 30 31 32 mZero false true ([] : List UInt8) bd6 bd2 (by rw [bd3]; rfl) bd7) ?_
 rintro _ w160 a160 ⟨u160, V160, N160, rfl⟩ F160
 clear M146
 refine exA 3 [(84, .tuple #[.agg (msgA mZero V160), .bool false]), (87, .agg (msgA mZero V160)), (88, .bool false)] [] dnil [] F160 (by kernel_rfl) (by kernel_rfl) fun _ F161 => ?_
 refine zf (za rfl) rfl F161 rfl N160 33 (t := 29) (c := msgA ⟨0, 0, 0, 0, "".toUTF8, 0, 0, [], [], [], [], []⟩ ⟨zN, zN, zN, zN, zN⟩) (by unfold execOp; kernel_rfl) ?_
 intro g162 a162 w162 F162 M162
 clear F161 N160
 refine zo (za rfl) rfl F162 M162 (k := 33) rfl _ _ _ rfl (F162.get rfl) (F162.get rfl) (msgA mZero V160) (msgA mZero V160) rfl (Nat.le_of_ble_eq_true rfl) (zz (w := w162) ⟨(M162.isb (k := 28) rfl), (M162.isb (k := 29) rfl), (M162.isb (k := 30) rfl), (M162.isb (k := 31) rfl), (M162.isb (k := 32) rfl)⟩) (zu rfl) (by kernel_rfl) ?_
 intro w163 M163
 clear M162
 refine rm rfl F162 fun _ F164 => ?_
 refine hK158 _ _ (zS fun _ hK165 => ?_)
 refine zR ?_
 refine rm rfl F164 fun _ F166 => ?_
 refine hK165 _ _ (wp_cond_false (F166.get rfl) ?_)
 refine wp_skip ?_
 refine hK155 _ _ (zS fun _ hK167 => ?_)
 refine zR ?_
 refine rm rfl F166 fun _ F168 => ?_
 refine zd (za rfl) rfl F168 rfl rfl (enters_of Try.func30 (by kernel_rfl) rfl) #[.pointer (some ⟨g41, 0, none⟩)] (zl (F168.get rfl)) (next_is M163 2 3 g41 ([] : List UInt8) u160 N1 true rfl rfl (by decide) (by decide) 34 35 36 37 38 mZero false true ([] : List UInt8) nn1 nn2 (by rw [nn3]; rfl) nn4) ?_
 rintro _ w169 a169 ⟨u169, V169, N169, rfl⟩ F169
 clear M163
 refine exA 3 [(90, .tuple #[.agg (msgA mZero V169), .bool false]), (93, .agg (msgA mZero V169)), (94, .bool false)] [] dnil [] F169 (by kernel_rfl) (by kernel_rfl) fun _ F170 => ?_
 refine zf (za rfl) rfl F170 rfl N169 39 (t := 29) (c := msgA ⟨0, 0, 0, 0, "".toUTF8, 0, 0, [], [], [], [], []⟩ ⟨zN, zN, zN, zN, zN⟩) (by unfold execOp; kernel_rfl) ?_
 intro g171 a171 w171 F171 M171
 clear F170 N169
 refine zo (za rfl) rfl F171 M171 (k := 39) rfl _ _ _ rfl (F171.get rfl) (F171.get rfl) (msgA mZero V169) (msgA mZero V169) rfl (Nat.le_of_ble_eq_true rfl) (zz (w := w171) ⟨(M171.isb (k := 34) rfl), (M171.isb (k := 35) rfl), (M171.isb (k := 36) rfl), (M171.isb (k := 37) rfl), (M171.isb (k := 38) rfl)⟩) (zu rfl) (by kernel_rfl) ?_
 intro w172 M172
 clear M171
 refine rm rfl F171 fun _ F173 => ?_
 refine hK167 _ _ (zS fun _ hK174 => ?_)
 refine zR ?_
 refine rm rfl F173 fun _ F175 => ?_
 refine zd (za rfl) rfl F175 rfl rfl (enters_of Try.func23 (by kernel_rfl) rfl) #[.slice Ab (badL j).length cb] (zl (F175.get rfl)) (rdec_is (badL j) (.slice Ab (badL j).length cb) (by omega) false mZero bd1 bd5 w172 (M172.isb (k := 20) rfl)) ?_
 rintro _ w176 a176 ⟨V176, rfl, is176, lo176, b176⟩ F176
 have M176 := M172.newMsg b176 is176 lo176 40 41 42 43 44
 clear M172 b176 lo176
 refine exA 3 [(95, .tuple #[.agg (msgA mZero V176), .bool false]), (98, .agg (msgA mZero V176)), (99, .bool false)] [] dnil [] F176 (by kernel_rfl) (by kernel_rfl) fun _ F177 => ?_
 refine zf (za rfl) rfl F177 rfl M176 45 (t := 29) (c := msgA ⟨0, 0, 0, 0, "".toUTF8, 0, 0, [], [], [], [], []⟩ ⟨zN, zN, zN, zN, zN⟩) (by unfold execOp; kernel_rfl) ?_
 intro g178 a178 w178 F178 M178
 clear F177 M176
 refine zo (za rfl) rfl F178 M178 (k := 45) rfl _ _ _ rfl (F178.get rfl) (F178.get rfl) (msgA mZero V176) (msgA mZero V176) rfl (Nat.le_of_ble_eq_true rfl) (zz (w := w178) ⟨(M178.isb (k := 40) rfl), (M178.isb (k := 41) rfl), (M178.isb (k := 42) rfl), (M178.isb (k := 43) rfl), (M178.isb (k := 44) rfl)⟩) (zu rfl) (by kernel_rfl) ?_
 intro w179 M179
 clear M178
 refine rm rfl F178 fun _ F180 => ?_
 refine hK174 _ _ (zS fun _ hK181 => ?_)
 refine zR ?_
 refine rm rfl F180 fun _ F182 => ?_
 refine zd (za rfl) rfl F182 rfl rfl (enters_of Try.func32 (by kernel_rfl) rfl) #[.pointer (some ⟨g41, 0, none⟩)] (zl (F182.get rfl)) (zh ((bad_any g41 u169 N1 true w179 (M179.blk (k := 2) rfl)))) ?_
 rintro _ w183 a183 ⟨rfl, b183⟩ F183
 have M183 := M179.step b183
 refine exS 11 [(5, .slice A5 n5 cap5), (12, .bool false), (13, .pointer (some ⟨g41, 0, none⟩)), (14, .slice A53 (xm).length c53), (110, .bool true), (112, .int .i64 mZero.k)] [0] (zt (M183.blk (k := 45) rfl) dnil) [g178] F183 (by kernel_rfl) fun _ F184 => ?_
 refine zg (w' := w183) (zb rfl rfl rfl (F184.get rfl)) rfl F184 rfl (.bool true) (zq _ _ _ _ rfl (F184.get rfl) rfl Try.underlying3 (zma rfl)) fun _ F185 => ?_
 refine exA 4 [(114, .bool true), (115, .bool true), (116, .pointer (some ⟨g41, 0, none⟩)), (117, .slice A5 n5 cap5)] [] dnil [] F185 (by kernel_rfl) (by kernel_rfl) fun _ F186 => ?_
 refine zd (zb rfl rfl rfl (F186.get rfl)) rfl F186 rfl rfl (enters_of Try.func28 (by kernel_rfl) rfl) #[.pointer (some ⟨g41, 0, none⟩), .slice A5 n5 cap5] (zfa (F186.get rfl) (F186.get rfl)) (zfc M183 2 3 1 g41 ([] : List UInt8) l5 u169 (.slice A5 n5 cap5) N1 true rfl rfl rfl (by decide) (by decide) (by simp; omega) ⟨hN2, hN3⟩ false rfl) ?_
 rintro _ w187 a187 ⟨u187, N187, rfl⟩ F187
 rw [(show wrL false [] l5 = [] from rfl)] at N187
 rw [(show wrN false N1 l5 = N1 from rfl)] at N187
 clear M183
 replace N187 : Mx _ _ _ ((2, blkR g41 94 #[u187, .int .i64 N1, .bool true]) :: _) := N187
 refine exS 5 [(12, .bool false), (13, .pointer (some ⟨g41, 0, none⟩)), (121, .bool true), (122, .pointer (some ⟨g41, 0, none⟩)), (123, .slice A53 (xm).length c53)] [] dnil [] F187 (by kernel_rfl) fun _ F188 => ?_
 have M189 := N187.tame (k := 9) rfl
 clear N187
 refine zd (zb rfl rfl rfl (F188.get rfl)) rfl F188 rfl rfl (enters_of Try.func28 (by kernel_rfl) rfl) #[.pointer (some ⟨g41, 0, none⟩), .slice A53 (xm).length c53] (zfa (F188.get rfl) (F188.get rfl)) (zfc M189 2 3 9 g41 [] xm u187 (.slice A53 (xm).length c53) N1 true rfl rfl rfl (by decide) (by decide) (by simp; omega) ⟨hN2, hN3⟩ false rfl) ?_
 rintro _ w190 a190 ⟨u190, N190, rfl⟩ F190
 rw [(show wrL false [] xm = [] from rfl)] at N190
 rw [(show wrN false N1 xm = N1 from rfl)] at N190
 clear M189
 replace N190 : Mx _ _ _ ((2, blkR g41 94 #[u190, .int .i64 N1, .bool true]) :: _) := N190
 refine exS 4 [(12, .bool false), (127, .bool true), (128, .pointer (some ⟨g41, 0, none⟩))] [] dnil [] F190 (by kernel_rfl) fun _ F191 => ?_
 refine zd (zb rfl rfl rfl (F191.get rfl)) rfl F191 rfl rfl (enters_of Try.func32 (by kernel_rfl) rfl) #[.pointer (some ⟨g41, 0, none⟩)] (zl (F191.get rfl)) (zh ((bad_any g41 u190 N1 true w190 (N190.blk (k := 2) rfl)))) ?_
 rintro _ w192 a192 ⟨rfl, b192⟩ F192
 have M192 := N190.step b192
 refine exS 2 [(12, .bool true)] [] dnil [] F192 (by kernel_rfl) fun _ F193 => ?_
 refine hK181 _ _ (wp_ret ?_)
 try simp only [Exit.then, Exit.inBlock, Exit.jump]
 exact bodyPost_ret (res1 rfl (F193.get (t := 12) rfl)) F193.defers ⟨rfl, M192.below⟩
end Go.Proofs.Ytlbkogdmojlpmaa
