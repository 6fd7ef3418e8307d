/- What WireSizes stands on, part 10. -/
import Derived.Deep.CutRange
import Derived.Test.YtlbkogdmojlpmaaWireSizesP1
import Derived.Test.YtlbkogdmojlpmaaWireSizesP2
import Derived.Test.YtlbkogdmojlpmaaWireSizesP3
import Derived.Test.YtlbkogdmojlpmaaWireSizesP4
import Derived.Test.YtlbkogdmojlpmaaWireSizesP5
import Derived.Test.YtlbkogdmojlpmaaWireSizesP6
import Derived.Test.YtlbkogdmojlpmaaWireSizesP7
import Derived.Test.YtlbkogdmojlpmaaWireSizesP8
import Derived.Test.YtlbkogdmojlpmaaWireSizesP9
namespace Go.Proofs.Ytlbkogdmojlpmaa
set_option linter.unusedVariables false
set_option maxRecDepth 20000
set_option linter.unusedSimpArgs false
open Go.ChangeShapes Go.WideShapes Go.ChangeAt Go.RowKit
theorem enc_is (m : MsgN) (V : MsgV) (ho : MsgOk m) (hs : m.s.size ≤ 1000) (ok : Bool) (l : List UInt8) (h1 : encOk m = ok) (h2 : encL m = l) (w : World) (hm : MsgIs w m V) : Calls Try.prog 17 #[.agg (msgA m V)] w fun e w' => ∃ t, e = .returned t ∧ ∃ v, t = .tuple #[v, .bool ok] ∧ Byt w' w.heap.size v l ∧ Below w.heap.size w w' := by
  subst h1 h2; exact encode_ex m V ho hs w hm
theorem rec_is (r : RecN) (V : RecV) (ho : RecOk r) (ok : Bool) (l : List UInt8) (h1 : keepB r = ok) (h2 : recE r = l) (w : World) (hm : RecIs w r V) : Calls Try.prog 35 #[.agg (recA r V)] w fun e w' => ∃ t, e = .returned t ∧ ∃ v, t = .tuple #[v, .bool ok] ∧ Byt w' w.heap.size v l ∧ Below w.heap.size w w' := by
  subst h1 h2; exact record_ex r V ho w hm
theorem rd_is (b : List UInt8) (bv : Value) (hl : b.length ≤ 100000) (ok : Bool) (r : RecN) (h1 : rdOk b = ok) (h2 : rdR b = r) (w : World) (hb : IsB w b bv) : Calls Try.prog 37 #[bv] w fun e w' => ∃ t, e = .returned t ∧ ∃ V, t = .tuple #[.agg (recA r V), .bool ok] ∧ RecIs w' r V ∧ (∀ q, bfp V.v2 q ∨ bfp V.v5 q → w.heap.size ≤ q) ∧ Below w.heap.size w w' := by
  subst h1 h2; exact (readrec_any b bv hl w hb).mono fun e w' ⟨V, k1, k2, k3, k4⟩ => ⟨_, k1, V, rfl, k2, k3, k4⟩
theorem make_is (kind n : Int) (s : ByteArray) (b : List UInt8) (v : Value) (hkd : -9223372036854775808 ≤ kind ∧ kind < 9223372036854775808) (hN : -9223372036854775808 ≤ n ∧ n < 9223372036854775808) (hs : s.size ≤ 40) (m : MsgN) (hm : mkM kind n s b = m) (w : World) (hv : IsB w b v) : Calls Try.prog 16 #[.int .i64 kind, .int .i64 n, .string s, v] w fun e w' => ∃ t, e = .returned t ∧ ∃ V, t = .agg (msgA m V) ∧ MsgIs w' m V ∧ (∀ g, msgfp V g → w.heap.size ≤ g) ∧ Below w.heap.size w w' := by
  subst hm; exact make_msg kind n s b v hkd hN hs w hv
section
variable {G : Option Nat} {w0 w : World} {R : List (Nat × Res)}
theorem Mx.nilT (M : Mx G w0 w R) (i : Nat) : Mx G w0 w ((i, tlR [] (.slice none 0 0)) :: R) :=
  M.cons i _ (show Tl w (.slice none 0 0) [] from .inl ⟨rfl, rfl⟩) tlR_dep (fun g hg => by cases hg) (fun _ g hg => by cases hg) fun _ _ _ _ _ g hg => by cases hg
theorem Mx.newRec {w' : World} (M : Mx G w0 w R) (h : Below w.heap.size w w') {r : RecN} {V : RecV} (hm : RecIs w' r V) (hlo : ∀ q, bfp V.v2 q ∨ bfp V.v5 q → w.heap.size ≤ q) (a b : Nat) : Mx G w0 w' ((b, bytR r.l5 V.v5) :: (a, bytR r.l2 V.v2) :: R) := by
  obtain ⟨M1, n1⟩ := (M.step h).roB2 (N := w.heap.size) (fun k s e _ g hg => M.lt k s e g hg) a hm.h2 (fun g hg => hlo g (.inl hg))
  exact (M1.roB2 n1 b hm.h5 (fun g hg => hlo g (.inr hg))).1
theorem next_is (M0 : Mx G w0 w R) (k q g : Nat) (l : List UInt8) (u : Value) (n : Int) (b : Bool) (hk : look R k = some (blkR g 94 #[u, .int .i64 n, .bool b])) (hq : look R q = some (tlR l u)) (hne : k ≠ q) (hl : l.length ≤ 1000000) (k5 k6 k7 k8 k9 : Nat) (m : MsgN) (ok bad : Bool) (l2 : List UInt8) (h1 : nxM l = m) (h2 : nxOk l = ok) (h3 : (b || nxBad l) = bad) (h4 : nxL l = l2) :
    Calls Try.prog 30 #[.pointer (some ⟨g, 0, none⟩)] w fun e w' => ∃ t, e = .returned t ∧ ∃ u' V, Mx G w0 w' ((k9, bytR m.l9 V.v9) :: (k8, bytR m.l8 V.v8) :: (k7, bytR m.l7 V.v7) :: (k6, bytR m.l6 V.v6) :: (k5, bytR m.l5 V.v5) :: (k, blkR g 94 #[u', .int .i64 n, .bool bad]) :: (q, tlR l2 u') :: R) ∧ t = .tuple #[.agg (msgA m V), .bool ok] := by
  subst h1 h2 h3 h4; exact next_any M0 k q g l u n b hk hq hne hl k5 k6 k7 k8 k9
end
end Go.Proofs.Ytlbkogdmojlpmaa
namespace Go.Proofs.Ytlbkogdmojlpmaa
set_option linter.unusedVariables false
set_option maxRecDepth 20000
set_option linter.unusedSimpArgs false
open Go.ChangeShapes Go.WideShapes Go.ChangeAt Go.RowKit
def m7 : MsgN := ⟨7, 0, 0, 0, "".toUTF8, 0, 0, [], [], [], [], []⟩
def rA : RecN := ⟨1, ⟨#[97]⟩, [], 0, 0, [], 0, 0, 0⟩
theorem m7_ok : MsgOk m7 := ⟨by decide, by decide, by decide, by decide, by decide, by decide, by decide⟩
theorem rA_ok : RecOk rA := ⟨by decide, by decide, by decide, by decide, by decide, by decide, by decide⟩
theorem m7_right : rightB m7 = true := by
  unfold rightB
  rw [show wantOk m7.k m7.p = true from rfl, show decide (hasB m7 = wantN m7.k m7.p) = true from by decide]
  unfold fitsB
  rw [show nilB m7.s = true from decide_eq_true rfl, show topI m7.a 8 = 0 from topI_none 8, show topI m7.b 8 = 0 from topI_none 8]
  simp [m7]
theorem enc7 : encOk m7 = true ∧ encL m7 = [0, 1, 7] := by
  have h : encOk m7 = true := by
    unfold encOk
    rw [m7_right]
    decide
  exact ⟨h, by rw [encL_ok h]; decide⟩
theorem rA_name : NameOk rA.s := by
  refine ⟨by decide, by decide, fun i h => ?_⟩
  have : i = 0 := by have h1 : rA.s.size = 1 := rfl; omega
  subst this
  exact (show (33 : Int) ≤ ((97 : UInt8).toNat : Int) ∧ ((97 : UInt8).toNat : Int) ≤ 126 by decide)
theorem rA_keep : keepB rA = true := by
  unfold keepB
  rw [show nameB rA.s = true from @decide_eq_true _ (Classical.propDecidable _) rA_name, show topI rA.a 8 = 0 from topI_none 8, show topI rA.b 8 = 0 from topI_none 8]
  decide
theorem known_1 : wrN true 0 (([0, 1, 7] : List UInt8).take 1) = 1 ∧ nxM (([0, 1, 7] : List UInt8).take 1) = mZero ∧ nxOk (([0, 1, 7] : List UInt8).take 1) = false ∧ (false || nxBad (([0, 1, 7] : List UInt8).take 1)) = false ∧ nxL (([0, 1, 7] : List UInt8).take 1) = ([0, 1, 7] : List UInt8).take 1 := by
  obtain ⟨h1, h2⟩ := nx_short (l := ([0, 1, 7] : List UInt8).take 1) (by decide)
  refine ⟨rfl, by rw [nxM, h1]; rfl, h1, by rw [h2]; rfl, by rw [nxL, h1, h2]; rfl⟩
theorem known_2 : wrL true (([0, 1, 7] : List UInt8).take 1) (([0, 1, 7] : List UInt8).drop 1) = [0, 1, 7] ∧ wrN true 1 (([0, 1, 7] : List UInt8).drop 1) = 3 ∧ nxM ([0, 1, 7] : List UInt8) = m7 ∧ nxOk ([0, 1, 7] : List UInt8) = true ∧ (false || nxBad ([0, 1, 7] : List UInt8)) = false ∧ nxL ([0, 1, 7] : List UInt8) = [] := by
  obtain ⟨e1, e2⟩ := enc7
  obtain ⟨d1, d2⟩ := decOk_enc m7_ok e1
  rw [e2] at d1 d2
  have hF : nxF ([0, 1, 7] : List UInt8) = 1 := rfl
  have hT : ([0, 1, 7] : List UInt8).take (2 + nxF ([0, 1, 7] : List UInt8)) = [0, 1, 7] := rfl
  obtain ⟨h1, h2⟩ := nx_whole (l := ([0, 1, 7] : List UInt8)) (by decide) (by rw [hF]; decide) (by rw [hF]; decide)
  rw [hT, d1] at h1 h2
  exact ⟨rfl, rfl, by rw [nxM, h1, hT, d2]; rfl, h1, by rw [h2]; rfl, by rw [nxL, h1]; rfl⟩
theorem y_eqPN {a : Act} {w : World} {o : Oper} (ty tz : TypeId) (hu : Try.prog.underlying ty = some (.pointer (Try.prog.pointee ty))) (hgt : Try.prog.eqGuardType Try.prog.depth ty = false) (x : Operand) {p : Addr} (ho : o.op = .binOp .eql ty x (.const (.pointer none)) tz) (hx : a.eval x = .pointer (some p)) : (execOp a.eval o).run Try.prog w = .ok (.value (.bool false)) w :=
  y_eqV ty tz x _ ho hx (v := .pointer none) rfl (by simp [eqGuard, go_sem, hgt]) (by rw [run_eql_pointer_nil (h := hu)]; rfl)
set_option maxRecDepth 100000 in
set_option maxHeartbeats 8000000 in
theorem lknown_any  (w : World) :
    Calls Try.prog 15 #[] w fun e w' => e = .returned (.bool true) ∧ Below w.heap.size w w' := by
  obtain ⟨L, hL⟩ : ∃ L, L = ([0, 1, 7] : List UInt8) := ⟨_, rfl⟩
  obtain ⟨RB, hRB⟩ : ∃ l, recE rA = l := ⟨_, rfl⟩
  have hRl : RB.length ≤ 100000 := by rw [← hRB, show recE rA = recL rA from if_pos rA_keep]; decide
  have k1 := known_1
  have k2 := known_2
  have hL3 : L.length = 3 := by rw [hL]; rfl
  rw [← hL] at k1 k2
  obtain ⟨e1, e2⟩ := enc7
  rw [← hL] at e2
  obtain ⟨y1, y2⟩ := rd_rec rA_ok rA_keep
  rw [hRB] at y1 y2
  refine calls_fx (args := []) 100 Try.func15 rfl rfl rfl ?_
  intro fa F
  have M := Mx.start w
  refine wp_seq_k fun K21 hK21 => wp_region_lit ?_
  refine rm rfl F fun a22 F22 => ?_
  refine hK21 _ _ (wp_seq_k fun K23 hK23 => ?_)
  refine wp_region_lit ?_
  refine rn rfl rfl F22 rfl (.agg (msgA ⟨7, 0, 0, 0, "".toUTF8, 0, 0, [], [], [], [], []⟩ ⟨.slice none 0 0, .slice none 0 0, .slice none 0 0, .slice none 0 0, .slice none 0 0⟩)) (by unfold execOp; simp only [List.map_toArray, List.map_cons, List.map_nil, ]; kernel_rfl) fun a24 F24 => ?_
  refine wl_call (wanted_none rfl) rfl F24 rfl rfl (enters_of Try.func17 (by kernel_rfl) rfl) #[.agg (msgA ⟨7, 0, 0, 0, "".toUTF8, 0, 0, [], [], [], [], []⟩ ⟨.slice none 0 0, .slice none 0 0, .slice none 0 0, .slice none 0 0, .slice none 0 0⟩)] (args1 (F24.get rfl)) (enc_is m7 vZero m7_ok (by decide) true L e1 e2 w ⟨isb_nil _, isb_nil _, isb_nil _, isb_nil _, isb_nil _⟩) ?_
  rintro _ w25 a25 ⟨v25, rfl, hv25, b25⟩ F25
  have M25 := M.newO b25 0 hv25
  clear M b25 hv25
  obtain ⟨A25, c25, rfl⟩ := (M25.isO (k := 0) rfl).shape
  refine exS 5 [(0, .bool false), (1, .slice A25 (L).length c25), (2, .bool true)] [] dnil [] F25 (by kernel_rfl) fun a26 F26 => ?_
  simp only [List.drop_succ_cons, List.drop_zero]
  refine hK23 _ _ (wp_seq_k fun K27 hK27 => ?_)
  refine wp_region_lit ?_
  refine wl_call (wanted_none rfl) rfl F26 rfl rfl (enters_of Try.func26 (by kernel_rfl) rfl) #[] (args0) (new_any w25) ?_
  rintro _ w28 a28 ⟨g28, rfl, hg28, hc28, b28⟩ F28
  have M28 := (M25.newb b28 1 hg28 hc28).nilT 2
  clear M25 b28 hg28 hc28
  refine rm rfl F28 fun a29 F29 => ?_
  refine hK27 _ _ (wp_seq_k fun K30 hK30 => ?_)
  refine wp_seq_k fun K31 hK31 => wp_region_lit ?_
  refine rm rfl F29 fun a32 F32 => ?_
  refine rn rfl rfl F32 rfl (.bool false) (y_eqPN 46 _ Try.underlying46 (by kernel_rfl) _ rfl (F32.get rfl)) fun a33 F33 => ?_
  refine hK31 _ _ (wp_cond_false (F33.get (t := 19) rfl) ?_)
  refine wp_skip ?_
  refine hK30 _ _ (wp_seq_k fun K34 hK34 => ?_)
  refine wp_region_lit ?_
  refine rm rfl F33 fun a35 F35 => ?_
  refine rm rfl F35 fun a36 F36 => ?_
  refine rm rfl F36 fun a37 F37 => ?_
  refine rn rfl rfl F37 rfl (.int .i64 3) (y_len _ rfl (F37.get rfl) (M28.isO (k := 0) rfl) (by rw [hL3]; rfl)) fun a38 F38 => ?_
  refine rn rfl rfl F38 rfl (.int .i64 1) (y_min _ _ rfl rfl (F38.get rfl) (by decide)) fun a39 F39 => ?_
  refine wl_runE (wanted_none rfl) rfl F39 rfl (y_slTo _ _ rfl (F39.get rfl) (M28.isO (k := 0) rfl) (F39.get rfl) (j := 1) rfl (by omega)) ?_
  intro v40 a40 h40 F40
  have og41 := M28.owns (k := 0) rfl
  have M41 := M28.tame (k := 0) rfl
  clear M28
  have M40 := M41.partB 3 (k := 0) rfl h40.1 h40.2
  clear M41
  obtain ⟨A40, c40, rfl⟩ := (M40.isb (k := 3) rfl).shape
  refine wl_call (wanted_none rfl) rfl F40 rfl rfl (enters_of Try.func28 (by kernel_rfl) rfl) #[.pointer (some ⟨g28, 0, none⟩), .slice A40 ((L.take 1)).length c40] (args2 (F40.get rfl) (F40.get rfl)) (swrite_any M40 1 2 3 g28 [] (L.take 1) (.slice none 0 0) (.slice A40 ((L.take 1)).length c40) 0 false rfl rfl rfl (by decide) (by decide) (by simp only [List.length_nil, List.length_take]; omega) (by decide) true rfl) ?_
  rintro _ w42 a42 ⟨u42, N42, rfl⟩ F42
  rw [(show wrL true [] (L.take 1) = L.take 1 from rfl)] at N42
  rw [k1.1] at N42
  clear M40
  replace N42 : Mx _ _ _ ((1, blkR g28 94 #[u42, .int .i64 1, .bool false]) :: _) := N42
  refine hK34 _ _ (wp_seq_k fun K43 hK43 => ?_)
  refine wp_region_lit ?_
  refine rm rfl F42 fun a44 F44 => ?_
  refine wl_call (wanted_none rfl) rfl F44 rfl rfl (enters_of Try.func30 (by kernel_rfl) rfl) #[.pointer (some ⟨g28, 0, none⟩)] (args1 (F44.get rfl)) (next_is N42 1 2 g28 (L.take 1) u42 1 false rfl rfl (by decide) (by rw [List.length_take]; omega) 4 5 6 7 8 mZero false false (L.take 1) k1.2.1 k1.2.2.1 k1.2.2.2.1 k1.2.2.2.2) ?_
  rintro _ w45 a45 ⟨u45, V45, N45, rfl⟩ F45
  clear N42
  refine exS 3 [(0, .bool false), (1, .slice A25 (L).length c25), (2, .bool true), (3, .pointer (some ⟨g28, 0, none⟩)), (30, .agg (msgA mZero V45)), (31, .bool false)] [] dnil [] F45 (by kernel_rfl) fun a46 F46 => ?_
  simp only [List.drop_succ_cons, List.drop_zero]
  refine wl_alloc (wanted_none rfl) rfl F46 rfl N45 9 (t := 29) (c := msgA ⟨0, 0, 0, 0, "".toUTF8, 0, 0, [], [], [], [], []⟩ ⟨.slice none 0 0, .slice none 0 0, .slice none 0 0, .slice none 0 0, .slice none 0 0⟩) (by unfold execOp; kernel_rfl) ?_
  intro g47 a47 w47 F47 M47
  clear F46 N45
  refine wl_st (wanted_none rfl) rfl F47 M47 (k := 9) rfl _ _ _ rfl (F47.get rfl) (F47.get rfl) (msgA mZero V45) (msgA mZero V45) rfl (Nat.le_of_ble_eq_true rfl) (msgA_one (w := w47) ⟨(M47.isb (k := 4) rfl), (M47.isb (k := 5) rfl), (M47.isb (k := 6) rfl), (M47.isb (k := 7) rfl), (M47.isb (k := 8) rfl)⟩) (y_put0 rfl) (by kernel_rfl) ?_
  intro w48 M48
  clear M47
  refine rm rfl F47 fun a49 F49 => ?_
  refine hK43 _ _ (wp_seq_k fun K50 hK50 => ?_)
  refine wp_region_lit ?_
  refine rm rfl F49 fun a51 F51 => ?_
  refine rm rfl F51 fun a52 F52 => ?_
  refine rm rfl F52 fun a53 F53 => ?_
  refine rn rfl rfl F53 rfl (.int .i64 3) (y_len _ rfl (F53.get rfl) (M48.isb (k := 0) rfl) (by rw [hL3]; rfl)) fun a54 F54 => ?_
  refine rn rfl rfl F54 rfl (.int .i64 1) (y_min _ _ rfl rfl (F54.get rfl) (by decide)) fun a55 F55 => ?_
  refine wl_runE (wanted_none rfl) rfl F55 rfl (y_slFrom _ _ rfl (F55.get rfl) (M48.isb (k := 0) rfl) (F55.get rfl) (i := 1) rfl (by omega)) ?_
  intro v56 a56 h56 F56
  have M56 := M48.partB 10 (k := 0) rfl h56.1 h56.2
  clear M48
  obtain ⟨A56, c56, rfl⟩ := (M56.isb (k := 10) rfl).shape
  refine wl_call (wanted_none rfl) rfl F56 rfl rfl (enters_of Try.func28 (by kernel_rfl) rfl) #[.pointer (some ⟨g28, 0, none⟩), .slice A56 ((L.drop 1)).length c56] (args2 (F56.get rfl) (F56.get rfl)) (swrite_any M56 1 2 10 g28 (L.take 1) (L.drop 1) u45 (.slice A56 ((L.drop 1)).length c56) 1 false rfl rfl rfl (by decide) (by decide) (by simp only [List.length_take, List.length_drop]; omega) (by decide) true (by decide)) ?_
  rintro _ w57 a57 ⟨u57, N57, rfl⟩ F57
  rw [k2.1] at N57
  rw [k2.2.1] at N57
  clear M56
  replace N57 : Mx _ _ _ ((1, blkR g28 94 #[u57, .int .i64 3, .bool false]) :: _) := N57
  refine hK50 _ _ (wp_seq_k fun K58 hK58 => ?_)
  refine wp_region_lit ?_
  refine rm rfl F57 fun a59 F59 => ?_
  refine wl_call (wanted_none rfl) rfl F59 rfl rfl (enters_of Try.func30 (by kernel_rfl) rfl) #[.pointer (some ⟨g28, 0, none⟩)] (args1 (F59.get rfl)) (next_is N57 1 2 g28 L u57 3 false rfl rfl (by decide) (by omega) 11 12 13 14 15 m7 true false ([] : List UInt8) k2.2.2.1 k2.2.2.2.1 k2.2.2.2.2.1 k2.2.2.2.2.2) ?_
  rintro _ w60 a60 ⟨u60, V60, N60, rfl⟩ F60
  clear N57
  refine exA 3 [(39, .tuple #[.agg (msgA m7 V60), .bool true]), (42, .agg (msgA m7 V60)), (43, .bool true)] [] dnil [] F60 (by kernel_rfl) (by kernel_rfl) fun a61 F61 => ?_
  simp only [List.drop_succ_cons, List.drop_zero]
  refine wl_alloc (wanted_none rfl) rfl F61 rfl N60 16 (t := 29) (c := msgA ⟨0, 0, 0, 0, "".toUTF8, 0, 0, [], [], [], [], []⟩ ⟨.slice none 0 0, .slice none 0 0, .slice none 0 0, .slice none 0 0, .slice none 0 0⟩) (by unfold execOp; kernel_rfl) ?_
  intro g62 a62 w62 F62 M62
  clear F61 N60
  refine wl_st (wanted_none rfl) rfl F62 M62 (k := 16) rfl _ _ _ rfl (F62.get rfl) (F62.get rfl) (msgA m7 V60) (msgA m7 V60) rfl (Nat.le_of_ble_eq_true rfl) (msgA_one (w := w62) ⟨(M62.isb (k := 11) rfl), (M62.isb (k := 12) rfl), (M62.isb (k := 13) rfl), (M62.isb (k := 14) rfl), (M62.isb (k := 15) rfl)⟩) (y_put0 rfl) (by kernel_rfl) ?_
  intro w63 M63
  clear M62
  refine rm rfl F62 fun a64 F64 => ?_
  refine hK58 _ _ (wp_seq_k fun K65 hK65 => ?_)
  refine wp_region_lit ?_
  refine rn rfl rfl F64 rfl (.agg (recA ⟨1, ({ data := #[97] }), [], 0, 0, [], 0, 0, 0⟩ ⟨.slice none 0 0, .slice none 0 0⟩)) (by unfold execOp; simp only [List.map_toArray, List.map_cons, List.map_nil, ]; kernel_rfl) fun a66 F66 => ?_
  refine wl_call (wanted_none rfl) rfl F66 rfl rfl (enters_of Try.func35 (by kernel_rfl) rfl) #[.agg (recA ⟨1, ({ data := #[97] }), [], 0, 0, [], 0, 0, 0⟩ ⟨.slice none 0 0, .slice none 0 0⟩)] (args1 (F66.get rfl)) (rec_is rA rvZero rA_ok true RB rA_keep hRB w63 ⟨isb_nil _, isb_nil _⟩) ?_
  rintro _ w67 a67 ⟨v67, rfl, hv67, b67⟩ F67
  have M67 := M63.newO b67 17 hv67
  clear M63 b67 hv67
  obtain ⟨A67, c67, rfl⟩ := (M67.isO (k := 17) rfl).shape
  refine exA 5 [(44, .tuple #[.slice A67 (RB).length c67, .bool true]), (47, .slice A67 (RB).length c67), (48, .bool true), (8, .slice A67 (RB).length c67), (9, .bool true)] [] dnil [] F67 (by kernel_rfl) (by kernel_rfl) fun a68 F68 => ?_
  simp only [List.drop_succ_cons, List.drop_zero]
  refine hK65 _ _ (wp_seq_k fun K69 hK69 => ?_)
  refine wp_region_lit ?_
  refine rm rfl F68 fun a70 F70 => ?_
  refine wl_call (wanted_none rfl) rfl F70 rfl rfl (enters_of Try.func37 (by kernel_rfl) rfl) #[.slice A67 (RB).length c67] (args1 (F70.get rfl)) (rd_is RB (.slice A67 (RB).length c67) hRl true rA y1 y2 w67 (M67.isO (k := 17) rfl)) ?_
  rintro _ w71 a71 ⟨V71, rfl, is71, lo71, b71⟩ F71
  have M71 := M67.newRec b71 is71 lo71 18 19
  clear M67 b71 lo71
  refine exA 3 [(49, .tuple #[.agg (recA rA V71), .bool true]), (52, .agg (recA rA V71)), (53, .bool true)] [] dnil [] F71 (by kernel_rfl) (by kernel_rfl) fun a72 F72 => ?_
  simp only [List.drop_succ_cons, List.drop_zero]
  refine wl_alloc (wanted_none rfl) rfl F72 rfl M71 20 (t := 54) (c := recA ⟨0, "".toUTF8, [], 0, 0, [], 0, 0, 0⟩ ⟨.slice none 0 0, .slice none 0 0⟩) (by unfold execOp; kernel_rfl) ?_
  intro g73 a73 w73 F73 M73
  clear F72 M71
  refine wl_st (wanted_none rfl) rfl F73 M73 (k := 20) rfl _ _ _ rfl (F73.get rfl) (F73.get rfl) (recA rA V71) (recA rA V71) rfl (Nat.le_of_ble_eq_true rfl) (recA_one (w := w73) ⟨(M73.isb (k := 18) rfl), (M73.isb (k := 19) rfl)⟩) (y_put0 rfl) (by kernel_rfl) ?_
  intro w74 M74
  clear M73
  refine rm rfl F73 fun a75 F75 => ?_
  refine hK69 _ _ (wp_seq_k fun K76 hK76 => ?_)
  refine wp_region_lit ?_
  refine rm rfl F75 fun a77 F77 => ?_
  refine rm rfl F77 fun a78 F78 => ?_
  refine rm rfl F78 fun a79 F79 => ?_
  refine wl_run (w' := w74) (wanted_yes rfl rfl rfl (F79.get rfl)) rfl F79 rfl (.int .i64 3) (y_len _ rfl (F79.get rfl) (M74.isb (k := 0) rfl) (by rw [hL3]; rfl)) fun a80 F80 => ?_
  refine exA 4 [(58, .bool true), (59, .bool true), (60, .bool true), (61, .slice A25 (L).length c25)] [] dnil [] F80 (by kernel_rfl) (by kernel_rfl) fun a81 F81 => ?_
  simp only [List.drop_succ_cons, List.drop_zero]
  refine wl_run (w' := w74) (wanted_yes rfl rfl rfl (F81.get rfl)) rfl F81 rfl ((ixV (.slice A25 (L).length c25) 1)) (y_ixB _ _ rfl (F81.get rfl) (M74.isb (k := 0) rfl) rfl rfl (by omega)) fun a82 F82 => ?_
  refine wl_run (w' := w74) (wanted_yes rfl rfl rfl (F82.get rfl)) rfl F82 rfl (.int .u8 (((1 : UInt8).toNat : Nat) : Int)) (y_ldB _ rfl (F82.get rfl) (M74.isb (k := 0) rfl) (by rw [hL]; rfl) rfl) fun a83 F83 => ?_
  refine wl_run (w' := w74) (wanted_yes rfl rfl rfl (F83.get rfl)) rfl F83 rfl (.bool true) (y_eqI _ _ _ _ rfl (F83.get rfl) rfl Try.underlying5 (y_beqT (by decide))) fun a84 F84 => ?_
  refine exA 3 [(65, .bool true), (66, .bool true), (67, .slice A25 (L).length c25)] [] dnil [] F84 (by kernel_rfl) (by kernel_rfl) fun a85 F85 => ?_
  simp only [List.drop_succ_cons, List.drop_zero]
  refine wl_run (w' := w74) (wanted_yes rfl rfl rfl (F85.get rfl)) rfl F85 rfl ((ixV (.slice A25 (L).length c25) 2)) (y_ixB _ _ rfl (F85.get rfl) (M74.isb (k := 0) rfl) rfl rfl (by omega)) fun a86 F86 => ?_
  refine wl_run (w' := w74) (wanted_yes rfl rfl rfl (F86.get rfl)) rfl F86 rfl (.int .u8 (((7 : UInt8).toNat : Nat) : Int)) (y_ldB _ rfl (F86.get rfl) (M74.isb (k := 0) rfl) (by rw [hL]; rfl) rfl) fun a87 F87 => ?_
  refine wl_run (w' := w74) (wanted_yes rfl rfl rfl (F87.get rfl)) rfl F87 rfl (.bool true) (y_eqI _ _ _ _ rfl (F87.get rfl) rfl Try.underlying5 (y_beqT (by decide))) fun a88 F88 => ?_
  refine exS 11 [(0, .bool false), (3, .pointer (some ⟨g28, 0, none⟩)), (9, .bool true), (10, .pointer (some ⟨g73, 0, none⟩)), (11, .bool true), (79, .bool true), (81, .int .i64 m7.k)] [0] (dcons (M74.blk (k := 16) rfl) dnil) [g62] F88 (by kernel_rfl) fun a89 F89 => ?_
  simp only [List.drop_succ_cons, List.drop_zero]
  refine wl_run (w' := w74) (wanted_yes rfl rfl rfl (F89.get rfl)) rfl F89 rfl (.bool true) (y_eqI _ _ _ _ rfl (F89.get rfl) rfl Try.underlying3 (y_beqT (show m7.k = 7 from rfl))) fun a90 F90 => ?_
  refine exA 3 [(83, .bool true), (84, .bool true), (85, .pointer (some ⟨g28, 0, none⟩))] [] dnil [] F90 (by kernel_rfl) (by kernel_rfl) fun a91 F91 => ?_
  simp only [List.drop_succ_cons, List.drop_zero]
  refine wl_call (wanted_yes rfl rfl rfl (F91.get rfl)) rfl F91 rfl rfl (enters_of Try.func32 (by kernel_rfl) rfl) #[.pointer (some ⟨g28, 0, none⟩)] (args1 (F91.get rfl)) (call_ex ((bad_any g28 u60 3 false w74 (M74.blk (k := 1) rfl)))) ?_
  rintro _ w92 a92 ⟨rfl, b92⟩ F92
  have M92 := M74.step b92
  refine exS 11 [(0, .bool false), (95, .bool true), (97, .string rA.s)] [0] (dcons (M92.blk (k := 20) rfl) dnil) [g73] F92 (by kernel_rfl) fun a93 F93 => ?_
  simp only [List.drop_succ_cons, List.drop_zero]
  refine wl_run (w' := w92) (wanted_yes rfl rfl rfl (F93.get rfl)) rfl F93 rfl (.bool true) (y_eqS _ _ _ rfl (F93.get rfl) rfl (decide_eq_true rfl)) fun a94 F94 => ?_
  refine exS 2 [(0, .bool true)] [] dnil [] F94 (by kernel_rfl) fun a95 F95 => ?_
  simp only [List.drop_succ_cons, List.drop_zero]
  refine hK76 _ _ (wp_ret ?_)
  try simp only [Exit.then, Exit.inBlock, Exit.jump]
  exact bodyPost_ret (res1 rfl (F95.get (t := 0) rfl)) F95.defers ⟨rfl, M92.below⟩
end Go.Proofs.Ytlbkogdmojlpmaa
namespace Go.Proofs.Ytlbkogdmojlpmaa
set_option linter.unusedVariables false
set_option maxRecDepth 20000
set_option linter.unusedSimpArgs false
open Go.ChangeShapes Go.WideShapes Go.ChangeAt Go.RowKit
theorem Rd.isB' {w : World} {A : Option Addr} {l : List UInt8} {n c : Nat} (h : Rd w A l) (hn : l.length = n) (hc : n ≤ c) (hm : c ≤ maxLen) (hz : A = none → c = 0) : IsB w l (.slice A n c) := by
  subst hn
  exact ⟨A, c, rfl, hc, hm, hz, h⟩
theorem top_small {a : Nat} (h : a < 4294967296) : topI a 8 ≤ 32 := by
  by_cases h0 : a = 0
  · subst h0; rw [topI_none]; decide
  · have ha : a < 4294967296 ^ 8 := Nat.lt_trans h (by decide)
    have h1 := Nat.log2_self_le h0
    have h2 : a < 2 ^ (Nat.log2 a + 1) := Nat.lt_log2_self
    have h3 : a / 2 ^ (Nat.log2 a) = 1 := by
      apply Nat.div_eq_of_lt_le
      · omega
      · rw [Nat.pow_succ] at h2; omega
    rw [top_one ha h3]
    have h4 : Nat.log2 a < 32 := by
      refine Classical.byContradiction fun hn => ?_
      have : 2 ^ 32 ≤ 2 ^ Nat.log2 a := Nat.pow_le_pow_right (by omega) (by omega)
      omega
    omega
theorem nmB_ne (s : ByteArray) : sBy (nmB s) ≠ [] := by
  by_cases h : (sBy s).length = 0
  · rw [nmB_nil h]; simp [sBy]
  · rw [nmB_some h]
    simp only [sBy, List.toList_toArray]
    intro e
    have := congrArg List.length e
    rw [List.length_take] at this
    have h2 := nmL_len (sBy s)
    unfold sBy at h h2
    simp only [List.length_nil] at this
    omega
theorem nmB_size (s : ByteArray) : 0 < (nmB s).size ∧ (nmB s).size ≤ 16 := by
  have h := nmB_ne s
  have e : (sBy (nmB s)).length = (nmB s).size := sBy_len _
  refine ⟨by have := List.length_pos_iff.2 h; omega, ?_⟩
  by_cases h0 : (sBy s).length = 0
  · rw [nmB_nil h0]; decide
  · rw [← e, nmB_some h0]
    simp only [sBy, List.toList_toArray, List.length_take]
    omega
theorem name_of {B : ByteArray} (h1 : 0 < B.size) (h2 : B.size ≤ 16) (h : ∀ x ∈ sBy B, 33 ≤ x.toNat ∧ x.toNat ≤ 126) : nameB B = true := by
  refine @decide_eq_true _ (Classical.propDecidable _) ⟨h1, h2, fun i hi => ?_⟩
  have hg : (sBy B)[i]? = some (B[i]'hi) := by
    unfold sBy
    rw [Array.getElem?_toList]
    exact Array.getElem?_eq_getElem hi
  have := h _ (List.mem_of_getElem? hg)
  omega
theorem nmB_ok (s : ByteArray) : nameB (nmB s) = true := by
  refine name_of (nmB_size s).1 (nmB_size s).2 fun x hx => ?_
  by_cases h0 : (sBy s).length = 0
  · rw [nmB_nil h0] at hx
    have : x = 117 := by simpa [sBy] using hx
    subst this; decide
  · rw [nmB_some h0] at hx
    simp only [sBy, List.toList_toArray] at hx
    obtain ⟨y, -, hy⟩ := List.mem_map.1 (List.mem_of_mem_take hx)
    rw [← hy]
    exact nmC_in y
theorem thN_congr {f g : Nat → Bool} : ∀ k, (∀ j, j < k → f j = g j) → thN f k = thN g k
  | 0, _ => rfl
  | k + 1, h => by
    unfold thN
    rw [thN_congr k fun j hj => h j (by omega), h k (by omega)]
theorem right_of {m : MsgN} (F : Nat → Bool) (hF : ∀ k, k < 12 → flagB m k = F k) (hw : ((thN F 12 : Nat) : Int) = wantR m) (hp : 0 ≤ m.p ∧ m.p ≤ 2) (hs : nilB m.s = true ∨ nameB m.s = true) (ha : m.a < 4294967296) (hb : m.b < 4294967296)
    (h5 : m.l5.length ≤ 16) (h6 : m.l6.length ≤ 48) (h7 : m.l7.length ≤ 16) (h8 : m.l8.length ≤ 80) (h9 : m.l9.length ≤ 120) (hc : 0 ≤ m.c) (he : 0 ≤ m.e ∧ m.e ≤ 11) : rightB m = true := by
  rw [← rightR_is]
  unfold rightR hasR
  rw [thN_congr 12 hF, hw]
  have e1 := top_small ha
  have e2 := top_small hb
  have e3 : (nilB m.s || nameB m.s) = true := by rcases hs with h | h <;> rw [h] <;> simp
  rw [e3]
  simp only [Bool.and_eq_true, Bool.not_eq_true', decide_eq_true_eq, decide_eq_false_iff_not]
  refine ⟨⟨⟨⟨⟨⟨⟨⟨⟨⟨⟨⟨⟨trivial, by omega⟩, by omega⟩, trivial⟩, e1⟩, e2⟩, by omega⟩, by omega⟩, by omega⟩, by omega⟩, by omega⟩, hc⟩, he.1⟩, he.2⟩
theorem fl_cases {m : MsgN} {F : Nat → Bool} (h0 : F 0 = false) (h1 : (m.p != 0) = F 1) (h2 : (!(sBy m.s).isEmpty) = F 2) (h3 : (!decide (m.a = 0)) = F 3) (h4 : (!decide (m.b = 0)) = F 4) (h5 : (!m.l5.isEmpty) = F 5) (h6 : (!m.l6.isEmpty) = F 6) (h7 : (!m.l7.isEmpty) = F 7) (h8 : (!m.l8.isEmpty) = F 8) (h9 : (!m.l9.isEmpty) = F 9) (h10 : (m.c != 0) = F 10) (h11 : (m.e != 0) = F 11) : ∀ k, k < 12 → flagB m k = F k := by
  intro k hk
  have : k = 0 ∨ k = 1 ∨ k = 2 ∨ k = 3 ∨ k = 4 ∨ k = 5 ∨ k = 6 ∨ k = 7 ∨ k = 8 ∨ k = 9 ∨ k = 10 ∨ k = 11 := by omega
  rcases this with rfl | rfl | rfl | rfl | rfl | rfl | rfl | rfl | rfl | rfl | rfl | rfl
  · exact h0.symm
  · rw [← fl_1, h1]
  · exact h2
  · rw [← fl_3, h3]
  · rw [← fl_4, h4]
  · exact h5
  · exact h6
  · exact h7
  · exact h8
  · exact h9
  · rw [← fl_10, h10]
  · rw [← fl_11, h11]
theorem some_ne (b : List UInt8) (n : Int) {K : Nat} (h : 0 < K) : (someL b n K).isEmpty = false := by
  have := someL_len b n K
  cases he : someL b n K with
  | nil => rw [he] at this; simp at this; omega
  | cons x r => rfl
theorem nil_empty : nilB ("".toUTF8) = true := decide_eq_true rfl
theorem nmB_nonempty (s : ByteArray) : (sBy (nmB s)).isEmpty = false := by
  cases he : sBy (nmB s) with
  | nil => exact absurd he (nmB_ne s)
  | cons x r => rfl
theorem kn (n : Int) {k : Int} (hk : 0 < k) : 0 < (1 + n % k).toNat ∧ (1 + n % k).toNat ≤ k.toNat := by
  have h1 := Int.emod_nonneg n (show k ≠ 0 by omega)
  have h2 := Int.emod_lt_of_pos n hk
  omega
set_option maxRecDepth 100000 in
set_option maxHeartbeats 4000000 in
theorem mkM_right (kind n : Int) (s : ByteArray) (b : List UInt8) : rightB (mkM kind n s b) = true := by
  have h2 := Int.emod_two_eq n
  have hA := kn n (show (0 : Int) < 4294967295 by decide)
  have hC := kn (n.tdiv 3) (show (0 : Int) < 70000 by decide)
  have h16 := kn n (show (0 : Int) < 16 by decide)
  have h48 := kn n (show (0 : Int) < 48 by decide)
  have h80 := kn n (show (0 : Int) < 80 by decide)
  have h120 := kn n (show (0 : Int) < 120 by decide)
  have h7 := kn (n.tdiv 7) (show (0 : Int) < 16 by decide)
  have h5 := kn (n.tdiv 5) (show (0 : Int) < 110 by decide)
  have h11 := Int.emod_nonneg n (show (11 : Int) ≠ 0 by decide)
  have h11' := Int.emod_lt_of_pos n (show (0 : Int) < 11 by decide)
  have h40 := Int.emod_nonneg n (show (1099511627776 : Int) ≠ 0 by decide)
  have hp1 : ((1 + n % 2) != 0) = true := y_bneT (by omega)
  have he1 : ((1 + n % 11) != 0) = true := y_bneT (by omega)
  have hc1 : ((1 + n % 1099511627776) != 0) = true := y_bneT (by omega)
  have hA0 : decide ((1 + n % 4294967295).toNat = 0) = false := decide_eq_false (by omega)
  have hC0 : decide ((1 + n.tdiv 3 % 70000).toNat = 0) = false := decide_eq_false (by omega)
  have s16 := some_ne b n h16.1
  have s48 := some_ne b n h48.1
  have s80 := some_ne b n h80.1
  have s120 := some_ne b n h120.1
  have s7 := some_ne b (n.tdiv 7) h7.1
  have s5 := some_ne b (n.tdiv 5) h5.1
  have hn := nmB_ok s
  have hne := nmB_nonempty s
  have key : ∀ (S : List Nat) (m : MsgN), (∀ k, k < 12 → flagB m k = S.contains k) → ((thN (fun k => S.contains k) 12 : Nat) : Int) = wantR m → (0 ≤ m.p ∧ m.p ≤ 2) → (nilB m.s = true ∨ nameB m.s = true) → m.a < 4294967296 → m.b < 4294967296 → m.l5.length ≤ 16 → m.l6.length ≤ 48 → m.l7.length ≤ 16 → m.l8.length ≤ 80 → m.l9.length ≤ 120 → 0 ≤ m.c → (0 ≤ m.e ∧ m.e ≤ 11) → rightB m = true := fun S m a1 a2 a3 a4 a5 a6 a7 a8 a9 a10 a11 a12 a13 => right_of (fun k => S.contains k) a1 a2 a3 a4 a5 a6 a7 a8 a9 a10 a11 a12 a13
  unfold mkM
  by_cases k0 : kind % 12 = 0
  · rw [if_pos k0]
    by_cases q : n % 2 = 0
    · rw [if_pos q]; exact key [1, 2, 3] _ (fl_cases rfl (by first | exact hp1 | rfl) (by first | rfl | (show (!(sBy (nmB s)).isEmpty) = _; rw [hne]; rfl)) (by first | rfl | (show (!decide (_ = 0)) = _; first | (rw [hA0]; rfl) | (rw [hC0]; rfl))) (by first | rfl | (show (!decide (_ = 0)) = _; first | (rw [hA0]; rfl) | (rw [hC0]; rfl))) (by first | rfl | (show (!(someL _ _ _).isEmpty) = _; rw [s16]; rfl)) (by first | rfl | (show (!(someL _ _ _).isEmpty) = _; rw [s48]; rfl)) (by first | rfl | (show (!(someL _ _ _).isEmpty) = _; first | (rw [s16]; rfl) | (rw [s7]; rfl))) (by first | rfl | (show (!(someL _ _ _).isEmpty) = _; rw [s80]; rfl)) (by first | rfl | (show (!(someL _ _ _).isEmpty) = _; first | (rw [s120]; rfl) | (rw [s5]; rfl))) (by first | exact hc1 | rfl) (by first | exact he1 | rfl)) (by first | rfl | decide | (rw [show thN (fun k => List.contains [7, 8] k) 12 = 384 by decide]; unfold wantR; dsimp only; simp only [Int.reduceEq, ↓reduceIte, someL_len]; rw [if_pos (by omega)]; rfl) | (rw [show thN (fun k => List.contains [8] k) 12 = 256 by decide]; unfold wantR; simp)) (by dsimp only; omega) (by first | exact .inl nil_empty | exact .inr hn) (by dsimp only; omega) (by dsimp only; omega) (by first | exact Nat.zero_le _ | (show (someL _ _ _).length ≤ _; rw [someL_len]; omega)) (by first | exact Nat.zero_le _ | (show (someL _ _ _).length ≤ _; rw [someL_len]; omega)) (by first | exact Nat.zero_le _ | (show (someL _ _ _).length ≤ _; rw [someL_len]; omega)) (by first | exact Nat.zero_le _ | (show (someL _ _ _).length ≤ _; rw [someL_len]; omega)) (by first | exact Nat.zero_le _ | (show (someL _ _ _).length ≤ _; rw [someL_len]; omega)) (by dsimp only; omega) (by dsimp only; omega)
    · rw [if_neg q]; exact key [1, 2, 3, 4] _ (fl_cases rfl (by first | exact hp1 | rfl) (by first | rfl | (show (!(sBy (nmB s)).isEmpty) = _; rw [hne]; rfl)) (by first | rfl | (show (!decide (_ = 0)) = _; first | (rw [hA0]; rfl) | (rw [hC0]; rfl))) (by first | rfl | (show (!decide (_ = 0)) = _; first | (rw [hA0]; rfl) | (rw [hC0]; rfl))) (by first | rfl | (show (!(someL _ _ _).isEmpty) = _; rw [s16]; rfl)) (by first | rfl | (show (!(someL _ _ _).isEmpty) = _; rw [s48]; rfl)) (by first | rfl | (show (!(someL _ _ _).isEmpty) = _; first | (rw [s16]; rfl) | (rw [s7]; rfl))) (by first | rfl | (show (!(someL _ _ _).isEmpty) = _; rw [s80]; rfl)) (by first | rfl | (show (!(someL _ _ _).isEmpty) = _; first | (rw [s120]; rfl) | (rw [s5]; rfl))) (by first | exact hc1 | rfl) (by first | exact he1 | rfl)) (by first | rfl | decide | (rw [show thN (fun k => List.contains [7, 8] k) 12 = 384 by decide]; unfold wantR; dsimp only; simp only [Int.reduceEq, ↓reduceIte, someL_len]; rw [if_pos (by omega)]; rfl) | (rw [show thN (fun k => List.contains [8] k) 12 = 256 by decide]; unfold wantR; simp)) (by dsimp only; omega) (by first | exact .inl nil_empty | exact .inr hn) (by dsimp only; omega) (by dsimp only; omega) (by first | exact Nat.zero_le _ | (show (someL _ _ _).length ≤ _; rw [someL_len]; omega)) (by first | exact Nat.zero_le _ | (show (someL _ _ _).length ≤ _; rw [someL_len]; omega)) (by first | exact Nat.zero_le _ | (show (someL _ _ _).length ≤ _; rw [someL_len]; omega)) (by first | exact Nat.zero_le _ | (show (someL _ _ _).length ≤ _; rw [someL_len]; omega)) (by first | exact Nat.zero_le _ | (show (someL _ _ _).length ≤ _; rw [someL_len]; omega)) (by dsimp only; omega) (by dsimp only; omega)
  rw [if_neg k0]
  by_cases k1 : kind % 12 = 1
  · rw [if_pos k1]
    by_cases q : n % 2 = 0
    · rw [if_pos q]; exact key [1, 4, 5] _ (fl_cases rfl (by first | exact hp1 | rfl) (by first | rfl | (show (!(sBy (nmB s)).isEmpty) = _; rw [hne]; rfl)) (by first | rfl | (show (!decide (_ = 0)) = _; first | (rw [hA0]; rfl) | (rw [hC0]; rfl))) (by first | rfl | (show (!decide (_ = 0)) = _; first | (rw [hA0]; rfl) | (rw [hC0]; rfl))) (by first | rfl | (show (!(someL _ _ _).isEmpty) = _; rw [s16]; rfl)) (by first | rfl | (show (!(someL _ _ _).isEmpty) = _; rw [s48]; rfl)) (by first | rfl | (show (!(someL _ _ _).isEmpty) = _; first | (rw [s16]; rfl) | (rw [s7]; rfl))) (by first | rfl | (show (!(someL _ _ _).isEmpty) = _; rw [s80]; rfl)) (by first | rfl | (show (!(someL _ _ _).isEmpty) = _; first | (rw [s120]; rfl) | (rw [s5]; rfl))) (by first | exact hc1 | rfl) (by first | exact he1 | rfl)) (by first | rfl | decide | (rw [show thN (fun k => List.contains [7, 8] k) 12 = 384 by decide]; unfold wantR; dsimp only; simp only [Int.reduceEq, ↓reduceIte, someL_len]; rw [if_pos (by omega)]; rfl) | (rw [show thN (fun k => List.contains [8] k) 12 = 256 by decide]; unfold wantR; simp)) (by dsimp only; omega) (by first | exact .inl nil_empty | exact .inr hn) (by dsimp only; omega) (by dsimp only; omega) (by first | exact Nat.zero_le _ | (show (someL _ _ _).length ≤ _; rw [someL_len]; omega)) (by first | exact Nat.zero_le _ | (show (someL _ _ _).length ≤ _; rw [someL_len]; omega)) (by first | exact Nat.zero_le _ | (show (someL _ _ _).length ≤ _; rw [someL_len]; omega)) (by first | exact Nat.zero_le _ | (show (someL _ _ _).length ≤ _; rw [someL_len]; omega)) (by first | exact Nat.zero_le _ | (show (someL _ _ _).length ≤ _; rw [someL_len]; omega)) (by dsimp only; omega) (by dsimp only; omega)
    · rw [if_neg q]; exact key [1, 3, 4, 6] _ (fl_cases rfl (by first | exact hp1 | rfl) (by first | rfl | (show (!(sBy (nmB s)).isEmpty) = _; rw [hne]; rfl)) (by first | rfl | (show (!decide (_ = 0)) = _; first | (rw [hA0]; rfl) | (rw [hC0]; rfl))) (by first | rfl | (show (!decide (_ = 0)) = _; first | (rw [hA0]; rfl) | (rw [hC0]; rfl))) (by first | rfl | (show (!(someL _ _ _).isEmpty) = _; rw [s16]; rfl)) (by first | rfl | (show (!(someL _ _ _).isEmpty) = _; rw [s48]; rfl)) (by first | rfl | (show (!(someL _ _ _).isEmpty) = _; first | (rw [s16]; rfl) | (rw [s7]; rfl))) (by first | rfl | (show (!(someL _ _ _).isEmpty) = _; rw [s80]; rfl)) (by first | rfl | (show (!(someL _ _ _).isEmpty) = _; first | (rw [s120]; rfl) | (rw [s5]; rfl))) (by first | exact hc1 | rfl) (by first | exact he1 | rfl)) (by first | rfl | decide | (rw [show thN (fun k => List.contains [7, 8] k) 12 = 384 by decide]; unfold wantR; dsimp only; simp only [Int.reduceEq, ↓reduceIte, someL_len]; rw [if_pos (by omega)]; rfl) | (rw [show thN (fun k => List.contains [8] k) 12 = 256 by decide]; unfold wantR; simp)) (by dsimp only; omega) (by first | exact .inl nil_empty | exact .inr hn) (by dsimp only; omega) (by dsimp only; omega) (by first | exact Nat.zero_le _ | (show (someL _ _ _).length ≤ _; rw [someL_len]; omega)) (by first | exact Nat.zero_le _ | (show (someL _ _ _).length ≤ _; rw [someL_len]; omega)) (by first | exact Nat.zero_le _ | (show (someL _ _ _).length ≤ _; rw [someL_len]; omega)) (by first | exact Nat.zero_le _ | (show (someL _ _ _).length ≤ _; rw [someL_len]; omega)) (by first | exact Nat.zero_le _ | (show (someL _ _ _).length ≤ _; rw [someL_len]; omega)) (by dsimp only; omega) (by dsimp only; omega)
  rw [if_neg k1]
  by_cases k2 : kind % 12 = 2
  · rw [if_pos k2]
    exact key [7] _ (fl_cases rfl (by first | exact hp1 | rfl) (by first | rfl | (show (!(sBy (nmB s)).isEmpty) = _; rw [hne]; rfl)) (by first | rfl | (show (!decide (_ = 0)) = _; first | (rw [hA0]; rfl) | (rw [hC0]; rfl))) (by first | rfl | (show (!decide (_ = 0)) = _; first | (rw [hA0]; rfl) | (rw [hC0]; rfl))) (by first | rfl | (show (!(someL _ _ _).isEmpty) = _; rw [s16]; rfl)) (by first | rfl | (show (!(someL _ _ _).isEmpty) = _; rw [s48]; rfl)) (by first | rfl | (show (!(someL _ _ _).isEmpty) = _; first | (rw [s16]; rfl) | (rw [s7]; rfl))) (by first | rfl | (show (!(someL _ _ _).isEmpty) = _; rw [s80]; rfl)) (by first | rfl | (show (!(someL _ _ _).isEmpty) = _; first | (rw [s120]; rfl) | (rw [s5]; rfl))) (by first | exact hc1 | rfl) (by first | exact he1 | rfl)) (by first | rfl | decide | (rw [show thN (fun k => List.contains [7, 8] k) 12 = 384 by decide]; unfold wantR; dsimp only; simp only [Int.reduceEq, ↓reduceIte, someL_len]; rw [if_pos (by omega)]; rfl) | (rw [show thN (fun k => List.contains [8] k) 12 = 256 by decide]; unfold wantR; simp)) (by dsimp only; omega) (by first | exact .inl nil_empty | exact .inr hn) (by dsimp only; omega) (by dsimp only; omega) (by first | exact Nat.zero_le _ | (show (someL _ _ _).length ≤ _; rw [someL_len]; omega)) (by first | exact Nat.zero_le _ | (show (someL _ _ _).length ≤ _; rw [someL_len]; omega)) (by first | exact Nat.zero_le _ | (show (someL _ _ _).length ≤ _; rw [someL_len]; omega)) (by first | exact Nat.zero_le _ | (show (someL _ _ _).length ≤ _; rw [someL_len]; omega)) (by first | exact Nat.zero_le _ | (show (someL _ _ _).length ≤ _; rw [someL_len]; omega)) (by dsimp only; omega) (by dsimp only; omega)
  rw [if_neg k2]
  by_cases k3 : kind % 12 = 3
  · rw [if_pos k3]
    by_cases q : n.tdiv 2 % 2 = 0
    · rw [if_pos q]; exact key [7, 8] _ (fl_cases rfl (by first | exact hp1 | rfl) (by first | rfl | (show (!(sBy (nmB s)).isEmpty) = _; rw [hne]; rfl)) (by first | rfl | (show (!decide (_ = 0)) = _; first | (rw [hA0]; rfl) | (rw [hC0]; rfl))) (by first | rfl | (show (!decide (_ = 0)) = _; first | (rw [hA0]; rfl) | (rw [hC0]; rfl))) (by first | rfl | (show (!(someL _ _ _).isEmpty) = _; rw [s16]; rfl)) (by first | rfl | (show (!(someL _ _ _).isEmpty) = _; rw [s48]; rfl)) (by first | rfl | (show (!(someL _ _ _).isEmpty) = _; first | (rw [s16]; rfl) | (rw [s7]; rfl))) (by first | rfl | (show (!(someL _ _ _).isEmpty) = _; rw [s80]; rfl)) (by first | rfl | (show (!(someL _ _ _).isEmpty) = _; first | (rw [s120]; rfl) | (rw [s5]; rfl))) (by first | exact hc1 | rfl) (by first | exact he1 | rfl)) (by first | rfl | decide | (rw [show thN (fun k => List.contains [7, 8] k) 12 = 384 by decide]; unfold wantR; dsimp only; simp only [Int.reduceEq, ↓reduceIte, someL_len]; rw [if_pos (by omega)]; rfl) | (rw [show thN (fun k => List.contains [8] k) 12 = 256 by decide]; unfold wantR; simp)) (by dsimp only; omega) (by first | exact .inl nil_empty | exact .inr hn) (by dsimp only; omega) (by dsimp only; omega) (by first | exact Nat.zero_le _ | (show (someL _ _ _).length ≤ _; rw [someL_len]; omega)) (by first | exact Nat.zero_le _ | (show (someL _ _ _).length ≤ _; rw [someL_len]; omega)) (by first | exact Nat.zero_le _ | (show (someL _ _ _).length ≤ _; rw [someL_len]; omega)) (by first | exact Nat.zero_le _ | (show (someL _ _ _).length ≤ _; rw [someL_len]; omega)) (by first | exact Nat.zero_le _ | (show (someL _ _ _).length ≤ _; rw [someL_len]; omega)) (by dsimp only; omega) (by dsimp only; omega)
    · rw [if_neg q]; exact key [8] _ (fl_cases rfl (by first | exact hp1 | rfl) (by first | rfl | (show (!(sBy (nmB s)).isEmpty) = _; rw [hne]; rfl)) (by first | rfl | (show (!decide (_ = 0)) = _; first | (rw [hA0]; rfl) | (rw [hC0]; rfl))) (by first | rfl | (show (!decide (_ = 0)) = _; first | (rw [hA0]; rfl) | (rw [hC0]; rfl))) (by first | rfl | (show (!(someL _ _ _).isEmpty) = _; rw [s16]; rfl)) (by first | rfl | (show (!(someL _ _ _).isEmpty) = _; rw [s48]; rfl)) (by first | rfl | (show (!(someL _ _ _).isEmpty) = _; first | (rw [s16]; rfl) | (rw [s7]; rfl))) (by first | rfl | (show (!(someL _ _ _).isEmpty) = _; rw [s80]; rfl)) (by first | rfl | (show (!(someL _ _ _).isEmpty) = _; first | (rw [s120]; rfl) | (rw [s5]; rfl))) (by first | exact hc1 | rfl) (by first | exact he1 | rfl)) (by first | rfl | decide | (rw [show thN (fun k => List.contains [7, 8] k) 12 = 384 by decide]; unfold wantR; dsimp only; simp only [Int.reduceEq, ↓reduceIte, someL_len]; rw [if_pos (by omega)]; rfl) | (rw [show thN (fun k => List.contains [8] k) 12 = 256 by decide]; unfold wantR; simp)) (by dsimp only; omega) (by first | exact .inl nil_empty | exact .inr hn) (by dsimp only; omega) (by dsimp only; omega) (by first | exact Nat.zero_le _ | (show (someL _ _ _).length ≤ _; rw [someL_len]; omega)) (by first | exact Nat.zero_le _ | (show (someL _ _ _).length ≤ _; rw [someL_len]; omega)) (by first | exact Nat.zero_le _ | (show (someL _ _ _).length ≤ _; rw [someL_len]; omega)) (by first | exact Nat.zero_le _ | (show (someL _ _ _).length ≤ _; rw [someL_len]; omega)) (by first | exact Nat.zero_le _ | (show (someL _ _ _).length ≤ _; rw [someL_len]; omega)) (by dsimp only; omega) (by dsimp only; omega)
  rw [if_neg k3]
  by_cases k4 : kind % 12 = 4
  · rw [if_pos k4]
    exact key [11] _ (fl_cases rfl (by first | exact hp1 | rfl) (by first | rfl | (show (!(sBy (nmB s)).isEmpty) = _; rw [hne]; rfl)) (by first | rfl | (show (!decide (_ = 0)) = _; first | (rw [hA0]; rfl) | (rw [hC0]; rfl))) (by first | rfl | (show (!decide (_ = 0)) = _; first | (rw [hA0]; rfl) | (rw [hC0]; rfl))) (by first | rfl | (show (!(someL _ _ _).isEmpty) = _; rw [s16]; rfl)) (by first | rfl | (show (!(someL _ _ _).isEmpty) = _; rw [s48]; rfl)) (by first | rfl | (show (!(someL _ _ _).isEmpty) = _; first | (rw [s16]; rfl) | (rw [s7]; rfl))) (by first | rfl | (show (!(someL _ _ _).isEmpty) = _; rw [s80]; rfl)) (by first | rfl | (show (!(someL _ _ _).isEmpty) = _; first | (rw [s120]; rfl) | (rw [s5]; rfl))) (by first | exact hc1 | rfl) (by first | exact he1 | rfl)) (by first | rfl | decide | (rw [show thN (fun k => List.contains [7, 8] k) 12 = 384 by decide]; unfold wantR; dsimp only; simp only [Int.reduceEq, ↓reduceIte, someL_len]; rw [if_pos (by omega)]; rfl) | (rw [show thN (fun k => List.contains [8] k) 12 = 256 by decide]; unfold wantR; simp)) (by dsimp only; omega) (by first | exact .inl nil_empty | exact .inr hn) (by dsimp only; omega) (by dsimp only; omega) (by first | exact Nat.zero_le _ | (show (someL _ _ _).length ≤ _; rw [someL_len]; omega)) (by first | exact Nat.zero_le _ | (show (someL _ _ _).length ≤ _; rw [someL_len]; omega)) (by first | exact Nat.zero_le _ | (show (someL _ _ _).length ≤ _; rw [someL_len]; omega)) (by first | exact Nat.zero_le _ | (show (someL _ _ _).length ≤ _; rw [someL_len]; omega)) (by first | exact Nat.zero_le _ | (show (someL _ _ _).length ≤ _; rw [someL_len]; omega)) (by dsimp only; omega) (by dsimp only; omega)
  rw [if_neg k4]
  by_cases k5 : kind % 12 = 5
  · rw [if_pos k5]
    exact key [1, 2, 9] _ (fl_cases rfl (by first | exact hp1 | rfl) (by first | rfl | (show (!(sBy (nmB s)).isEmpty) = _; rw [hne]; rfl)) (by first | rfl | (show (!decide (_ = 0)) = _; first | (rw [hA0]; rfl) | (rw [hC0]; rfl))) (by first | rfl | (show (!decide (_ = 0)) = _; first | (rw [hA0]; rfl) | (rw [hC0]; rfl))) (by first | rfl | (show (!(someL _ _ _).isEmpty) = _; rw [s16]; rfl)) (by first | rfl | (show (!(someL _ _ _).isEmpty) = _; rw [s48]; rfl)) (by first | rfl | (show (!(someL _ _ _).isEmpty) = _; first | (rw [s16]; rfl) | (rw [s7]; rfl))) (by first | rfl | (show (!(someL _ _ _).isEmpty) = _; rw [s80]; rfl)) (by first | rfl | (show (!(someL _ _ _).isEmpty) = _; first | (rw [s120]; rfl) | (rw [s5]; rfl))) (by first | exact hc1 | rfl) (by first | exact he1 | rfl)) (by first | rfl | decide | (rw [show thN (fun k => List.contains [7, 8] k) 12 = 384 by decide]; unfold wantR; dsimp only; simp only [Int.reduceEq, ↓reduceIte, someL_len]; rw [if_pos (by omega)]; rfl) | (rw [show thN (fun k => List.contains [8] k) 12 = 256 by decide]; unfold wantR; simp)) (by dsimp only; omega) (by first | exact .inl nil_empty | exact .inr hn) (by dsimp only; omega) (by dsimp only; omega) (by first | exact Nat.zero_le _ | (show (someL _ _ _).length ≤ _; rw [someL_len]; omega)) (by first | exact Nat.zero_le _ | (show (someL _ _ _).length ≤ _; rw [someL_len]; omega)) (by first | exact Nat.zero_le _ | (show (someL _ _ _).length ≤ _; rw [someL_len]; omega)) (by first | exact Nat.zero_le _ | (show (someL _ _ _).length ≤ _; rw [someL_len]; omega)) (by first | exact Nat.zero_le _ | (show (someL _ _ _).length ≤ _; rw [someL_len]; omega)) (by dsimp only; omega) (by dsimp only; omega)
  rw [if_neg k5]
  by_cases k6 : kind % 12 = 6
  · rw [if_pos k6]
    exact key [] _ (fl_cases rfl (by first | exact hp1 | rfl) (by first | rfl | (show (!(sBy (nmB s)).isEmpty) = _; rw [hne]; rfl)) (by first | rfl | (show (!decide (_ = 0)) = _; first | (rw [hA0]; rfl) | (rw [hC0]; rfl))) (by first | rfl | (show (!decide (_ = 0)) = _; first | (rw [hA0]; rfl) | (rw [hC0]; rfl))) (by first | rfl | (show (!(someL _ _ _).isEmpty) = _; rw [s16]; rfl)) (by first | rfl | (show (!(someL _ _ _).isEmpty) = _; rw [s48]; rfl)) (by first | rfl | (show (!(someL _ _ _).isEmpty) = _; first | (rw [s16]; rfl) | (rw [s7]; rfl))) (by first | rfl | (show (!(someL _ _ _).isEmpty) = _; rw [s80]; rfl)) (by first | rfl | (show (!(someL _ _ _).isEmpty) = _; first | (rw [s120]; rfl) | (rw [s5]; rfl))) (by first | exact hc1 | rfl) (by first | exact he1 | rfl)) (by first | rfl | decide | (rw [show thN (fun k => List.contains [7, 8] k) 12 = 384 by decide]; unfold wantR; dsimp only; simp only [Int.reduceEq, ↓reduceIte, someL_len]; rw [if_pos (by omega)]; rfl) | (rw [show thN (fun k => List.contains [8] k) 12 = 256 by decide]; unfold wantR; simp)) (by dsimp only; omega) (by first | exact .inl nil_empty | exact .inr hn) (by dsimp only; omega) (by dsimp only; omega) (by first | exact Nat.zero_le _ | (show (someL _ _ _).length ≤ _; rw [someL_len]; omega)) (by first | exact Nat.zero_le _ | (show (someL _ _ _).length ≤ _; rw [someL_len]; omega)) (by first | exact Nat.zero_le _ | (show (someL _ _ _).length ≤ _; rw [someL_len]; omega)) (by first | exact Nat.zero_le _ | (show (someL _ _ _).length ≤ _; rw [someL_len]; omega)) (by first | exact Nat.zero_le _ | (show (someL _ _ _).length ≤ _; rw [someL_len]; omega)) (by dsimp only; omega) (by dsimp only; omega)
  rw [if_neg k6]
  by_cases k7 : kind % 12 = 7
  · rw [if_pos k7]
    exact key [8, 10] _ (fl_cases rfl (by first | exact hp1 | rfl) (by first | rfl | (show (!(sBy (nmB s)).isEmpty) = _; rw [hne]; rfl)) (by first | rfl | (show (!decide (_ = 0)) = _; first | (rw [hA0]; rfl) | (rw [hC0]; rfl))) (by first | rfl | (show (!decide (_ = 0)) = _; first | (rw [hA0]; rfl) | (rw [hC0]; rfl))) (by first | rfl | (show (!(someL _ _ _).isEmpty) = _; rw [s16]; rfl)) (by first | rfl | (show (!(someL _ _ _).isEmpty) = _; rw [s48]; rfl)) (by first | rfl | (show (!(someL _ _ _).isEmpty) = _; first | (rw [s16]; rfl) | (rw [s7]; rfl))) (by first | rfl | (show (!(someL _ _ _).isEmpty) = _; rw [s80]; rfl)) (by first | rfl | (show (!(someL _ _ _).isEmpty) = _; first | (rw [s120]; rfl) | (rw [s5]; rfl))) (by first | exact hc1 | rfl) (by first | exact he1 | rfl)) (by first | rfl | decide | (rw [show thN (fun k => List.contains [7, 8] k) 12 = 384 by decide]; unfold wantR; dsimp only; simp only [Int.reduceEq, ↓reduceIte, someL_len]; rw [if_pos (by omega)]; rfl) | (rw [show thN (fun k => List.contains [8] k) 12 = 256 by decide]; unfold wantR; simp)) (by dsimp only; omega) (by first | exact .inl nil_empty | exact .inr hn) (by dsimp only; omega) (by dsimp only; omega) (by first | exact Nat.zero_le _ | (show (someL _ _ _).length ≤ _; rw [someL_len]; omega)) (by first | exact Nat.zero_le _ | (show (someL _ _ _).length ≤ _; rw [someL_len]; omega)) (by first | exact Nat.zero_le _ | (show (someL _ _ _).length ≤ _; rw [someL_len]; omega)) (by first | exact Nat.zero_le _ | (show (someL _ _ _).length ≤ _; rw [someL_len]; omega)) (by first | exact Nat.zero_le _ | (show (someL _ _ _).length ≤ _; rw [someL_len]; omega)) (by dsimp only; omega) (by dsimp only; omega)
  rw [if_neg k7]
  by_cases k8 : kind % 12 = 8
  · rw [if_pos k8]
    exact key [8] _ (fl_cases rfl (by first | exact hp1 | rfl) (by first | rfl | (show (!(sBy (nmB s)).isEmpty) = _; rw [hne]; rfl)) (by first | rfl | (show (!decide (_ = 0)) = _; first | (rw [hA0]; rfl) | (rw [hC0]; rfl))) (by first | rfl | (show (!decide (_ = 0)) = _; first | (rw [hA0]; rfl) | (rw [hC0]; rfl))) (by first | rfl | (show (!(someL _ _ _).isEmpty) = _; rw [s16]; rfl)) (by first | rfl | (show (!(someL _ _ _).isEmpty) = _; rw [s48]; rfl)) (by first | rfl | (show (!(someL _ _ _).isEmpty) = _; first | (rw [s16]; rfl) | (rw [s7]; rfl))) (by first | rfl | (show (!(someL _ _ _).isEmpty) = _; rw [s80]; rfl)) (by first | rfl | (show (!(someL _ _ _).isEmpty) = _; first | (rw [s120]; rfl) | (rw [s5]; rfl))) (by first | exact hc1 | rfl) (by first | exact he1 | rfl)) (by first | rfl | decide | (rw [show thN (fun k => List.contains [7, 8] k) 12 = 384 by decide]; unfold wantR; dsimp only; simp only [Int.reduceEq, ↓reduceIte, someL_len]; rw [if_pos (by omega)]; rfl) | (rw [show thN (fun k => List.contains [8] k) 12 = 256 by decide]; unfold wantR; simp)) (by dsimp only; omega) (by first | exact .inl nil_empty | exact .inr hn) (by dsimp only; omega) (by dsimp only; omega) (by first | exact Nat.zero_le _ | (show (someL _ _ _).length ≤ _; rw [someL_len]; omega)) (by first | exact Nat.zero_le _ | (show (someL _ _ _).length ≤ _; rw [someL_len]; omega)) (by first | exact Nat.zero_le _ | (show (someL _ _ _).length ≤ _; rw [someL_len]; omega)) (by first | exact Nat.zero_le _ | (show (someL _ _ _).length ≤ _; rw [someL_len]; omega)) (by first | exact Nat.zero_le _ | (show (someL _ _ _).length ≤ _; rw [someL_len]; omega)) (by dsimp only; omega) (by dsimp only; omega)
  rw [if_neg k8]
  by_cases k9 : kind % 12 = 9
  · rw [if_pos k9]
    exact key [8] _ (fl_cases rfl (by first | exact hp1 | rfl) (by first | rfl | (show (!(sBy (nmB s)).isEmpty) = _; rw [hne]; rfl)) (by first | rfl | (show (!decide (_ = 0)) = _; first | (rw [hA0]; rfl) | (rw [hC0]; rfl))) (by first | rfl | (show (!decide (_ = 0)) = _; first | (rw [hA0]; rfl) | (rw [hC0]; rfl))) (by first | rfl | (show (!(someL _ _ _).isEmpty) = _; rw [s16]; rfl)) (by first | rfl | (show (!(someL _ _ _).isEmpty) = _; rw [s48]; rfl)) (by first | rfl | (show (!(someL _ _ _).isEmpty) = _; first | (rw [s16]; rfl) | (rw [s7]; rfl))) (by first | rfl | (show (!(someL _ _ _).isEmpty) = _; rw [s80]; rfl)) (by first | rfl | (show (!(someL _ _ _).isEmpty) = _; first | (rw [s120]; rfl) | (rw [s5]; rfl))) (by first | exact hc1 | rfl) (by first | exact he1 | rfl)) (by first | rfl | decide | (rw [show thN (fun k => List.contains [7, 8] k) 12 = 384 by decide]; unfold wantR; dsimp only; simp only [Int.reduceEq, ↓reduceIte, someL_len]; rw [if_pos (by omega)]; rfl) | (rw [show thN (fun k => List.contains [8] k) 12 = 256 by decide]; unfold wantR; simp)) (by dsimp only; omega) (by first | exact .inl nil_empty | exact .inr hn) (by dsimp only; omega) (by dsimp only; omega) (by first | exact Nat.zero_le _ | (show (someL _ _ _).length ≤ _; rw [someL_len]; omega)) (by first | exact Nat.zero_le _ | (show (someL _ _ _).length ≤ _; rw [someL_len]; omega)) (by first | exact Nat.zero_le _ | (show (someL _ _ _).length ≤ _; rw [someL_len]; omega)) (by first | exact Nat.zero_le _ | (show (someL _ _ _).length ≤ _; rw [someL_len]; omega)) (by first | exact Nat.zero_le _ | (show (someL _ _ _).length ≤ _; rw [someL_len]; omega)) (by dsimp only; omega) (by dsimp only; omega)
  rw [if_neg k9]
  by_cases k10 : kind % 12 = 10
  · rw [if_pos k10]
    exact key [1, 8, 9] _ (fl_cases rfl (by first | exact hp1 | rfl) (by first | rfl | (show (!(sBy (nmB s)).isEmpty) = _; rw [hne]; rfl)) (by first | rfl | (show (!decide (_ = 0)) = _; first | (rw [hA0]; rfl) | (rw [hC0]; rfl))) (by first | rfl | (show (!decide (_ = 0)) = _; first | (rw [hA0]; rfl) | (rw [hC0]; rfl))) (by first | rfl | (show (!(someL _ _ _).isEmpty) = _; rw [s16]; rfl)) (by first | rfl | (show (!(someL _ _ _).isEmpty) = _; rw [s48]; rfl)) (by first | rfl | (show (!(someL _ _ _).isEmpty) = _; first | (rw [s16]; rfl) | (rw [s7]; rfl))) (by first | rfl | (show (!(someL _ _ _).isEmpty) = _; rw [s80]; rfl)) (by first | rfl | (show (!(someL _ _ _).isEmpty) = _; first | (rw [s120]; rfl) | (rw [s5]; rfl))) (by first | exact hc1 | rfl) (by first | exact he1 | rfl)) (by first | rfl | decide | (rw [show thN (fun k => List.contains [7, 8] k) 12 = 384 by decide]; unfold wantR; dsimp only; simp only [Int.reduceEq, ↓reduceIte, someL_len]; rw [if_pos (by omega)]; rfl) | (rw [show thN (fun k => List.contains [8] k) 12 = 256 by decide]; unfold wantR; simp)) (by dsimp only; omega) (by first | exact .inl nil_empty | exact .inr hn) (by dsimp only; omega) (by dsimp only; omega) (by first | exact Nat.zero_le _ | (show (someL _ _ _).length ≤ _; rw [someL_len]; omega)) (by first | exact Nat.zero_le _ | (show (someL _ _ _).length ≤ _; rw [someL_len]; omega)) (by first | exact Nat.zero_le _ | (show (someL _ _ _).length ≤ _; rw [someL_len]; omega)) (by first | exact Nat.zero_le _ | (show (someL _ _ _).length ≤ _; rw [someL_len]; omega)) (by first | exact Nat.zero_le _ | (show (someL _ _ _).length ≤ _; rw [someL_len]; omega)) (by dsimp only; omega) (by dsimp only; omega)
  rw [if_neg k10]
  exact key [8, 10] _ (fl_cases rfl (by first | exact hp1 | rfl) (by first | rfl | (show (!(sBy (nmB s)).isEmpty) = _; rw [hne]; rfl)) (by first | rfl | (show (!decide (_ = 0)) = _; first | (rw [hA0]; rfl) | (rw [hC0]; rfl))) (by first | rfl | (show (!decide (_ = 0)) = _; first | (rw [hA0]; rfl) | (rw [hC0]; rfl))) (by first | rfl | (show (!(someL _ _ _).isEmpty) = _; rw [s16]; rfl)) (by first | rfl | (show (!(someL _ _ _).isEmpty) = _; rw [s48]; rfl)) (by first | rfl | (show (!(someL _ _ _).isEmpty) = _; first | (rw [s16]; rfl) | (rw [s7]; rfl))) (by first | rfl | (show (!(someL _ _ _).isEmpty) = _; rw [s80]; rfl)) (by first | rfl | (show (!(someL _ _ _).isEmpty) = _; first | (rw [s120]; rfl) | (rw [s5]; rfl))) (by first | exact hc1 | rfl) (by first | exact he1 | rfl)) (by first | rfl | decide | (rw [show thN (fun k => List.contains [7, 8] k) 12 = 384 by decide]; unfold wantR; dsimp only; simp only [Int.reduceEq, ↓reduceIte, someL_len]; rw [if_pos (by omega)]; rfl) | (rw [show thN (fun k => List.contains [8] k) 12 = 256 by decide]; unfold wantR; simp)) (by dsimp only; omega) (by first | exact .inl nil_empty | exact .inr hn) (by dsimp only; omega) (by dsimp only; omega) (by first | exact Nat.zero_le _ | (show (someL _ _ _).length ≤ _; rw [someL_len]; omega)) (by first | exact Nat.zero_le _ | (show (someL _ _ _).length ≤ _; rw [someL_len]; omega)) (by first | exact Nat.zero_le _ | (show (someL _ _ _).length ≤ _; rw [someL_len]; omega)) (by first | exact Nat.zero_le _ | (show (someL _ _ _).length ≤ _; rw [someL_len]; omega)) (by first | exact Nat.zero_le _ | (show (someL _ _ _).length ≤ _; rw [someL_len]; omega)) (by dsimp only; omega) (by dsimp only; omega)
theorem mkM_ok (kind n : Int) (s : ByteArray) (b : List UInt8) : MsgOk (mkM kind n s b) ∧ (mkM kind n s b).s.size ≤ 1000 := by
  have h2 := Int.emod_two_eq n
  have hA := kn n (show (0 : Int) < 4294967295 by decide)
  have hC := kn (n.tdiv 3) (show (0 : Int) < 70000 by decide)
  have h11 := Int.emod_nonneg n (show (11 : Int) ≠ 0 by decide)
  have h11' := Int.emod_lt_of_pos n (show (0 : Int) < 11 by decide)
  have h40 := Int.emod_nonneg n (show (1099511627776 : Int) ≠ 0 by decide)
  have h40' := Int.emod_lt_of_pos n (show (0 : Int) < 1099511627776 by decide)
  have hs := nmB_size s
  have e1 : ("".toUTF8).size ≤ 1000000 := by decide
  have e2 : ("".toUTF8).size ≤ 1000 := by decide
  unfold mkM
  by_cases k0 : kind % 12 = 0
  · rw [if_pos k0]
    by_cases q : n % 2 = 0
    · rw [if_pos q]; exact ⟨⟨(by dsimp only; omega), (by dsimp only; omega), (by dsimp only; omega), (by dsimp only; omega), (by dsimp only; first | exact e1 | omega), Nat.lt_trans (m := 4294967296) (by dsimp only; omega) (by decide), Nat.lt_trans (m := 4294967296) (by dsimp only; omega) (by decide)⟩, (by dsimp only; first | exact e2 | omega)⟩
    · rw [if_neg q]; exact ⟨⟨(by dsimp only; omega), (by dsimp only; omega), (by dsimp only; omega), (by dsimp only; omega), (by dsimp only; first | exact e1 | omega), Nat.lt_trans (m := 4294967296) (by dsimp only; omega) (by decide), Nat.lt_trans (m := 4294967296) (by dsimp only; omega) (by decide)⟩, (by dsimp only; first | exact e2 | omega)⟩
  rw [if_neg k0]
  by_cases k1 : kind % 12 = 1
  · rw [if_pos k1]
    by_cases q : n % 2 = 0
    · rw [if_pos q]; exact ⟨⟨(by dsimp only; omega), (by dsimp only; omega), (by dsimp only; omega), (by dsimp only; omega), (by dsimp only; first | exact e1 | omega), Nat.lt_trans (m := 4294967296) (by dsimp only; omega) (by decide), Nat.lt_trans (m := 4294967296) (by dsimp only; omega) (by decide)⟩, (by dsimp only; first | exact e2 | omega)⟩
    · rw [if_neg q]; exact ⟨⟨(by dsimp only; omega), (by dsimp only; omega), (by dsimp only; omega), (by dsimp only; omega), (by dsimp only; first | exact e1 | omega), Nat.lt_trans (m := 4294967296) (by dsimp only; omega) (by decide), Nat.lt_trans (m := 4294967296) (by dsimp only; omega) (by decide)⟩, (by dsimp only; first | exact e2 | omega)⟩
  rw [if_neg k1]
  by_cases k2 : kind % 12 = 2
  · rw [if_pos k2]
    exact ⟨⟨(by dsimp only; omega), (by dsimp only; omega), (by dsimp only; omega), (by dsimp only; omega), (by dsimp only; first | exact e1 | omega), Nat.lt_trans (m := 4294967296) (by dsimp only; omega) (by decide), Nat.lt_trans (m := 4294967296) (by dsimp only; omega) (by decide)⟩, (by dsimp only; first | exact e2 | omega)⟩
  rw [if_neg k2]
  by_cases k3 : kind % 12 = 3
  · rw [if_pos k3]
    by_cases q : n.tdiv 2 % 2 = 0
    · rw [if_pos q]; exact ⟨⟨(by dsimp only; omega), (by dsimp only; omega), (by dsimp only; omega), (by dsimp only; omega), (by dsimp only; first | exact e1 | omega), Nat.lt_trans (m := 4294967296) (by dsimp only; omega) (by decide), Nat.lt_trans (m := 4294967296) (by dsimp only; omega) (by decide)⟩, (by dsimp only; first | exact e2 | omega)⟩
    · rw [if_neg q]; exact ⟨⟨(by dsimp only; omega), (by dsimp only; omega), (by dsimp only; omega), (by dsimp only; omega), (by dsimp only; first | exact e1 | omega), Nat.lt_trans (m := 4294967296) (by dsimp only; omega) (by decide), Nat.lt_trans (m := 4294967296) (by dsimp only; omega) (by decide)⟩, (by dsimp only; first | exact e2 | omega)⟩
  rw [if_neg k3]
  by_cases k4 : kind % 12 = 4
  · rw [if_pos k4]
    exact ⟨⟨(by dsimp only; omega), (by dsimp only; omega), (by dsimp only; omega), (by dsimp only; omega), (by dsimp only; first | exact e1 | omega), Nat.lt_trans (m := 4294967296) (by dsimp only; omega) (by decide), Nat.lt_trans (m := 4294967296) (by dsimp only; omega) (by decide)⟩, (by dsimp only; first | exact e2 | omega)⟩
  rw [if_neg k4]
  by_cases k5 : kind % 12 = 5
  · rw [if_pos k5]
    exact ⟨⟨(by dsimp only; omega), (by dsimp only; omega), (by dsimp only; omega), (by dsimp only; omega), (by dsimp only; first | exact e1 | omega), Nat.lt_trans (m := 4294967296) (by dsimp only; omega) (by decide), Nat.lt_trans (m := 4294967296) (by dsimp only; omega) (by decide)⟩, (by dsimp only; first | exact e2 | omega)⟩
  rw [if_neg k5]
  by_cases k6 : kind % 12 = 6
  · rw [if_pos k6]
    exact ⟨⟨(by dsimp only; omega), (by dsimp only; omega), (by dsimp only; omega), (by dsimp only; omega), (by dsimp only; first | exact e1 | omega), Nat.lt_trans (m := 4294967296) (by dsimp only; omega) (by decide), Nat.lt_trans (m := 4294967296) (by dsimp only; omega) (by decide)⟩, (by dsimp only; first | exact e2 | omega)⟩
  rw [if_neg k6]
  by_cases k7 : kind % 12 = 7
  · rw [if_pos k7]
    exact ⟨⟨(by dsimp only; omega), (by dsimp only; omega), (by dsimp only; omega), (by dsimp only; omega), (by dsimp only; first | exact e1 | omega), Nat.lt_trans (m := 4294967296) (by dsimp only; omega) (by decide), Nat.lt_trans (m := 4294967296) (by dsimp only; omega) (by decide)⟩, (by dsimp only; first | exact e2 | omega)⟩
  rw [if_neg k7]
  by_cases k8 : kind % 12 = 8
  · rw [if_pos k8]
    exact ⟨⟨(by dsimp only; omega), (by dsimp only; omega), (by dsimp only; omega), (by dsimp only; omega), (by dsimp only; first | exact e1 | omega), Nat.lt_trans (m := 4294967296) (by dsimp only; omega) (by decide), Nat.lt_trans (m := 4294967296) (by dsimp only; omega) (by decide)⟩, (by dsimp only; first | exact e2 | omega)⟩
  rw [if_neg k8]
  by_cases k9 : kind % 12 = 9
  · rw [if_pos k9]
    exact ⟨⟨(by dsimp only; omega), (by dsimp only; omega), (by dsimp only; omega), (by dsimp only; omega), (by dsimp only; first | exact e1 | omega), Nat.lt_trans (m := 4294967296) (by dsimp only; omega) (by decide), Nat.lt_trans (m := 4294967296) (by dsimp only; omega) (by decide)⟩, (by dsimp only; first | exact e2 | omega)⟩
  rw [if_neg k9]
  by_cases k10 : kind % 12 = 10
  · rw [if_pos k10]
    exact ⟨⟨(by dsimp only; omega), (by dsimp only; omega), (by dsimp only; omega), (by dsimp only; omega), (by dsimp only; first | exact e1 | omega), Nat.lt_trans (m := 4294967296) (by dsimp only; omega) (by decide), Nat.lt_trans (m := 4294967296) (by dsimp only; omega) (by decide)⟩, (by dsimp only; first | exact e2 | omega)⟩
  rw [if_neg k10]
  exact ⟨⟨(by dsimp only; omega), (by dsimp only; omega), (by dsimp only; omega), (by dsimp only; omega), (by dsimp only; first | exact e1 | omega), Nat.lt_trans (m := 4294967296) (by dsimp only; omega) (by decide), Nat.lt_trans (m := 4294967296) (by dsimp only; omega) (by decide)⟩, (by dsimp only; first | exact e2 | omega)⟩
theorem mkM_kind (kind n : Int) (s : ByteArray) (b : List UInt8) : (mkM kind n s b).k = 1 + kind % 12 := by
  have h1 := Int.emod_nonneg kind (show (12 : Int) ≠ 0 by decide)
  have h2 := Int.emod_lt_of_pos kind (show (0 : Int) < 12 by decide)
  unfold mkM
  by_cases k0 : kind % 12 = 0
  · rw [if_pos k0]
    by_cases q : n % 2 = 0
    · rw [if_pos q]; dsimp only; omega
    · rw [if_neg q]; dsimp only; omega
  rw [if_neg k0]
  by_cases k1 : kind % 12 = 1
  · rw [if_pos k1]
    by_cases q : n % 2 = 0
    · rw [if_pos q]; dsimp only; omega
    · rw [if_neg q]; dsimp only; omega
  rw [if_neg k1]
  by_cases k2 : kind % 12 = 2
  · rw [if_pos k2]
    dsimp only; omega
  rw [if_neg k2]
  by_cases k3 : kind % 12 = 3
  · rw [if_pos k3]
    by_cases q : n.tdiv 2 % 2 = 0
    · rw [if_pos q]; dsimp only; omega
    · rw [if_neg q]; dsimp only; omega
  rw [if_neg k3]
  by_cases k4 : kind % 12 = 4
  · rw [if_pos k4]
    dsimp only; omega
  rw [if_neg k4]
  by_cases k5 : kind % 12 = 5
  · rw [if_pos k5]
    dsimp only; omega
  rw [if_neg k5]
  by_cases k6 : kind % 12 = 6
  · rw [if_pos k6]
    dsimp only; omega
  rw [if_neg k6]
  by_cases k7 : kind % 12 = 7
  · rw [if_pos k7]
    dsimp only; omega
  rw [if_neg k7]
  by_cases k8 : kind % 12 = 8
  · rw [if_pos k8]
    dsimp only; omega
  rw [if_neg k8]
  by_cases k9 : kind % 12 = 9
  · rw [if_pos k9]
    dsimp only; omega
  rw [if_neg k9]
  by_cases k10 : kind % 12 = 10
  · rw [if_pos k10]
    dsimp only; omega
  rw [if_neg k10]
  dsimp only; omega
end Go.Proofs.Ytlbkogdmojlpmaa
namespace Go.Proofs.Ytlbkogdmojlpmaa
set_option linter.unusedVariables false
set_option maxRecDepth 20000
set_option linter.unusedSimpArgs false
open Go.ChangeShapes Go.WideShapes Go.ChangeAt Go.RowKit
theorem encL_none {m : MsgN} (h : encOk m = false) : encL m = [] := if_neg (by rw [h]; exact Bool.false_ne_true)
theorem encOk_fits {m : MsgN} (h : encOk m = true) : fitsB m = true := by
  unfold encOk rightB at h
  simp only [Bool.and_eq_true] at h
  exact h.1.2
theorem sz_head {m : MsgN} (ho : MsgOk m) (h : encOk m = true) : ∃ b1 b2 : UInt8, encL m = 0 :: b1 :: b2 :: remN m 11 ∧ b1.toNat + 2 = (encL m).length ∧ ((b2.toNat : Nat) : Int) = m.k ∧ (encL m).length ≤ 202 := by
  have hl : (encL m).length = (encRk m 12).length + 2 := by rw [encL_ok h, encF_len]
  have h2 : (encRk m 12).length ≤ 200 := by
    unfold encOk at h
    simp only [Bool.and_eq_true, decide_eq_true_eq] at h
    rw [encRk_len]; omega
  have hr : rightB m = true := by
    unfold encOk at h
    simp only [Bool.and_eq_true] at h
    exact h.1
  have hk := right_kind hr
  refine ⟨byteI ((encRk m 12).length : Int), byteI m.k, ?_, ?_, ?_, by omega⟩
  · rw [encL_ok h, encF_is, encRk_rem m 11 (Nat.le_refl _)]; rfl
  · rw [hl, byteI_nat (by omega)]
  · have := byteI_val m.k; omega
theorem sz_drop {L r t : List UInt8} {P : Nat} {bj bc : UInt8} (h : L.drop P = bj :: bc :: (r ++ t)) (hc : bc.toNat = r.length) : L.drop (P + 2 + bc.toNat) = t := by
  rw [Nat.add_assoc, ← List.drop_drop, h, hc, Nat.add_comm 2]
  simp
theorem sz_next {m : MsgN} (h : fitsB m = true) : ∀ K, K ≤ 11 → remN m K ≠ [] → ∃ (K2 : Nat) (bj bc : UInt8) (r : List UInt8), remN m K = bj :: bc :: (r ++ remN m K2) ∧ K2 < K ∧ bc.toNat = r.length ∧ bj.toNat + K2 = 11 ∧ 0 < r.length ∧ K2 ≤ 11 ∧ bj.toNat ≤ 11
  | 0, _, hn => absurd rfl hn
  | n + 1, hK, hn => by
    by_cases hc : contN m (11 - n) = []
    · have e : remN m (n + 1) = remN m n := if_pos hc
      rw [e] at hn ⊢
      obtain ⟨K2, bj, bc, r, h1, h2, h3, h4, h5, h6, h7⟩ := sz_next h n (by omega) hn
      exact ⟨K2, bj, bc, r, h1, by omega, h3, h4, h5, h6, h7⟩
    · have hl := cont_len h (11 - n)
      have hp := List.length_pos_iff.2 hc
      exact ⟨n, byteI ((11 - n : Nat) : Int), byteI ((contN m (11 - n)).length : Int), contN m (11 - n), if_neg hc, by omega, byteI_nat (by omega), by rw [byteI_nat (by omega)]; omega, hp, by omega, by rw [byteI_nat (by omega)]; omega⟩
set_option maxRecDepth 100000 in
set_option maxHeartbeats 8000000 in
theorem WireSizes_walk (a0 : Int) (hk0 : -9223372036854775808 ≤ a0) (hl0 : a0 < 9223372036854775808)
    (a1 : Int) (hk1 : -9223372036854775808 ≤ a1) (hl1 : a1 < 9223372036854775808)
    (a2 : ByteArray) (hS2 : a2.size ≤ maxLen)
    (A3 : Option Addr) (n3 cap3 : Nat) (l3 : List UInt8) (hn3 : l3.length = n3) (hc3 : n3 ≤ cap3) (hm3 : cap3 ≤ maxLen) (hz3 : A3 = none → cap3 = 0) (w : World) (hr3 : Rd w A3 l3) :
    Calls Try.prog 9 #[.int .i64 a0, .int .i64 a1, .string a2, .slice A3 n3 cap3] w fun e w' => e = .returned (.bool true) ∧ Below w.heap.size w w' := by
  have ib3 : IsB w l3 (.slice A3 n3 cap3) := hr3.isB' hn3 hc3 hm3 hz3
  by_cases b0 : 40 < a2.size
  · refine calls_fx (args := [.int .i64 a0, .int .i64 a1, .string a2, .slice A3 n3 cap3]) 139 Try.func9 rfl rfl rfl ?_
    intro fa F
    have M := Mx.start w
    replace M := M.argB 0 ib3 (fun g e => by cases e)
    refine wp_seq_k fun K21 hK21 => wp_region_lit ?_
    refine rm rfl F fun a22 F22 => ?_
    refine hK21 _ _ (wp_seq_k fun K23 hK23 => ?_)
    refine wp_seq_k fun K24 hK24 => wp_region_lit ?_
    refine wl_call (wanted_none rfl) rfl F22 rfl rfl (enters_of Try.func15 (by kernel_rfl) rfl) #[] (args0) (call_ex (lknown_any w)) ?_
    rintro _ w25 a25 ⟨rfl, b25⟩ F25
    have M25 := M.step b25
    refine rn rfl rfl F25 rfl (.bool false) (run_not _ _ rfl (F25.get (t := 14) rfl)) fun a26 F26 => ?_
    refine hK24 _ _ (wp_cond_false (F26.get (t := 15) rfl) ?_)
    refine wp_skip ?_
    refine hK23 _ _ (wp_seq_k fun K27 hK27 => ?_)
    refine wp_seq_k fun K28 hK28 => wp_region_lit ?_
    refine rm rfl F26 fun a29 F29 => ?_
    refine rn rfl rfl F29 rfl (.int .i64 (a2.size : Int)) (y_lenS _ rfl (F29.get rfl) rfl) fun a30 F30 => ?_
    refine rn rfl rfl F30 rfl (.bool true) (y_gtr _ _ _ _ rfl (F30.get rfl) rfl (decide_eq_true (show (40 : Int) < (a2.size : Int) by omega))) fun a31 F31 => ?_
    refine exS 5 [(0, .int .i64 a0), (1, .int .i64 a1), (2, .string a2), (3, .slice A3 n3 cap3), (8, .bool false), (23, .bool true)] [] dnil [] F31 (by kernel_rfl) fun a32 F32 => ?_
    simp only [List.drop_succ_cons, List.drop_zero]
    refine hK28 _ _ (wp_cond_true (F32.get (t := 23) rfl) ?_)
    refine wp_seq_k fun K33 hK33 => wp_region_lit ?_
    refine rm rfl F32 fun a34 F34 => ?_
    refine hK33 _ _ (wp_ret ?_)
    try simp only [Exit.then, Exit.inBlock, Exit.jump]
    exact bodyPost_ret (res1 rfl (F34.get (t := 8) rfl)) F34.defers ⟨rfl, M25.below⟩
  by_cases b1 : 130 < l3.length
  · refine calls_fx (args := [.int .i64 a0, .int .i64 a1, .string a2, .slice A3 n3 cap3]) 139 Try.func9 rfl rfl rfl ?_
    intro fa F
    have M := Mx.start w
    replace M := M.argB 0 ib3 (fun g e => by cases e)
    refine wp_seq_k fun K21 hK21 => wp_region_lit ?_
    refine rm rfl F fun a22 F22 => ?_
    refine hK21 _ _ (wp_seq_k fun K23 hK23 => ?_)
    refine wp_seq_k fun K24 hK24 => wp_region_lit ?_
    refine wl_call (wanted_none rfl) rfl F22 rfl rfl (enters_of Try.func15 (by kernel_rfl) rfl) #[] (args0) (call_ex (lknown_any w)) ?_
    rintro _ w25 a25 ⟨rfl, b25⟩ F25
    have M25 := M.step b25
    refine rn rfl rfl F25 rfl (.bool false) (run_not _ _ rfl (F25.get (t := 14) rfl)) fun a26 F26 => ?_
    refine hK24 _ _ (wp_cond_false (F26.get (t := 15) rfl) ?_)
    refine wp_skip ?_
    refine hK23 _ _ (wp_seq_k fun K27 hK27 => ?_)
    refine wp_seq_k fun K28 hK28 => wp_region_lit ?_
    refine rm rfl F26 fun a29 F29 => ?_
    refine rn rfl rfl F29 rfl (.int .i64 (a2.size : Int)) (y_lenS _ rfl (F29.get rfl) rfl) fun a30 F30 => ?_
    refine rn rfl rfl F30 rfl (.bool false) (y_gtr _ _ _ _ rfl (F30.get rfl) rfl (decide_eq_false (show ¬ (40 : Int) < (a2.size : Int) by omega))) fun a31 F31 => ?_
    refine rm rfl F31 fun a32 F32 => ?_
    refine rm rfl F32 fun a33 F33 => ?_
    refine wl_run (w' := w25) (wanted_yes rfl rfl rfl (F33.get rfl)) rfl F33 rfl (.int .i64 (l3.length : Int)) (y_len _ rfl (F33.get rfl) (M25.isb (k := 0) rfl) rfl) fun a34 F34 => ?_
    refine wl_run (w' := w25) (wanted_yes rfl rfl rfl (F34.get rfl)) rfl F34 rfl (.bool true) (y_gtr _ _ _ _ rfl (F34.get rfl) rfl (decide_eq_true (show (130 : Int) < (l3.length : Int) by omega))) fun a35 F35 => ?_
    refine rn rfl rfl F35 rfl (.bool true) (run_pick_f rfl (F35.get rfl) (F35.get rfl)) fun a36 F36 => ?_
    refine hK28 _ _ (wp_cond_true (F36.get (t := 23) rfl) ?_)
    refine wp_seq_k fun K37 hK37 => wp_region_lit ?_
    refine rm rfl F36 fun a38 F38 => ?_
    refine hK37 _ _ (wp_ret ?_)
    try simp only [Exit.then, Exit.inBlock, Exit.jump]
    exact bodyPost_ret (res1 rfl (F38.get (t := 8) rfl)) F38.defers ⟨rfl, M25.below⟩
  have hs : a2.size ≤ 40 := by omega
  obtain ⟨m, em⟩ : ∃ x, mkM a0 a1 a2 l3 = x := ⟨_, rfl⟩
  obtain ⟨om, zm⟩ := mkM_ok a0 a1 a2 l3
  have rgm := mkM_right a0 a1 a2 l3
  have km := mkM_kind a0 a1 a2 l3
  rw [em] at om zm rgm km
  obtain ⟨qm, hm1⟩ : ∃ x, encOk m = x := ⟨_, rfl⟩
  obtain ⟨xm, hm2⟩ : ∃ x, encL m = x := ⟨_, rfl⟩
  clear rgm
  refine calls_fx (args := [.int .i64 a0, .int .i64 a1, .string a2, .slice A3 n3 cap3]) 139 Try.func9 rfl rfl rfl ?_
  intro fa F
  have M := Mx.start w
  replace M := M.argB 0 ib3 (fun g e => by cases e)
  refine wp_seq_k fun K21 hK21 => wp_region_lit ?_
  refine rm rfl F fun a22 F22 => ?_
  refine hK21 _ _ (wp_seq_k fun K23 hK23 => ?_)
  refine wp_seq_k fun K24 hK24 => wp_region_lit ?_
  refine wl_call (wanted_none rfl) rfl F22 rfl rfl (enters_of Try.func15 (by kernel_rfl) rfl) #[] (args0) (call_ex (lknown_any w)) ?_
  rintro _ w25 a25 ⟨rfl, b25⟩ F25
  have M25 := M.step b25
  refine rn rfl rfl F25 rfl (.bool false) (run_not _ _ rfl (F25.get (t := 14) rfl)) fun a26 F26 => ?_
  refine hK24 _ _ (wp_cond_false (F26.get (t := 15) rfl) ?_)
  refine wp_skip ?_
  refine hK23 _ _ (wp_seq_k fun K27 hK27 => ?_)
  refine wp_seq_k fun K28 hK28 => wp_region_lit ?_
  refine rm rfl F26 fun a29 F29 => ?_
  refine rn rfl rfl F29 rfl (.int .i64 (a2.size : Int)) (y_lenS _ rfl (F29.get rfl) rfl) fun a30 F30 => ?_
  refine rn rfl rfl F30 rfl (.bool false) (y_gtr _ _ _ _ rfl (F30.get rfl) rfl (decide_eq_false (show ¬ (40 : Int) < (a2.size : Int) by omega))) fun a31 F31 => ?_
  refine rm rfl F31 fun a32 F32 => ?_
  refine rm rfl F32 fun a33 F33 => ?_
  refine wl_run (w' := w25) (wanted_yes rfl rfl rfl (F33.get rfl)) rfl F33 rfl (.int .i64 (l3.length : Int)) (y_len _ rfl (F33.get rfl) (M25.isb (k := 0) rfl) rfl) fun a34 F34 => ?_
  refine wl_run (w' := w25) (wanted_yes rfl rfl rfl (F34.get rfl)) rfl F34 rfl (.bool false) (y_gtr _ _ _ _ rfl (F34.get rfl) rfl (decide_eq_false (show ¬ (130 : Int) < (l3.length : Int) by omega))) fun a35 F35 => ?_
  refine rn rfl rfl F35 rfl (.bool false) (run_pick_f rfl (F35.get rfl) (F35.get rfl)) fun a36 F36 => ?_
  refine hK28 _ _ (wp_cond_false (F36.get (t := 23) rfl) ?_)
  refine wp_skip ?_
  refine hK27 _ _ (wp_seq_k fun K37 hK37 => ?_)
  refine wp_region_lit ?_
  refine rm rfl F36 fun a38 F38 => ?_
  refine rm rfl F38 fun a39 F39 => ?_
  refine rm rfl F39 fun a40 F40 => ?_
  refine rm rfl F40 fun a41 F41 => ?_
  refine wl_call (wanted_none rfl) rfl F41 rfl rfl (enters_of Try.func16 (by kernel_rfl) rfl) #[.int .i64 a0, .int .i64 a1, .string a2, .slice A3 n3 cap3] (args4 (F41.get rfl) (F41.get rfl) (F41.get rfl) (F41.get rfl)) (make_is a0 a1 a2 l3 (.slice A3 n3 cap3) ⟨hk0, hl0⟩ ⟨hk1, hl1⟩ hs m em w25 (M25.isb (k := 0) rfl)) ?_
  rintro _ w42 a42 ⟨V42, rfl, is42, lo42, b42⟩ F42
  have M42 := M25.newMsg b42 is42 lo42 1 2 3 4 5
  clear M25 b42 lo42
  refine wl_alloc (wanted_none rfl) rfl F42 rfl M42 6 (t := 29) (c := msgA ⟨0, 0, 0, 0, "".toUTF8, 0, 0, [], [], [], [], []⟩ ⟨.slice none 0 0, .slice none 0 0, .slice none 0 0, .slice none 0 0, .slice none 0 0⟩) (by unfold execOp; kernel_rfl) ?_
  intro g43 a43 w43 F43 M43
  clear F42 M42
  refine wl_st (wanted_none rfl) rfl F43 M43 (k := 6) rfl _ _ _ rfl (F43.get rfl) (F43.get rfl) (msgA m V42) (msgA m V42) rfl (Nat.le_of_ble_eq_true rfl) (msgA_one (w := w43) ⟨(M43.isb (k := 1) rfl), (M43.isb (k := 2) rfl), (M43.isb (k := 3) rfl), (M43.isb (k := 4) rfl), (M43.isb (k := 5) rfl)⟩) (y_put0 rfl) (by kernel_rfl) ?_
  intro w44 M44
  clear M43
  refine hK37 _ _ (wp_seq_k fun K45 hK45 => ?_)
  refine wp_region_lit ?_
  refine rn rfl rfl F43 rfl (.agg (msgA m V42)) (y_ldN _ _ rfl (F43.get rfl) (M44.blk (k := 6) rfl) (msgA m V42) (y_all rfl) Try.underlying29 rfl (by kernel_rfl)) fun a46 F46 => ?_
  refine wl_call (wanted_none rfl) rfl F46 rfl rfl (enters_of Try.func17 (by kernel_rfl) rfl) #[.agg (msgA m V42)] (args1 (F46.get rfl)) (enc_is m V42 om zm qm xm hm1 hm2 w44 ⟨(M44.isb (k := 1) rfl), (M44.isb (k := 2) rfl), (M44.isb (k := 3) rfl), (M44.isb (k := 4) rfl), (M44.isb (k := 5) rfl)⟩) ?_
  rintro _ w47 a47 ⟨v47, rfl, hv47, b47⟩ F47
  have M47 := M44.newO b47 7 hv47
  clear M44 b47 hv47
  obtain ⟨A47, c47, rfl⟩ := (M47.isO (k := 7) rfl).shape
  refine exS 5 [(8, .bool false), (9, .pointer (some ⟨g43, 0, none⟩)), (10, .slice A47 (xm).length c47), (11, .bool qm)] [] dnil [] F47 (by kernel_rfl) fun a48 F48 => ?_
  simp only [List.drop_succ_cons, List.drop_zero]
  refine hK45 _ _ (wp_seq_k fun K49 hK49 => ?_)
  refine wp_seq_k fun K50 hK50 => wp_region_lit ?_
  refine rm rfl F48 fun a51 F51 => ?_
  cases qm
  · refine rn rfl rfl F51 rfl (.bool true) (run_not _ _ rfl (F51.get (t := 34) rfl)) fun a52 F52 => ?_
    refine hK50 _ _ (wp_cond_true (F52.get (t := 35) rfl) ?_)
    refine wp_seq_k fun K53 hK53 => wp_region_lit ?_
    refine rm rfl F52 fun a54 F54 => ?_
    refine rn rfl rfl F54 rfl (.int .i64 (xm.length : Int)) (y_len _ rfl (F54.get rfl) (M47.isO (k := 7) rfl) rfl) fun a55 F55 => ?_
    refine rn rfl rfl F55 rfl (.bool true) (y_eqI _ _ _ _ rfl (F55.get rfl) rfl Try.underlying3 (y_beqT (by rw [← hm2, encL_none hm1]; rfl))) fun a56 F56 => ?_
    refine rm rfl F56 fun a57 F57 => ?_
    refine hK53 _ _ (wp_ret ?_)
    try simp only [Exit.then, Exit.inBlock, Exit.jump]
    exact bodyPost_ret (res1 rfl (F57.get (t := 8) rfl)) F57.defers ⟨rfl, M47.below⟩
  obtain ⟨b1, b2, g1, g2, g3, g4⟩ := sz_head om hm1
  rw [hm2] at g1 g2 g4
  have g5 : 3 ≤ xm.length := by rw [g1]; simp
  refine rn rfl rfl F51 rfl (.bool false) (run_not _ _ rfl (F51.get (t := 34) rfl)) fun a58 F58 => ?_
  refine hK50 _ _ (wp_cond_false (F58.get (t := 35) rfl) ?_)
  refine wp_skip ?_
  refine hK49 _ _ (wp_seq_k fun K59 hK59 => ?_)
  refine wp_seq_k fun K60 hK60 => ?_
  have hD61 := (dcons (M47.blk (k := 6) rfl) dnil)
  refine region_fx F58 (SK [.inl (.slice A47 (xm).length c47), .inl (.int .i64 (xm.length : Int)), .inl (.bool false), .inl (.bool false), .inl (.slice A47 (xm).length c47), .inl ((ixV (.slice A47 (xm).length c47) 0)), .inl (.int .u8 (((0 : UInt8).toNat : Nat) : Int)), .inl (.int .i64 (((0 : UInt8).toNat : Nat) : Int)), .inl (.int .i64 0), .inl (.slice A47 (xm).length c47), .inl ((ixV (.slice A47 (xm).length c47) 1)), .inl (.int .u8 ((b1.toNat : Nat) : Int)), .inl (.int .i64 ((b1.toNat : Nat) : Int)), .inl (.int .i64 (0 + ((b1.toNat : Nat) : Int))), .inl (.slice A47 (xm).length c47), .inl (.int .i64 (xm.length : Int)), .inl (.int .i64 ((xm.length : Int) - 2)), .inl (.bool false), .inl (.bool false), .inl (.bool false), .inl (.slice A47 (xm).length c47), .inl (.int .i64 (xm.length : Int)), .inl (.int .i64 ((xm.length : Int) - 2)), .inl (.bool false), .inl (.bool false), .inl (.bool false), .inl (.slice A47 (xm).length c47), .inl ((ixV (.slice A47 (xm).length c47) 2)), .inl (.int .u8 ((b2.toNat : Nat) : Int)), .inl (.int .i64 ((b2.toNat : Nat) : Int)), .inl (.pointer (some ⟨g43, 0, none⟩)), .inl (.int .i64 m.k), .inl (.bool false), .inl (.bool false)]) 34 rfl (by kernel_rfl) ⟨hop0 F58 (by kernel_rfl), ?_, ?_, hop0 F58 (by kernel_rfl), hop0 F58 (by kernel_rfl), ?_, ?_, ?_, ?_, hop0 F58 (by kernel_rfl), ?_, ?_, ?_, ?_, hop0 F58 (by kernel_rfl), ?_, ?_, ?_, hop0 F58 (by kernel_rfl), hop0 F58 (by kernel_rfl), hop0 F58 (by kernel_rfl), ?_, ?_, ?_, hop0 F58 (by kernel_rfl), hop0 F58 (by kernel_rfl), hop0 F58 (by kernel_rfl), ?_, ?_, ?_, hop0 F58 (by kernel_rfl), hopP F58 hD61 0 (some g43) (by kernel_rfl), ?_, hop0 F58 (by kernel_rfl), trivial⟩ ?_
  · intro ua uw hb hd
    have e39 : ua.eval (.tmp 39) = .slice A47 (xm).length c47 := hd 39 (by decide)
    exact hop_runK (F := (StK.eq (.int .i64 (xm.length : Int))).F) (wanted_none rfl) (.int .i64 (xm.length : Int)) (y_len _ rfl e39 ((M47.step hb).isO (k := 7) rfl) rfl) rfl
  · intro ua uw hb hd
    have e40 : ua.eval (.tmp 40) = .int .i64 (xm.length : Int) := hd 40 (by decide)
    exact hop_runK (F := (StK.eq (.bool false)).F) (wanted_none rfl) (.bool false) (y_lss _ _ _ _ rfl e40 rfl (decide_eq_false (by omega))) rfl
  · intro ua uw hb hd
    have eg : ua.eval (.tmp 42) = .bool false := hd 42 (by decide)
    have e43 : ua.eval (.tmp 43) = .slice A47 (xm).length c47 := hd 43 (by decide)
    exact hop_runK (F := (StK.eq ((ixV (.slice A47 (xm).length c47) 0))).F) (wanted_yes rfl rfl rfl eg) ((ixV (.slice A47 (xm).length c47) 0)) (y_ixB _ _ rfl e43 ((M47.step hb).isO (k := 7) rfl) rfl rfl (by omega)) rfl
  · intro ua uw hb hd
    have eg : ua.eval (.tmp 42) = .bool false := hd 42 (by decide)
    have e44 : ua.eval (.tmp 44) = (ixV (.slice A47 (xm).length c47) 0) := hd 44 (by decide)
    exact hop_runK (F := (StK.eq (.int .u8 (((0 : UInt8).toNat : Nat) : Int))).F) (wanted_yes rfl rfl rfl eg) (.int .u8 (((0 : UInt8).toNat : Nat) : Int)) (y_ldB _ rfl e44 ((M47.step hb).isO (k := 7) rfl) (by rw [g1]; rfl) rfl) rfl
  · intro ua uw hb hd
    have eg : ua.eval (.tmp 42) = .bool false := hd 42 (by decide)
    have e45 : ua.eval (.tmp 45) = .int .u8 (((0 : UInt8).toNat : Nat) : Int) := hd 45 (by decide)
    exact hop_runK (F := (StK.eq (.int .i64 (((0 : UInt8).toNat : Nat) : Int))).F) (wanted_yes rfl rfl rfl eg) (.int .i64 (((0 : UInt8).toNat : Nat) : Int)) (y_cvI _ _ _ rfl e45 Try.underlying5 Try.underlying3 (byte_i64 _)) rfl
  · intro ua uw hb hd
    have eg : ua.eval (.tmp 42) = .bool false := hd 42 (by decide)
    have e46 : ua.eval (.tmp 46) = .int .i64 (((0 : UInt8).toNat : Nat) : Int) := hd 46 (by decide)
    exact hop_runK (F := (StK.eq (.int .i64 0)).F) (wanted_yes rfl rfl rfl eg) (.int .i64 0) (y_shlI _ _ _ _ rfl e46 rfl (by decide) rfl) rfl
  · intro ua uw hb hd
    have eg : ua.eval (.tmp 42) = .bool false := hd 42 (by decide)
    have e48 : ua.eval (.tmp 48) = .slice A47 (xm).length c47 := hd 48 (by decide)
    exact hop_runK (F := (StK.eq ((ixV (.slice A47 (xm).length c47) 1))).F) (wanted_yes rfl rfl rfl eg) ((ixV (.slice A47 (xm).length c47) 1)) (y_ixB _ _ rfl e48 ((M47.step hb).isO (k := 7) rfl) rfl rfl (by omega)) rfl
  · intro ua uw hb hd
    have eg : ua.eval (.tmp 42) = .bool false := hd 42 (by decide)
    have e49 : ua.eval (.tmp 49) = (ixV (.slice A47 (xm).length c47) 1) := hd 49 (by decide)
    exact hop_runK (F := (StK.eq (.int .u8 ((b1.toNat : Nat) : Int))).F) (wanted_yes rfl rfl rfl eg) (.int .u8 ((b1.toNat : Nat) : Int)) (y_ldB _ rfl e49 ((M47.step hb).isO (k := 7) rfl) (by rw [g1]; rfl) rfl) rfl
  · intro ua uw hb hd
    have eg : ua.eval (.tmp 42) = .bool false := hd 42 (by decide)
    have e50 : ua.eval (.tmp 50) = .int .u8 ((b1.toNat : Nat) : Int) := hd 50 (by decide)
    exact hop_runK (F := (StK.eq (.int .i64 ((b1.toNat : Nat) : Int))).F) (wanted_yes rfl rfl rfl eg) (.int .i64 ((b1.toNat : Nat) : Int)) (y_cvI _ _ _ rfl e50 Try.underlying5 Try.underlying3 (byte_i64 _)) rfl
  · intro ua uw hb hd
    have eg : ua.eval (.tmp 42) = .bool false := hd 42 (by decide)
    have e47 : ua.eval (.tmp 47) = .int .i64 0 := hd 47 (by decide)
    have e51 : ua.eval (.tmp 51) = .int .i64 ((b1.toNat : Nat) : Int) := hd 51 (by decide)
    exact hop_runK (F := (StK.eq (.int .i64 (0 + ((b1.toNat : Nat) : Int)))).F) (wanted_yes rfl rfl rfl eg) (.int .i64 (0 + ((b1.toNat : Nat) : Int))) (y_addI _ _ _ _ rfl e47 e51 rfl (by omega)) rfl
  · intro ua uw hb hd
    have eg : ua.eval (.tmp 42) = .bool false := hd 42 (by decide)
    have e53 : ua.eval (.tmp 53) = .slice A47 (xm).length c47 := hd 53 (by decide)
    exact hop_runK (F := (StK.eq (.int .i64 (xm.length : Int))).F) (wanted_yes rfl rfl rfl eg) (.int .i64 (xm.length : Int)) (y_len _ rfl e53 ((M47.step hb).isO (k := 7) rfl) rfl) rfl
  · intro ua uw hb hd
    have eg : ua.eval (.tmp 42) = .bool false := hd 42 (by decide)
    have e54 : ua.eval (.tmp 54) = .int .i64 (xm.length : Int) := hd 54 (by decide)
    exact hop_runK (F := (StK.eq (.int .i64 ((xm.length : Int) - 2))).F) (wanted_yes rfl rfl rfl eg) (.int .i64 ((xm.length : Int) - 2)) (y_subI _ _ _ _ rfl e54 rfl rfl (by omega)) rfl
  · intro ua uw hb hd
    have eg : ua.eval (.tmp 42) = .bool false := hd 42 (by decide)
    have e52 : ua.eval (.tmp 52) = .int .i64 (0 + ((b1.toNat : Nat) : Int)) := hd 52 (by decide)
    have e55 : ua.eval (.tmp 55) = .int .i64 ((xm.length : Int) - 2) := hd 55 (by decide)
    exact hop_runK (F := (StK.eq (.bool false)).F) (wanted_yes rfl rfl rfl eg) (.bool false) (y_neI _ _ _ _ rfl e52 e55 Try.underlying3 (y_bneF (show ((0 + ((b1.toNat : Nat) : Int)) = ((xm.length : Int) - 2)) by omega))) rfl
  · intro ua uw hb hd
    have eg : ua.eval (.tmp 58) = .bool false := hd 58 (by decide)
    have e59 : ua.eval (.tmp 59) = .slice A47 (xm).length c47 := hd 59 (by decide)
    exact hop_runK (F := (StK.eq (.int .i64 (xm.length : Int))).F) (wanted_yes rfl rfl rfl eg) (.int .i64 (xm.length : Int)) (y_len _ rfl e59 ((M47.step hb).isO (k := 7) rfl) rfl) rfl
  · intro ua uw hb hd
    have eg : ua.eval (.tmp 58) = .bool false := hd 58 (by decide)
    have e60 : ua.eval (.tmp 60) = .int .i64 (xm.length : Int) := hd 60 (by decide)
    exact hop_runK (F := (StK.eq (.int .i64 ((xm.length : Int) - 2))).F) (wanted_yes rfl rfl rfl eg) (.int .i64 ((xm.length : Int) - 2)) (y_subI _ _ _ _ rfl e60 rfl rfl (by omega)) rfl
  · intro ua uw hb hd
    have eg : ua.eval (.tmp 58) = .bool false := hd 58 (by decide)
    have e61 : ua.eval (.tmp 61) = .int .i64 ((xm.length : Int) - 2) := hd 61 (by decide)
    exact hop_runK (F := (StK.eq (.bool false)).F) (wanted_yes rfl rfl rfl eg) (.bool false) (y_gtr _ _ _ _ rfl e61 rfl (decide_eq_false (show ¬ (200 < ((xm.length : Int) - 2)) by omega))) rfl
  · intro ua uw hb hd
    have eg : ua.eval (.tmp 64) = .bool false := hd 64 (by decide)
    have e65 : ua.eval (.tmp 65) = .slice A47 (xm).length c47 := hd 65 (by decide)
    exact hop_runK (F := (StK.eq ((ixV (.slice A47 (xm).length c47) 2))).F) (wanted_yes rfl rfl rfl eg) ((ixV (.slice A47 (xm).length c47) 2)) (y_ixB _ _ rfl e65 ((M47.step hb).isO (k := 7) rfl) rfl rfl (by omega)) rfl
  · intro ua uw hb hd
    have eg : ua.eval (.tmp 64) = .bool false := hd 64 (by decide)
    have e66 : ua.eval (.tmp 66) = (ixV (.slice A47 (xm).length c47) 2) := hd 66 (by decide)
    exact hop_runK (F := (StK.eq (.int .u8 ((b2.toNat : Nat) : Int))).F) (wanted_yes rfl rfl rfl eg) (.int .u8 ((b2.toNat : Nat) : Int)) (y_ldB _ rfl e66 ((M47.step hb).isO (k := 7) rfl) (by rw [g1]; rfl) rfl) rfl
  · intro ua uw hb hd
    have eg : ua.eval (.tmp 64) = .bool false := hd 64 (by decide)
    have e67 : ua.eval (.tmp 67) = .int .u8 ((b2.toNat : Nat) : Int) := hd 67 (by decide)
    exact hop_runK (F := (StK.eq (.int .i64 ((b2.toNat : Nat) : Int))).F) (wanted_yes rfl rfl rfl eg) (.int .i64 ((b2.toNat : Nat) : Int)) (y_cvI _ _ _ rfl e67 Try.underlying5 Try.underlying3 (byte_i64 _)) rfl
  · intro ua uw hb hd
    have eg : ua.eval (.tmp 64) = .bool false := hd 64 (by decide)
    have e68 : ua.eval (.tmp 68) = .int .i64 ((b2.toNat : Nat) : Int) := hd 68 (by decide)
    have e70 : ua.eval (.tmp 70) = .int .i64 m.k := hd 70 (by decide)
    exact hop_runK (F := (StK.eq (.bool false)).F) (wanted_yes rfl rfl rfl eg) (.bool false) (y_neI _ _ _ _ rfl e68 e70 Try.underlying3 (y_bneF (show (((b2.toNat : Nat) : Int) = m.k) by omega))) rfl
  intro p62 a62 w62 b62 G62 y62
  obtain ⟨-, -, -, -, -, -, -, -, -, -, -, -, -, -, -, -, -, -, -, -, -, -, -, -, -, -, -, -, -, -, -, -, -, q33, -⟩ := y62
  have r33 : p62 33 = .bool false := q33 (by decide)
  simp only [List.take_succ_cons, List.take_zero, layV, Nat.zero_add, Nat.reduceAdd, r33] at G62
  have M62 := M47.kc b62
  clear F58 M47 r33 q33
  refine hK60 _ _ (wp_cond_false (G62.get (t := 72) rfl) ?_)
  refine wp_skip ?_
  refine hK59 _ _ (wp_seq_k fun K63 hK63 => ?_)
  refine wp_region_lit ?_
  refine rm rfl G62 fun a64 F64 => ?_
  refine rm rfl F64 fun a65 F65 => ?_
  refine hK63 _ _ (wp_seq_k fun K66 hK66 => ?_)
  refine wp_block ?_
  refine loop_fx (α := Nat × Nat × Nat) (n := 139) (G := none) (w0 := w) (fun x => [(10, .slice A47 (xm).length c47), (12, .int .i64 (x.1 : Int)), (13, .int .i64 (x.2.1 : Int))]) (fun x => [(0, bytR l3 (.slice A3 n3 cap3)), (1, bytR m.l5 V42.v5), (2, bytR m.l6 V42.v6), (3, bytR m.l7 V42.v7), (4, bytR m.l8 V42.v8), (5, bytR m.l9 V42.v9), (6, blkR g43 29 (msgA m V42)), (7, ownR xm (.slice A47 (xm).length c47))]) (fun k x => k = x.2.2 ∧ (x.1 ≤ xm.length ∧ xm.drop x.1 = remN m x.2.2 ∧ x.2.2 ≤ 11 ∧ x.2.1 + x.2.2 ≤ 11)) _ ⟨3, 0, 11⟩ ⟨rfl, ⟨by omega, (by rw [g1]; rfl), Nat.le_refl _, Nat.le_refl _⟩⟩ (F65.sub ⟨rfl, rfl, rfl, trivial⟩) (M62.sub ⟨rfl, rfl, rfl, rfl, rfl, rfl, rfl, rfl, trivial⟩) ?_
  clear F65 M62
  rintro k67 ⟨P, la, K⟩ a67 w67 K67 ⟨ek67, I67⟩ F67 M67 hK67
  replace F67 : Fx 139 a67 [(10, .slice A47 (xm).length c47), (12, .int .i64 (P : Int)), (13, .int .i64 (la : Int))] := F67
  replace M67 : Mx _ _ w67 [(0, bytR l3 (.slice A3 n3 cap3)), (1, bytR m.l5 V42.v5), (2, bytR m.l6 V42.v6), (3, bytR m.l7 V42.v7), (4, bytR m.l8 V42.v8), (5, bytR m.l9 V42.v9), (6, blkR g43 29 (msgA m V42)), (7, ownR xm (.slice A47 (xm).length c47))] := M67
  replace I67 : P ≤ xm.length ∧ xm.drop P = remN m K ∧ K ≤ 11 ∧ la + K ≤ 11 := I67
  replace ek67 : k67 = K := ek67
  obtain ⟨hP, hD, hK, hla⟩ := I67
  by_cases hnil : remN m K = []
  · have hPe : P = xm.length := by have := congrArg List.length hD; rw [hnil, List.length_drop] at this; simp at this; omega
    refine wp_seq_k fun K68 hK68 => wp_seq_k fun K69 hK69 => ?_
    refine wp_region_lit ?_
    refine rm rfl F67 fun a70 F70 => ?_
    refine rm rfl F70 fun a71 F71 => ?_
    refine rn rfl rfl F71 rfl (.int .i64 (xm.length : Int)) (y_len _ rfl (F71.get rfl) (M67.isO (k := 7) rfl) rfl) fun a72 F72 => ?_
    refine rn rfl rfl F72 rfl (.bool false) (y_lss _ _ _ _ rfl (F72.get rfl) (F72.get rfl) (decide_eq_false (by omega))) fun a73 F73 => ?_
    refine hK69 _ _ (wp_cond_false (F73.get (t := 76) rfl) ?_)
    refine wp_exit ?_
    simp only [Exit.then, Exit.inBlock, ↓reduceIte, Nat.reduceEqDiff]
    refine hK66 _ _ (wp_seq_k fun K74 hK74 => ?_)
    refine wp_region_lit ?_
    refine rm rfl F73 fun a75 F75 => ?_
    refine rm rfl F75 fun a76 F76 => ?_
    refine rn rfl rfl F76 rfl (.int .i64 (xm.length : Int)) (y_len _ rfl (F76.get rfl) (M67.isO (k := 7) rfl) rfl) fun a77 F77 => ?_
    refine rn rfl rfl F77 rfl (.bool true) (y_eqI _ _ _ _ rfl (F77.get rfl) (F77.get rfl) Try.underlying3 (y_beqT (by omega))) fun a78 F78 => ?_
    refine rm rfl F78 fun a79 F79 => ?_
    refine hK74 _ _ (wp_ret ?_)
    try simp only [Exit.then, Exit.inBlock, Exit.jump]
    exact bodyPost_ret (res1 rfl (F79.get (t := 8) rfl)) F79.defers ⟨rfl, M67.below⟩
  obtain ⟨K2, bj, bc, r, i1, i2, i3, i4, i5, i6, i7⟩ := sz_next (encOk_fits hm1) K hK hnil
  rw [i1] at hD
  have hlen := congrArg List.length hD
  rw [List.length_drop] at hlen
  simp only [List.length_cons, List.length_append] at hlen
  have hz1 : xm[P]? = some bj := by have := congrArg (·[0]?) hD; simpa using this
  have hz2 : xm[P + 1]? = some bc := by have := congrArg (·[1]?) hD; simpa using this
  refine wp_seq_k fun K80 hK80 => wp_seq_k fun K81 hK81 => ?_
  refine wp_region_lit ?_
  refine rm rfl F67 fun a82 F82 => ?_
  refine rm rfl F82 fun a83 F83 => ?_
  refine rn rfl rfl F83 rfl (.int .i64 (xm.length : Int)) (y_len _ rfl (F83.get rfl) (M67.isO (k := 7) rfl) rfl) fun a84 F84 => ?_
  refine rn rfl rfl F84 rfl (.bool true) (y_lss _ _ _ _ rfl (F84.get rfl) (F84.get rfl) (decide_eq_true (by omega))) fun a85 F85 => ?_
  refine hK81 _ _ (wp_cond_true (F85.get (t := 76) rfl) ?_)
  refine wp_skip ?_
  refine hK80 _ _ (wp_block ?_)
  refine wp_seq_k fun K86 hK86 => wp_seq_k fun K87 hK87 => ?_
  refine wp_region_lit ?_
  refine rm rfl F85 fun a88 F88 => ?_
  refine rn rfl rfl F88 rfl (.int .i64 ((P : Int) + 2)) (y_addI _ _ _ _ rfl (F88.get rfl) rfl rfl (by omega)) fun a89 F89 => ?_
  refine rm rfl F89 fun a90 F90 => ?_
  refine rn rfl rfl F90 rfl (.int .i64 (xm.length : Int)) (y_len _ rfl (F90.get rfl) (M67.isO (k := 7) rfl) rfl) fun a91 F91 => ?_
  refine rn rfl rfl F91 rfl (.bool false) (y_gtr _ _ _ _ rfl (F91.get rfl) (F91.get rfl) (decide_eq_false (show ¬ ((xm.length : Int) < ((P : Int) + 2)) by omega))) fun a92 F92 => ?_
  refine rm rfl F92 fun a93 F93 => ?_
  refine rm rfl F93 fun a94 F94 => ?_
  refine rm rfl F94 fun a95 F95 => ?_
  refine wl_run (w' := w67) (wanted_yes rfl rfl rfl (F95.get rfl)) rfl F95 rfl ((ixV (.slice A47 (xm).length c47) P)) (y_ixB _ _ rfl (F95.get rfl) (M67.isO (k := 7) rfl) (F95.get rfl) rfl (by omega)) fun a96 F96 => ?_
  refine wl_run (w' := w67) (wanted_yes rfl rfl rfl (F96.get rfl)) rfl F96 rfl (.int .u8 ((bj.toNat : Nat) : Int)) (y_ldB _ rfl (F96.get rfl) (M67.isO (k := 7) rfl) hz1 rfl) fun a97 F97 => ?_
  refine wl_run (w' := w67) (wanted_yes rfl rfl rfl (F97.get rfl)) rfl F97 rfl (.int .i64 ((bj.toNat : Nat) : Int)) (y_cvI _ _ _ rfl (F97.get rfl) Try.underlying5 Try.underlying3 (byte_i64 _)) fun a98 F98 => ?_
  refine rm rfl F98 fun a99 F99 => ?_
  refine wl_run (w' := w67) (wanted_yes rfl rfl rfl (F99.get rfl)) rfl F99 rfl (.bool false) (y_leq _ _ _ _ rfl (F99.get rfl) (F99.get rfl) (decide_eq_false (show ¬ (((bj.toNat : Nat) : Int) ≤ (la : Int)) by omega))) fun a100 F100 => ?_
  refine exA 4 [(90, .bool false), (91, .bool false), (92, .slice A47 (xm).length c47), (93, .int .i64 (P : Int))] [] dnil [] F100 (by kernel_rfl) (by kernel_rfl) fun a101 F101 => ?_
  simp only [List.drop_succ_cons, List.drop_zero]
  refine wl_run (w' := w67) (wanted_yes rfl rfl rfl (F101.get rfl)) rfl F101 rfl ((ixV (.slice A47 (xm).length c47) P)) (y_ixB _ _ rfl (F101.get rfl) (M67.isO (k := 7) rfl) (F101.get rfl) rfl (by omega)) fun a102 F102 => ?_
  refine wl_run (w' := w67) (wanted_yes rfl rfl rfl (F102.get rfl)) rfl F102 rfl (.int .u8 ((bj.toNat : Nat) : Int)) (y_ldB _ rfl (F102.get rfl) (M67.isO (k := 7) rfl) hz1 rfl) fun a103 F103 => ?_
  refine wl_run (w' := w67) (wanted_yes rfl rfl rfl (F103.get rfl)) rfl F103 rfl (.int .i64 ((bj.toNat : Nat) : Int)) (y_cvI _ _ _ rfl (F103.get rfl) Try.underlying5 Try.underlying3 (byte_i64 _)) fun a104 F104 => ?_
  refine wl_run (w' := w67) (wanted_yes rfl rfl rfl (F104.get rfl)) rfl F104 rfl (.bool false) (y_gtr _ _ _ _ rfl (F104.get rfl) rfl (decide_eq_false (show ¬ (11 < ((bj.toNat : Nat) : Int)) by omega))) fun a105 F105 => ?_
  refine exA 4 [(98, .bool false), (99, .bool false), (100, .slice A47 (xm).length c47), (101, .int .i64 (P : Int))] [] dnil [] F105 (by kernel_rfl) (by kernel_rfl) fun a106 F106 => ?_
  simp only [List.drop_succ_cons, List.drop_zero]
  refine wl_run (w' := w67) (wanted_yes rfl rfl rfl (F106.get rfl)) rfl F106 rfl (.int .i64 ((P : Int) + 1)) (y_addI _ _ _ _ rfl (F106.get rfl) rfl rfl (by omega)) fun a107 F107 => ?_
  refine wl_run (w' := w67) (wanted_yes rfl rfl rfl (F107.get rfl)) rfl F107 rfl ((ixV (.slice A47 (xm).length c47) (P + 1))) (y_ixB _ _ rfl (F107.get rfl) (M67.isO (k := 7) rfl) (F107.get rfl) (Int.natCast_add P 1).symm (by omega)) fun a108 F108 => ?_
  refine wl_run (w' := w67) (wanted_yes rfl rfl rfl (F108.get rfl)) rfl F108 rfl (.int .u8 ((bc.toNat : Nat) : Int)) (y_ldB _ rfl (F108.get rfl) (M67.isO (k := 7) rfl) hz2 rfl) fun a109 F109 => ?_
  refine wl_run (w' := w67) (wanted_yes rfl rfl rfl (F109.get rfl)) rfl F109 rfl (.bool false) (y_eqI _ _ _ _ rfl (F109.get rfl) rfl Try.underlying5 (y_beqF (show ¬ (((bc.toNat : Nat) : Int) = 0) by omega))) fun a110 F110 => ?_
  refine exA 3 [(106, .bool false), (107, .bool false), (108, .int .i64 (P : Int))] [] dnil [] F110 (by kernel_rfl) (by kernel_rfl) fun a111 F111 => ?_
  simp only [List.drop_succ_cons, List.drop_zero]
  refine wl_run (w' := w67) (wanted_yes rfl rfl rfl (F111.get rfl)) rfl F111 rfl (.int .i64 ((P : Int) + 2)) (y_addI _ _ _ _ rfl (F111.get rfl) rfl rfl (by omega)) fun a112 F112 => ?_
  refine rm rfl F112 fun a113 F113 => ?_
  refine rm rfl F113 fun a114 F114 => ?_
  refine wl_run (w' := w67) (wanted_yes rfl rfl rfl (F114.get rfl)) rfl F114 rfl (.int .i64 ((P : Int) + 1)) (y_addI _ _ _ _ rfl (F114.get rfl) rfl rfl (by omega)) fun a115 F115 => ?_
  refine wl_run (w' := w67) (wanted_yes rfl rfl rfl (F115.get rfl)) rfl F115 rfl ((ixV (.slice A47 (xm).length c47) (P + 1))) (y_ixB _ _ rfl (F115.get rfl) (M67.isO (k := 7) rfl) (F115.get rfl) (Int.natCast_add P 1).symm (by omega)) fun a116 F116 => ?_
  refine wl_run (w' := w67) (wanted_yes rfl rfl rfl (F116.get rfl)) rfl F116 rfl (.int .u8 ((bc.toNat : Nat) : Int)) (y_ldB _ rfl (F116.get rfl) (M67.isO (k := 7) rfl) hz2 rfl) fun a117 F117 => ?_
  refine wl_run (w' := w67) (wanted_yes rfl rfl rfl (F117.get rfl)) rfl F117 rfl (.int .i64 ((bc.toNat : Nat) : Int)) (y_cvI _ _ _ rfl (F117.get rfl) Try.underlying5 Try.underlying3 (byte_i64 _)) fun a118 F118 => ?_
  refine wl_run (w' := w67) (wanted_yes rfl rfl rfl (F118.get rfl)) rfl F118 rfl (.int .i64 (((P : Int) + 2) + ((bc.toNat : Nat) : Int))) (y_addI _ _ _ _ rfl (F118.get rfl) (F118.get rfl) rfl (by omega)) fun a119 F119 => ?_
  refine rm rfl F119 fun a120 F120 => ?_
  refine wl_run (w' := w67) (wanted_yes rfl rfl rfl (F120.get rfl)) rfl F120 rfl (.int .i64 (xm.length : Int)) (y_len _ rfl (F120.get rfl) (M67.isO (k := 7) rfl) rfl) fun a121 F121 => ?_
  refine wl_run (w' := w67) (wanted_yes rfl rfl rfl (F121.get rfl)) rfl F121 rfl (.bool false) (y_gtr _ _ _ _ rfl (F121.get rfl) (F121.get rfl) (decide_eq_false (show ¬ ((xm.length : Int) < (((P : Int) + 2) + ((bc.toNat : Nat) : Int))) by omega))) fun a122 F122 => ?_
  refine rn rfl rfl F122 rfl (.bool false) (run_pick_f rfl (F122.get rfl) (F122.get rfl)) fun a123 F123 => ?_
  refine hK87 _ _ (wp_cond_false (F123.get (t := 120) rfl) ?_)
  refine wp_skip ?_
  refine hK86 _ _ (wp_seq_k fun K124 hK124 => ?_)
  refine wp_region_lit ?_
  refine rm rfl F123 fun a125 F125 => ?_
  refine rm rfl F125 fun a126 F126 => ?_
  refine rn rfl rfl F126 rfl ((ixV (.slice A47 (xm).length c47) P)) (y_ixB _ _ rfl (F126.get rfl) (M67.isO (k := 7) rfl) (F126.get rfl) rfl (by omega)) fun a127 F127 => ?_
  refine rn rfl rfl F127 rfl (.int .u8 ((bj.toNat : Nat) : Int)) (y_ldB _ rfl (F127.get rfl) (M67.isO (k := 7) rfl) hz1 rfl) fun a128 F128 => ?_
  refine rn rfl rfl F128 rfl (.int .i64 ((bj.toNat : Nat) : Int)) (y_cvI _ _ _ rfl (F128.get rfl) Try.underlying5 Try.underlying3 (byte_i64 _)) fun a129 F129 => ?_
  refine rm rfl F129 fun a130 F130 => ?_
  refine hK124 _ _ (wp_region_lit ?_)
  refine rm rfl F130 fun a131 F131 => ?_
  refine rn rfl rfl F131 rfl (.int .i64 ((P : Int) + 2)) (y_addI _ _ _ _ rfl (F131.get rfl) rfl rfl (by omega)) fun a132 F132 => ?_
  refine rm rfl F132 fun a133 F133 => ?_
  refine rm rfl F133 fun a134 F134 => ?_
  refine rn rfl rfl F134 rfl (.int .i64 ((P : Int) + 1)) (y_addI _ _ _ _ rfl (F134.get rfl) rfl rfl (by omega)) fun a135 F135 => ?_
  refine rn rfl rfl F135 rfl ((ixV (.slice A47 (xm).length c47) (P + 1))) (y_ixB _ _ rfl (F135.get rfl) (M67.isO (k := 7) rfl) (F135.get rfl) (Int.natCast_add P 1).symm (by omega)) fun a136 F136 => ?_
  refine rn rfl rfl F136 rfl (.int .u8 ((bc.toNat : Nat) : Int)) (y_ldB _ rfl (F136.get rfl) (M67.isO (k := 7) rfl) hz2 rfl) fun a137 F137 => ?_
  refine rn rfl rfl F137 rfl (.int .i64 ((bc.toNat : Nat) : Int)) (y_cvI _ _ _ rfl (F137.get rfl) Try.underlying5 Try.underlying3 (byte_i64 _)) fun a138 F138 => ?_
  refine rn rfl rfl F138 rfl (.int .i64 (((P : Int) + 2) + ((bc.toNat : Nat) : Int))) (y_addI _ _ _ _ rfl (F138.get rfl) (F138.get rfl) rfl (by omega)) fun a139 F139 => ?_
  refine rm rfl F139 fun a140 F140 => ?_
  subst ek67
  exact hK67 _ ⟨(P + 2 + bc.toNat), bj.toNat, K2⟩ _ _ (by dsimp only; omega) ⟨rfl, ⟨(by dsimp only; omega), sz_drop hD i3, (by dsimp only; omega), (by dsimp only; omega)⟩⟩ (F140.sub ⟨rfl, rfl, rfl, trivial⟩) (M67.sub ⟨rfl, rfl, rfl, rfl, rfl, rfl, rfl, rfl, trivial⟩)
end Go.Proofs.Ytlbkogdmojlpmaa
