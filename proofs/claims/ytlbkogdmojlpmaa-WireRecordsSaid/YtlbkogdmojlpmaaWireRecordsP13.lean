/- What WireRecords stands on, part 13. -/
import Derived.Test.YtlbkogdmojlpmaaWireRecordsP1
import Derived.Test.YtlbkogdmojlpmaaWireRecordsP2
import Derived.Test.YtlbkogdmojlpmaaWireRecordsP3
import Derived.Test.YtlbkogdmojlpmaaWireRecordsP4
import Derived.Test.YtlbkogdmojlpmaaWireRecordsP5
import Derived.Test.YtlbkogdmojlpmaaWireRecordsP6
import Derived.Test.YtlbkogdmojlpmaaWireRecordsP7
import Derived.Test.YtlbkogdmojlpmaaWireRecordsP8
import Derived.Test.YtlbkogdmojlpmaaWireRecordsP9
import Derived.Test.YtlbkogdmojlpmaaWireRecordsP10
import Derived.Test.YtlbkogdmojlpmaaWireRecordsP11
import Derived.Test.YtlbkogdmojlpmaaWireRecordsP12
namespace Go.Proofs.Ytlbkogdmojlpmaa
set_option linter.unusedVariables false
set_option maxRecDepth 20000
set_option linter.unusedSimpArgs false
open Go.ChangeShapes Go.WideShapes Go.ChangeAt Go.RowKit
theorem enc_is (m : MsgN) (V : MsgV) (ho : MsgOk m) (hs : m.s.size ≤ 1000) (ok : Bool) (l : List UInt8) (h1 : encOk m = ok) (h2 : encL m = l) (w : World) (hm : MsgIs w m V) : Calls Try.prog 17 #[.agg (msgA m V)] w fun e w' => ∃ t, e = .returned t ∧ ∃ v, t = .tuple #[v, .bool ok] ∧ Byt w' w.heap.size v l ∧ Below w.heap.size w w' := by
  subst h1 h2; exact encode_ex m V ho hs w hm
theorem rec_is (r : RecN) (V : RecV) (ho : RecOk r) (ok : Bool) (l : List UInt8) (h1 : keepB r = ok) (h2 : recE r = l) (w : World) (hm : RecIs w r V) : Calls Try.prog 35 #[.agg (recA r V)] w fun e w' => ∃ t, e = .returned t ∧ ∃ v, t = .tuple #[v, .bool ok] ∧ Byt w' w.heap.size v l ∧ Below w.heap.size w w' := by
  subst h1 h2; exact record_ex r V ho w hm
theorem rrec_is (r : RecN) (V : RecV) (ho : RecOk r) (ok : Bool) (l : List UInt8) (h1 : keepB r = ok) (h2 : recE r = l) (w : World) (hm : RecIs w r V) : Calls Try.prog 36 #[.agg (recA r V)] w fun e w' => ∃ t, e = .returned t ∧ ∃ v, t = .tuple #[v, .bool ok] ∧ Byt w' w.heap.size v l ∧ Below w.heap.size w w' := by
  subst h1 h2; exact rrecord_ex r V ho w hm
theorem rd_is (b : List UInt8) (bv : Value) (hl : b.length ≤ 100000) (ok : Bool) (r : RecN) (h1 : rdOk b = ok) (h2 : rdR b = r) (w : World) (hb : IsB w b bv) : Calls Try.prog 37 #[bv] w fun e w' => ∃ t, e = .returned t ∧ ∃ V, t = .tuple #[.agg (recA r V), .bool ok] ∧ RecIs w' r V ∧ (∀ q, bfp V.v2 q ∨ bfp V.v5 q → w.heap.size ≤ q) ∧ Below w.heap.size w w' := by
  subst h1 h2; exact (readrec_any b bv hl w hb).mono fun e w' ⟨V, k1, k2, k3, k4⟩ => ⟨_, k1, V, rfl, k2, k3, k4⟩
theorem rrd_is (b : List UInt8) (bv : Value) (hl : b.length ≤ 100000) (ok : Bool) (r : RecN) (h1 : rdOk b = ok) (h2 : rdR b = r) (w : World) (hb : IsB w b bv) : Calls Try.prog 39 #[bv] w fun e w' => ∃ t, e = .returned t ∧ ∃ V, t = .tuple #[.agg (recA r V), .bool ok] ∧ RecIs w' r V ∧ (∀ q, bfp V.v2 q ∨ bfp V.v5 q → w.heap.size ≤ q) ∧ Below w.heap.size w w' := by
  subst h1 h2; exact (rreadrec_any b bv hl w hb).mono fun e w' ⟨V, k1, k2, k3, k4⟩ => ⟨_, k1, V, rfl, k2, k3, k4⟩
theorem recs_is (r r2 : RecN) (V V2 : RecV) (ho : RecOk r) (ho2 : RecOk r2) (ok : Bool) (h1 : eqR r r2 = ok) (w : World) (hm : RecIs w r V) (hm2 : RecIs w r2 V2) : Calls Try.prog 38 #[.agg (recA r V), .agg (recA r2 V2)] w fun e w' => e = .returned (.bool ok) ∧ Below w.heap.size w w' := by
  subst h1; exact recs_any r r2 V V2 ho ho2 w hm hm2
theorem maker_is (n : Int) (s : ByteArray) (b : List UInt8) (v : Value) (hN : -9223372036854775808 ≤ n ∧ n < 9223372036854775808) (hs : s.size ≤ 40) (hbl : b.length ≤ 1000) (r : RecN) (hr : mkR n s b = r) (w : World) (hv : IsB w b v) : Calls Try.prog 34 #[.int .i64 n, .string s, v] w fun e w' => ∃ t, e = .returned t ∧ ∃ V, t = .agg (recA r V) ∧ RecIs w' r V ∧ (∀ g, bfp V.v2 g ∨ bfp V.v5 g → w.heap.size ≤ g) ∧ Below w.heap.size w w' := by
  subst hr; exact make_rec n s b v hN hs hbl w hv
section
variable {G : Option Nat} {w0 w : World} {R : List (Nat × Res)}
theorem Mx.nilT (M : Mx G w0 w R) (i : Nat) : Mx G w0 w ((i, tlR [] (.slice none 0 0)) :: R) :=
  M.cons i _ (show Tl w (.slice none 0 0) [] from .inl ⟨rfl, rfl⟩) tlR_dep (fun g hg => by cases hg) (fun _ g hg => by cases hg) fun _ _ _ _ _ g hg => by cases hg
theorem Mx.newRec {w' : World} (M : Mx G w0 w R) (h : Below w.heap.size w w') {r : RecN} {V : RecV} (hm : RecIs w' r V) (hlo : ∀ q, bfp V.v2 q ∨ bfp V.v5 q → w.heap.size ≤ q) (a b : Nat) : Mx G w0 w' ((b, bytR r.l5 V.v5) :: (a, bytR r.l2 V.v2) :: R) := by
  obtain ⟨M1, n1⟩ := (M.step h).roB2 (N := w.heap.size) (fun k s e _ g hg => M.lt k s e g hg) a hm.h2 (fun g hg => hlo g (.inl hg))
  exact (M1.roB2 n1 b hm.h5 (fun g hg => hlo g (.inr hg))).1
theorem next_is (M0 : Mx G w0 w R) (k q g : Nat) (l : List UInt8) (u : Value) (n : Int) (b : Bool) (hk : look R k = some (blkR g 94 #[u, .int .i64 n, .bool b])) (hq : look R q = some (tlR l u)) (hne : k ≠ q) (hl : l.length ≤ 1000000) (k5 k6 k7 k8 k9 : Nat) (m : MsgN) (ok bad : Bool) (l2 : List UInt8) (h1 : nxM l = m) (h2 : nxOk l = ok) (h3 : (b || nxBad l) = bad) (h4 : nxL l = l2) :
    Calls Try.prog 30 #[.pointer (some ⟨g, 0, none⟩)] w fun e w' => ∃ t, e = .returned t ∧ ∃ u' V, Mx G w0 w' ((k9, bytR m.l9 V.v9) :: (k8, bytR m.l8 V.v8) :: (k7, bytR m.l7 V.v7) :: (k6, bytR m.l6 V.v6) :: (k5, bytR m.l5 V.v5) :: (k, blkR g 94 #[u', .int .i64 n, .bool bad]) :: (q, tlR l2 u') :: R) ∧ t = .tuple #[.agg (msgA m V), .bool ok] := by
  subst h1 h2 h3 h4; exact next_any M0 k q g l u n b hk hq hne hl k5 k6 k7 k8 k9
end
theorem rZero_ok : RecOk rZero := ⟨by decide, by decide, by decide, by decide, by decide, by decide, by decide⟩
theorem rdR_ok (b : List UInt8) : RecOk (rdR b) := by
  unfold rdR provR
  split
  · exact rdM_ok b
  · exact rZero_ok
end Go.Proofs.Ytlbkogdmojlpmaa
namespace Go.Proofs.Ytlbkogdmojlpmaa
set_option linter.unusedVariables false
set_option maxRecDepth 20000
set_option linter.unusedSimpArgs false
open Go.ChangeShapes Go.WideShapes Go.ChangeAt Go.RowKit
def m7 : MsgN := ⟨7, 0, 0, 0, "".toUTF8, 0, 0, [], [], [], [], []⟩
def rA : RecN := ⟨1, ⟨#[97]⟩, [], 0, 0, [], 0, 0, 0⟩
theorem m7_ok : MsgOk m7 := ⟨by decide, by decide, by decide, by decide, by decide, by decide, by decide⟩
theorem rA_ok : RecOk rA := ⟨by decide, by decide, by decide, by decide, by decide, by decide, by decide⟩
theorem m7_right : rightB m7 = true := by
  unfold rightB
  rw [show wantOk m7.k m7.p = true from rfl, show decide (hasB m7 = wantN m7.k m7.p) = true from by decide]
  unfold fitsB
  rw [show nilB m7.s = true from decide_eq_true rfl, show topI m7.a 8 = 0 from topI_none 8, show topI m7.b 8 = 0 from topI_none 8]
  simp [m7]
theorem enc7 : encOk m7 = true ∧ encL m7 = [0, 1, 7] := by
  have h : encOk m7 = true := by
    unfold encOk
    rw [m7_right]
    decide
  exact ⟨h, by rw [encL_ok h]; decide⟩
theorem rA_name : NameOk rA.s := by
  refine ⟨by decide, by decide, fun i h => ?_⟩
  have : i = 0 := by have h1 : rA.s.size = 1 := rfl; omega
  subst this
  exact (show (33 : Int) ≤ ((97 : UInt8).toNat : Int) ∧ ((97 : UInt8).toNat : Int) ≤ 126 by decide)
theorem rA_keep : keepB rA = true := by
  unfold keepB
  rw [show nameB rA.s = true from @decide_eq_true _ (Classical.propDecidable _) rA_name, show topI rA.a 8 = 0 from topI_none 8, show topI rA.b 8 = 0 from topI_none 8]
  decide
theorem known_1 : wrN true 0 (([0, 1, 7] : List UInt8).take 1) = 1 ∧ nxM (([0, 1, 7] : List UInt8).take 1) = mZero ∧ nxOk (([0, 1, 7] : List UInt8).take 1) = false ∧ (false || nxBad (([0, 1, 7] : List UInt8).take 1)) = false ∧ nxL (([0, 1, 7] : List UInt8).take 1) = ([0, 1, 7] : List UInt8).take 1 := by
  obtain ⟨h1, h2⟩ := nx_short (l := ([0, 1, 7] : List UInt8).take 1) (by decide)
  refine ⟨rfl, by rw [nxM, h1]; rfl, h1, by rw [h2]; rfl, by rw [nxL, h1, h2]; rfl⟩
theorem known_2 : wrL true (([0, 1, 7] : List UInt8).take 1) (([0, 1, 7] : List UInt8).drop 1) = [0, 1, 7] ∧ wrN true 1 (([0, 1, 7] : List UInt8).drop 1) = 3 ∧ nxM ([0, 1, 7] : List UInt8) = m7 ∧ nxOk ([0, 1, 7] : List UInt8) = true ∧ (false || nxBad ([0, 1, 7] : List UInt8)) = false ∧ nxL ([0, 1, 7] : List UInt8) = [] := by
  obtain ⟨e1, e2⟩ := enc7
  obtain ⟨d1, d2⟩ := decOk_enc m7_ok e1
  rw [e2] at d1 d2
  have hF : nxF ([0, 1, 7] : List UInt8) = 1 := rfl
  have hT : ([0, 1, 7] : List UInt8).take (2 + nxF ([0, 1, 7] : List UInt8)) = [0, 1, 7] := rfl
  obtain ⟨h1, h2⟩ := nx_whole (l := ([0, 1, 7] : List UInt8)) (by decide) (by rw [hF]; decide) (by rw [hF]; decide)
  rw [hT, d1] at h1 h2
  exact ⟨rfl, rfl, by rw [nxM, h1, hT, d2]; rfl, h1, by rw [h2]; rfl, by rw [nxL, h1]; rfl⟩
theorem y_eqPN {a : Act} {w : World} {o : Oper} (ty tz : TypeId) (hu : Try.prog.underlying ty = some (.pointer (Try.prog.pointee ty))) (hgt : Try.prog.eqGuardType Try.prog.depth ty = false) (x : Operand) {p : Addr} (ho : o.op = .binOp .eql ty x (.const (.pointer none)) tz) (hx : a.eval x = .pointer (some p)) : (execOp a.eval o).run Try.prog w = .ok (.value (.bool false)) w :=
  y_eqV ty tz x _ ho hx (v := .pointer none) rfl (by simp [eqGuard, go_sem, hgt]) (by rw [run_eql_pointer_nil (h := hu)]; rfl)
set_option maxRecDepth 100000 in
set_option maxHeartbeats 8000000 in
theorem lknown_any  (w : World) :
    Calls Try.prog 15 #[] w fun e w' => e = .returned (.bool true) ∧ Below w.heap.size w w' := by
  obtain ⟨L, hL⟩ : ∃ L, L = ([0, 1, 7] : List UInt8) := ⟨_, rfl⟩
  obtain ⟨RB, hRB⟩ : ∃ l, recE rA = l := ⟨_, rfl⟩
  have hRl : RB.length ≤ 100000 := by rw [← hRB, show recE rA = recL rA from if_pos rA_keep]; decide
  have k1 := known_1
  have k2 := known_2
  have hL3 : L.length = 3 := by rw [hL]; rfl
  rw [← hL] at k1 k2
  obtain ⟨e1, e2⟩ := enc7
  rw [← hL] at e2
  obtain ⟨y1, y2⟩ := rd_rec rA_ok rA_keep
  rw [hRB] at y1 y2
  refine calls_fx (args := []) 100 Try.func15 rfl rfl rfl ?_
  intro fa F
  have M := Mx.start w
  refine wp_seq_k fun K21 hK21 => wp_region_lit ?_
  refine rm rfl F fun a22 F22 => ?_
  refine hK21 _ _ (wp_seq_k fun K23 hK23 => ?_)
  refine wp_region_lit ?_
  refine rn rfl rfl F22 rfl (.agg (msgA ⟨7, 0, 0, 0, "".toUTF8, 0, 0, [], [], [], [], []⟩ ⟨.slice none 0 0, .slice none 0 0, .slice none 0 0, .slice none 0 0, .slice none 0 0⟩)) (by unfold execOp; simp only [List.map_toArray, List.map_cons, List.map_nil, ]; kernel_rfl) fun a24 F24 => ?_
  refine wl_call (wanted_none rfl) rfl F24 rfl rfl (enters_of Try.func17 (by kernel_rfl) rfl) #[.agg (msgA ⟨7, 0, 0, 0, "".toUTF8, 0, 0, [], [], [], [], []⟩ ⟨.slice none 0 0, .slice none 0 0, .slice none 0 0, .slice none 0 0, .slice none 0 0⟩)] (args1 (F24.get rfl)) (enc_is m7 vZero m7_ok (by decide) true L e1 e2 w ⟨isb_nil _, isb_nil _, isb_nil _, isb_nil _, isb_nil _⟩) ?_
  rintro _ w25 a25 ⟨v25, rfl, hv25, b25⟩ F25
  have M25 := M.newO b25 0 hv25
  clear M b25 hv25
  obtain ⟨A25, c25, rfl⟩ := (M25.isO (k := 0) rfl).shape
  refine exS 5 [(0, .bool false), (1, .slice A25 (L).length c25), (2, .bool true)] [] dnil [] F25 (by kernel_rfl) fun a26 F26 => ?_
  simp only [List.drop_succ_cons, List.drop_zero]
  refine hK23 _ _ (wp_seq_k fun K27 hK27 => ?_)
  refine wp_region_lit ?_
  refine wl_call (wanted_none rfl) rfl F26 rfl rfl (enters_of Try.func26 (by kernel_rfl) rfl) #[] (args0) (new_any w25) ?_
  rintro _ w28 a28 ⟨g28, rfl, hg28, hc28, b28⟩ F28
  have M28 := (M25.newb b28 1 hg28 hc28).nilT 2
  clear M25 b28 hg28 hc28
  refine rm rfl F28 fun a29 F29 => ?_
  refine hK27 _ _ (wp_seq_k fun K30 hK30 => ?_)
  refine wp_seq_k fun K31 hK31 => wp_region_lit ?_
  refine rm rfl F29 fun a32 F32 => ?_
  refine rn rfl rfl F32 rfl (.bool false) (y_eqPN 46 _ Try.underlying46 (by kernel_rfl) _ rfl (F32.get rfl)) fun a33 F33 => ?_
  refine hK31 _ _ (wp_cond_false (F33.get (t := 19) rfl) ?_)
  refine wp_skip ?_
  refine hK30 _ _ (wp_seq_k fun K34 hK34 => ?_)
  refine wp_region_lit ?_
  refine rm rfl F33 fun a35 F35 => ?_
  refine rm rfl F35 fun a36 F36 => ?_
  refine rm rfl F36 fun a37 F37 => ?_
  refine rn rfl rfl F37 rfl (.int .i64 3) (y_len _ rfl (F37.get rfl) (M28.isO (k := 0) rfl) (by rw [hL3]; rfl)) fun a38 F38 => ?_
  refine rn rfl rfl F38 rfl (.int .i64 1) (y_min _ _ rfl rfl (F38.get rfl) (by decide)) fun a39 F39 => ?_
  refine wl_runE (wanted_none rfl) rfl F39 rfl (y_slTo _ _ rfl (F39.get rfl) (M28.isO (k := 0) rfl) (F39.get rfl) (j := 1) rfl (by omega)) ?_
  intro v40 a40 h40 F40
  have og41 := M28.owns (k := 0) rfl
  have M41 := M28.tame (k := 0) rfl
  clear M28
  have M40 := M41.partB 3 (k := 0) rfl h40.1 h40.2
  clear M41
  obtain ⟨A40, c40, rfl⟩ := (M40.isb (k := 3) rfl).shape
  refine wl_call (wanted_none rfl) rfl F40 rfl rfl (enters_of Try.func28 (by kernel_rfl) rfl) #[.pointer (some ⟨g28, 0, none⟩), .slice A40 ((L.take 1)).length c40] (args2 (F40.get rfl) (F40.get rfl)) (swrite_any M40 1 2 3 g28 [] (L.take 1) (.slice none 0 0) (.slice A40 ((L.take 1)).length c40) 0 false rfl rfl rfl (by decide) (by decide) (by simp only [List.length_nil, List.length_take]; omega) (by decide) true rfl) ?_
  rintro _ w42 a42 ⟨u42, N42, rfl⟩ F42
  rw [(show wrL true [] (L.take 1) = L.take 1 from rfl)] at N42
  rw [k1.1] at N42
  clear M40
  replace N42 : Mx _ _ _ ((1, blkR g28 94 #[u42, .int .i64 1, .bool false]) :: _) := N42
  refine hK34 _ _ (wp_seq_k fun K43 hK43 => ?_)
  refine wp_region_lit ?_
  refine rm rfl F42 fun a44 F44 => ?_
  refine wl_call (wanted_none rfl) rfl F44 rfl rfl (enters_of Try.func30 (by kernel_rfl) rfl) #[.pointer (some ⟨g28, 0, none⟩)] (args1 (F44.get rfl)) (next_is N42 1 2 g28 (L.take 1) u42 1 false rfl rfl (by decide) (by rw [List.length_take]; omega) 4 5 6 7 8 mZero false false (L.take 1) k1.2.1 k1.2.2.1 k1.2.2.2.1 k1.2.2.2.2) ?_
  rintro _ w45 a45 ⟨u45, V45, N45, rfl⟩ F45
  clear N42
  refine exS 3 [(0, .bool false), (1, .slice A25 (L).length c25), (2, .bool true), (3, .pointer (some ⟨g28, 0, none⟩)), (30, .agg (msgA mZero V45)), (31, .bool false)] [] dnil [] F45 (by kernel_rfl) fun a46 F46 => ?_
  simp only [List.drop_succ_cons, List.drop_zero]
  refine wl_alloc (wanted_none rfl) rfl F46 rfl N45 9 (t := 29) (c := msgA ⟨0, 0, 0, 0, "".toUTF8, 0, 0, [], [], [], [], []⟩ ⟨.slice none 0 0, .slice none 0 0, .slice none 0 0, .slice none 0 0, .slice none 0 0⟩) (by unfold execOp; kernel_rfl) ?_
  intro g47 a47 w47 F47 M47
  clear F46 N45
  refine wl_st (wanted_none rfl) rfl F47 M47 (k := 9) rfl _ _ _ rfl (F47.get rfl) (F47.get rfl) (msgA mZero V45) (msgA mZero V45) rfl (Nat.le_of_ble_eq_true rfl) (msgA_one (w := w47) ⟨(M47.isb (k := 4) rfl), (M47.isb (k := 5) rfl), (M47.isb (k := 6) rfl), (M47.isb (k := 7) rfl), (M47.isb (k := 8) rfl)⟩) (y_put0 rfl) (by kernel_rfl) ?_
  intro w48 M48
  clear M47
  refine rm rfl F47 fun a49 F49 => ?_
  refine hK43 _ _ (wp_seq_k fun K50 hK50 => ?_)
  refine wp_region_lit ?_
  refine rm rfl F49 fun a51 F51 => ?_
  refine rm rfl F51 fun a52 F52 => ?_
  refine rm rfl F52 fun a53 F53 => ?_
  refine rn rfl rfl F53 rfl (.int .i64 3) (y_len _ rfl (F53.get rfl) (M48.isb (k := 0) rfl) (by rw [hL3]; rfl)) fun a54 F54 => ?_
  refine rn rfl rfl F54 rfl (.int .i64 1) (y_min _ _ rfl rfl (F54.get rfl) (by decide)) fun a55 F55 => ?_
  refine wl_runE (wanted_none rfl) rfl F55 rfl (y_slFrom _ _ rfl (F55.get rfl) (M48.isb (k := 0) rfl) (F55.get rfl) (i := 1) rfl (by omega)) ?_
  intro v56 a56 h56 F56
  have M56 := M48.partB 10 (k := 0) rfl h56.1 h56.2
  clear M48
  obtain ⟨A56, c56, rfl⟩ := (M56.isb (k := 10) rfl).shape
  refine wl_call (wanted_none rfl) rfl F56 rfl rfl (enters_of Try.func28 (by kernel_rfl) rfl) #[.pointer (some ⟨g28, 0, none⟩), .slice A56 ((L.drop 1)).length c56] (args2 (F56.get rfl) (F56.get rfl)) (swrite_any M56 1 2 10 g28 (L.take 1) (L.drop 1) u45 (.slice A56 ((L.drop 1)).length c56) 1 false rfl rfl rfl (by decide) (by decide) (by simp only [List.length_take, List.length_drop]; omega) (by decide) true (by decide)) ?_
  rintro _ w57 a57 ⟨u57, N57, rfl⟩ F57
  rw [k2.1] at N57
  rw [k2.2.1] at N57
  clear M56
  replace N57 : Mx _ _ _ ((1, blkR g28 94 #[u57, .int .i64 3, .bool false]) :: _) := N57
  refine hK50 _ _ (wp_seq_k fun K58 hK58 => ?_)
  refine wp_region_lit ?_
  refine rm rfl F57 fun a59 F59 => ?_
  refine wl_call (wanted_none rfl) rfl F59 rfl rfl (enters_of Try.func30 (by kernel_rfl) rfl) #[.pointer (some ⟨g28, 0, none⟩)] (args1 (F59.get rfl)) (next_is N57 1 2 g28 L u57 3 false rfl rfl (by decide) (by omega) 11 12 13 14 15 m7 true false ([] : List UInt8) k2.2.2.1 k2.2.2.2.1 k2.2.2.2.2.1 k2.2.2.2.2.2) ?_
  rintro _ w60 a60 ⟨u60, V60, N60, rfl⟩ F60
  clear N57
  refine exA 3 [(39, .tuple #[.agg (msgA m7 V60), .bool true]), (42, .agg (msgA m7 V60)), (43, .bool true)] [] dnil [] F60 (by kernel_rfl) (by kernel_rfl) fun a61 F61 => ?_
  simp only [List.drop_succ_cons, List.drop_zero]
  refine wl_alloc (wanted_none rfl) rfl F61 rfl N60 16 (t := 29) (c := msgA ⟨0, 0, 0, 0, "".toUTF8, 0, 0, [], [], [], [], []⟩ ⟨.slice none 0 0, .slice none 0 0, .slice none 0 0, .slice none 0 0, .slice none 0 0⟩) (by unfold execOp; kernel_rfl) ?_
  intro g62 a62 w62 F62 M62
  clear F61 N60
  refine wl_st (wanted_none rfl) rfl F62 M62 (k := 16) rfl _ _ _ rfl (F62.get rfl) (F62.get rfl) (msgA m7 V60) (msgA m7 V60) rfl (Nat.le_of_ble_eq_true rfl) (msgA_one (w := w62) ⟨(M62.isb (k := 11) rfl), (M62.isb (k := 12) rfl), (M62.isb (k := 13) rfl), (M62.isb (k := 14) rfl), (M62.isb (k := 15) rfl)⟩) (y_put0 rfl) (by kernel_rfl) ?_
  intro w63 M63
  clear M62
  refine rm rfl F62 fun a64 F64 => ?_
  refine hK58 _ _ (wp_seq_k fun K65 hK65 => ?_)
  refine wp_region_lit ?_
  refine rn rfl rfl F64 rfl (.agg (recA ⟨1, ({ data := #[97] }), [], 0, 0, [], 0, 0, 0⟩ ⟨.slice none 0 0, .slice none 0 0⟩)) (by unfold execOp; simp only [List.map_toArray, List.map_cons, List.map_nil, ]; kernel_rfl) fun a66 F66 => ?_
  refine wl_call (wanted_none rfl) rfl F66 rfl rfl (enters_of Try.func35 (by kernel_rfl) rfl) #[.agg (recA ⟨1, ({ data := #[97] }), [], 0, 0, [], 0, 0, 0⟩ ⟨.slice none 0 0, .slice none 0 0⟩)] (args1 (F66.get rfl)) (rec_is rA rvZero rA_ok true RB rA_keep hRB w63 ⟨isb_nil _, isb_nil _⟩) ?_
  rintro _ w67 a67 ⟨v67, rfl, hv67, b67⟩ F67
  have M67 := M63.newO b67 17 hv67
  clear M63 b67 hv67
  obtain ⟨A67, c67, rfl⟩ := (M67.isO (k := 17) rfl).shape
  refine exA 5 [(44, .tuple #[.slice A67 (RB).length c67, .bool true]), (47, .slice A67 (RB).length c67), (48, .bool true), (8, .slice A67 (RB).length c67), (9, .bool true)] [] dnil [] F67 (by kernel_rfl) (by kernel_rfl) fun a68 F68 => ?_
  simp only [List.drop_succ_cons, List.drop_zero]
  refine hK65 _ _ (wp_seq_k fun K69 hK69 => ?_)
  refine wp_region_lit ?_
  refine rm rfl F68 fun a70 F70 => ?_
  refine wl_call (wanted_none rfl) rfl F70 rfl rfl (enters_of Try.func37 (by kernel_rfl) rfl) #[.slice A67 (RB).length c67] (args1 (F70.get rfl)) (rd_is RB (.slice A67 (RB).length c67) hRl true rA y1 y2 w67 (M67.isO (k := 17) rfl)) ?_
  rintro _ w71 a71 ⟨V71, rfl, is71, lo71, b71⟩ F71
  have M71 := M67.newRec b71 is71 lo71 18 19
  clear M67 b71 lo71
  refine exA 3 [(49, .tuple #[.agg (recA rA V71), .bool true]), (52, .agg (recA rA V71)), (53, .bool true)] [] dnil [] F71 (by kernel_rfl) (by kernel_rfl) fun a72 F72 => ?_
  simp only [List.drop_succ_cons, List.drop_zero]
  refine wl_alloc (wanted_none rfl) rfl F72 rfl M71 20 (t := 54) (c := recA ⟨0, "".toUTF8, [], 0, 0, [], 0, 0, 0⟩ ⟨.slice none 0 0, .slice none 0 0⟩) (by unfold execOp; kernel_rfl) ?_
  intro g73 a73 w73 F73 M73
  clear F72 M71
  refine wl_st (wanted_none rfl) rfl F73 M73 (k := 20) rfl _ _ _ rfl (F73.get rfl) (F73.get rfl) (recA rA V71) (recA rA V71) rfl (Nat.le_of_ble_eq_true rfl) (recA_one (w := w73) ⟨(M73.isb (k := 18) rfl), (M73.isb (k := 19) rfl)⟩) (y_put0 rfl) (by kernel_rfl) ?_
  intro w74 M74
  clear M73
  refine rm rfl F73 fun a75 F75 => ?_
  refine hK69 _ _ (wp_seq_k fun K76 hK76 => ?_)
  refine wp_region_lit ?_
  refine rm rfl F75 fun a77 F77 => ?_
  refine rm rfl F77 fun a78 F78 => ?_
  refine rm rfl F78 fun a79 F79 => ?_
  refine wl_run (w' := w74) (wanted_yes rfl rfl rfl (F79.get rfl)) rfl F79 rfl (.int .i64 3) (y_len _ rfl (F79.get rfl) (M74.isb (k := 0) rfl) (by rw [hL3]; rfl)) fun a80 F80 => ?_
  refine exA 4 [(58, .bool true), (59, .bool true), (60, .bool true), (61, .slice A25 (L).length c25)] [] dnil [] F80 (by kernel_rfl) (by kernel_rfl) fun a81 F81 => ?_
  simp only [List.drop_succ_cons, List.drop_zero]
  refine wl_run (w' := w74) (wanted_yes rfl rfl rfl (F81.get rfl)) rfl F81 rfl ((ixV (.slice A25 (L).length c25) 1)) (y_ixB _ _ rfl (F81.get rfl) (M74.isb (k := 0) rfl) rfl rfl (by omega)) fun a82 F82 => ?_
  refine wl_run (w' := w74) (wanted_yes rfl rfl rfl (F82.get rfl)) rfl F82 rfl (.int .u8 (((1 : UInt8).toNat : Nat) : Int)) (y_ldB _ rfl (F82.get rfl) (M74.isb (k := 0) rfl) (by rw [hL]; rfl) rfl) fun a83 F83 => ?_
  refine wl_run (w' := w74) (wanted_yes rfl rfl rfl (F83.get rfl)) rfl F83 rfl (.bool true) (y_eqI _ _ _ _ rfl (F83.get rfl) rfl Try.underlying5 (y_beqT (by decide))) fun a84 F84 => ?_
  refine exA 3 [(65, .bool true), (66, .bool true), (67, .slice A25 (L).length c25)] [] dnil [] F84 (by kernel_rfl) (by kernel_rfl) fun a85 F85 => ?_
  simp only [List.drop_succ_cons, List.drop_zero]
  refine wl_run (w' := w74) (wanted_yes rfl rfl rfl (F85.get rfl)) rfl F85 rfl ((ixV (.slice A25 (L).length c25) 2)) (y_ixB _ _ rfl (F85.get rfl) (M74.isb (k := 0) rfl) rfl rfl (by omega)) fun a86 F86 => ?_
  refine wl_run (w' := w74) (wanted_yes rfl rfl rfl (F86.get rfl)) rfl F86 rfl (.int .u8 (((7 : UInt8).toNat : Nat) : Int)) (y_ldB _ rfl (F86.get rfl) (M74.isb (k := 0) rfl) (by rw [hL]; rfl) rfl) fun a87 F87 => ?_
  refine wl_run (w' := w74) (wanted_yes rfl rfl rfl (F87.get rfl)) rfl F87 rfl (.bool true) (y_eqI _ _ _ _ rfl (F87.get rfl) rfl Try.underlying5 (y_beqT (by decide))) fun a88 F88 => ?_
  refine exS 11 [(0, .bool false), (3, .pointer (some ⟨g28, 0, none⟩)), (9, .bool true), (10, .pointer (some ⟨g73, 0, none⟩)), (11, .bool true), (79, .bool true), (81, .int .i64 m7.k)] [0] (dcons (M74.blk (k := 16) rfl) dnil) [g62] F88 (by kernel_rfl) fun a89 F89 => ?_
  simp only [List.drop_succ_cons, List.drop_zero]
  refine wl_run (w' := w74) (wanted_yes rfl rfl rfl (F89.get rfl)) rfl F89 rfl (.bool true) (y_eqI _ _ _ _ rfl (F89.get rfl) rfl Try.underlying3 (y_beqT (show m7.k = 7 from rfl))) fun a90 F90 => ?_
  refine exA 3 [(83, .bool true), (84, .bool true), (85, .pointer (some ⟨g28, 0, none⟩))] [] dnil [] F90 (by kernel_rfl) (by kernel_rfl) fun a91 F91 => ?_
  simp only [List.drop_succ_cons, List.drop_zero]
  refine wl_call (wanted_yes rfl rfl rfl (F91.get rfl)) rfl F91 rfl rfl (enters_of Try.func32 (by kernel_rfl) rfl) #[.pointer (some ⟨g28, 0, none⟩)] (args1 (F91.get rfl)) (call_ex ((bad_any g28 u60 3 false w74 (M74.blk (k := 1) rfl)))) ?_
  rintro _ w92 a92 ⟨rfl, b92⟩ F92
  have M92 := M74.step b92
  refine exS 11 [(0, .bool false), (95, .bool true), (97, .string rA.s)] [0] (dcons (M92.blk (k := 20) rfl) dnil) [g73] F92 (by kernel_rfl) fun a93 F93 => ?_
  simp only [List.drop_succ_cons, List.drop_zero]
  refine wl_run (w' := w92) (wanted_yes rfl rfl rfl (F93.get rfl)) rfl F93 rfl (.bool true) (y_eqS _ _ _ rfl (F93.get rfl) rfl (decide_eq_true rfl)) fun a94 F94 => ?_
  refine exS 2 [(0, .bool true)] [] dnil [] F94 (by kernel_rfl) fun a95 F95 => ?_
  simp only [List.drop_succ_cons, List.drop_zero]
  refine hK76 _ _ (wp_ret ?_)
  try simp only [Exit.then, Exit.inBlock, Exit.jump]
  exact bodyPost_ret (res1 rfl (F95.get (t := 0) rfl)) F95.defers ⟨rfl, M92.below⟩
end Go.Proofs.Ytlbkogdmojlpmaa
namespace Go.Proofs.Ytlbkogdmojlpmaa
set_option linter.unusedVariables false
set_option maxRecDepth 20000
set_option linter.unusedSimpArgs false
open Go.ChangeShapes Go.WideShapes Go.ChangeAt Go.RowKit
theorem Rd.isB' {w : World} {A : Option Addr} {l : List UInt8} {n c : Nat} (h : Rd w A l) (hn : l.length = n) (hc : n ≤ c) (hm : c ≤ maxLen) (hz : A = none → c = 0) : IsB w l (.slice A n c) := by
  subst hn
  exact ⟨A, c, rfl, hc, hm, hz, h⟩
theorem top_small {a : Nat} (h : a < 4294967296) : topI a 8 ≤ 32 := by
  by_cases h0 : a = 0
  · subst h0; rw [topI_none]; decide
  · have ha : a < 4294967296 ^ 8 := Nat.lt_trans h (by decide)
    have h1 := Nat.log2_self_le h0
    have h2 : a < 2 ^ (Nat.log2 a + 1) := Nat.lt_log2_self
    have h3 : a / 2 ^ (Nat.log2 a) = 1 := by
      apply Nat.div_eq_of_lt_le
      · omega
      · rw [Nat.pow_succ] at h2; omega
    rw [top_one ha h3]
    have h4 : Nat.log2 a < 32 := by
      refine Classical.byContradiction fun hn => ?_
      have : 2 ^ 32 ≤ 2 ^ Nat.log2 a := Nat.pow_le_pow_right (by omega) (by omega)
      omega
    omega
theorem nmB_ne (s : ByteArray) : sBy (nmB s) ≠ [] := by
  by_cases h : (sBy s).length = 0
  · rw [nmB_nil h]; simp [sBy]
  · rw [nmB_some h]
    simp only [sBy, List.toList_toArray]
    intro e
    have := congrArg List.length e
    rw [List.length_take] at this
    have h2 := nmL_len (sBy s)
    unfold sBy at h h2
    simp only [List.length_nil] at this
    omega
theorem nmB_size (s : ByteArray) : 0 < (nmB s).size ∧ (nmB s).size ≤ 16 := by
  have h := nmB_ne s
  have e : (sBy (nmB s)).length = (nmB s).size := sBy_len _
  refine ⟨by have := List.length_pos_iff.2 h; omega, ?_⟩
  by_cases h0 : (sBy s).length = 0
  · rw [nmB_nil h0]; decide
  · rw [← e, nmB_some h0]
    simp only [sBy, List.toList_toArray, List.length_take]
    omega
theorem name_of {B : ByteArray} (h1 : 0 < B.size) (h2 : B.size ≤ 16) (h : ∀ x ∈ sBy B, 33 ≤ x.toNat ∧ x.toNat ≤ 126) : nameB B = true := by
  refine @decide_eq_true _ (Classical.propDecidable _) ⟨h1, h2, fun i hi => ?_⟩
  have hg : (sBy B)[i]? = some (B[i]'hi) := by
    unfold sBy
    rw [Array.getElem?_toList]
    exact Array.getElem?_eq_getElem hi
  have := h _ (List.mem_of_getElem? hg)
  omega
theorem nmB_ok (s : ByteArray) : nameB (nmB s) = true := by
  refine name_of (nmB_size s).1 (nmB_size s).2 fun x hx => ?_
  by_cases h0 : (sBy s).length = 0
  · rw [nmB_nil h0] at hx
    have : x = 117 := by simpa [sBy] using hx
    subst this; decide
  · rw [nmB_some h0] at hx
    simp only [sBy, List.toList_toArray] at hx
    obtain ⟨y, -, hy⟩ := List.mem_map.1 (List.mem_of_mem_take hx)
    rw [← hy]
    exact nmC_in y
theorem mkR_ok (n : Int) (s : ByteArray) (b : List UInt8) : RecOk (mkR n s b) := by
  have h2 := Int.emod_two_eq n
  have hs := nmB_size s
  have h6 := Int.emod_nonneg (n.tdiv 11) (show (6 : Int) ≠ 0 by decide)
  have h6' := Int.emod_lt_of_pos (n.tdiv 11) (show (0 : Int) < 6 by decide)
  have h7 := Int.emod_nonneg (n.tdiv 13) (show (1000 : Int) ≠ 0 by decide)
  have h7' := Int.emod_lt_of_pos (n.tdiv 13) (show (0 : Int) < 1000 by decide)
  have h8 := Int.emod_nonneg (n.tdiv 17) (show (1099511627776 : Int) ≠ 0 by decide)
  have h8' := Int.emod_lt_of_pos (n.tdiv 17) (show (0 : Int) < 1099511627776 by decide)
  have h9 := Int.emod_nonneg (n.tdiv 2) (show (4294967296 : Int) ≠ 0 by decide)
  have h9' := Int.emod_lt_of_pos (n.tdiv 2) (show (0 : Int) < 4294967296 by decide)
  have hA := Int.emod_nonneg (n.tdiv 7) (show (4294967296 : Int) ≠ 0 by decide)
  have hA' := Int.emod_lt_of_pos (n.tdiv 7) (show (0 : Int) < 4294967296 by decide)
  unfold mkR
  exact ⟨(by dsimp only; omega), (by dsimp only; omega), (by dsimp only; omega), (by dsimp only; omega), (by dsimp only; omega), Nat.lt_trans (m := 4294967296) (by dsimp only; omega) (by decide), Nat.lt_trans (m := 4294967296) (by dsimp only; omega) (by decide)⟩
theorem mkR_keep (n : Int) (s : ByteArray) (b : List UInt8) : keepB (mkR n s b) = true := by
  have h2 := Int.emod_two_eq n
  have h6 := Int.emod_nonneg (n.tdiv 11) (show (6 : Int) ≠ 0 by decide)
  have h6' := Int.emod_lt_of_pos (n.tdiv 11) (show (0 : Int) < 6 by decide)
  have h7 := Int.emod_nonneg (n.tdiv 13) (show (1000 : Int) ≠ 0 by decide)
  have h8 := Int.emod_nonneg (n.tdiv 17) (show (1099511627776 : Int) ≠ 0 by decide)
  have h9 := Int.emod_nonneg (n.tdiv 2) (show (4294967296 : Int) ≠ 0 by decide)
  have h9' := Int.emod_lt_of_pos (n.tdiv 2) (show (0 : Int) < 4294967296 by decide)
  have hA := Int.emod_nonneg (n.tdiv 7) (show (4294967296 : Int) ≠ 0 by decide)
  have hA' := Int.emod_lt_of_pos (n.tdiv 7) (show (0 : Int) < 4294967296 by decide)
  have t1 := top_small (a := ((n.tdiv 2) % 4294967296).toNat) (by omega)
  have t2 := top_small (a := ((n.tdiv 7) % 4294967296).toNat) (by omega)
  have q2 := Int.emod_nonneg n (show ((min b.length 16 + 1 : Nat) : Int) ≠ 0 by omega)
  have q2' := Int.emod_lt_of_pos n (show (0 : Int) < ((min b.length 16 + 1 : Nat) : Int) by omega)
  have q5 := Int.emod_nonneg (n.tdiv 3) (show ((min b.length 48 + 1 : Nat) : Int) ≠ 0 by omega)
  have q5' := Int.emod_lt_of_pos (n.tdiv 3) (show (0 : Int) < ((min b.length 48 + 1 : Nat) : Int) by omega)
  unfold keepB mkR
  simp only [Bool.and_eq_true, decide_eq_true_eq]
  refine ⟨⟨⟨⟨⟨⟨⟨⟨⟨?_, nmB_ok s⟩, ?_⟩, ?_⟩, t1⟩, t2⟩, by omega⟩, by omega⟩, by omega⟩, by omega⟩
  · exact decide_eq_true (by omega)
  · rw [List.length_take]; omega
  · rw [List.length_take]; omega
end Go.Proofs.Ytlbkogdmojlpmaa
