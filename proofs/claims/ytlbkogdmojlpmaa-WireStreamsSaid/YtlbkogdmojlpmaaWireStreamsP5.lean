/- What WireStreams stands on, part 5. -/
import Derived.Deep.CutRange
import Derived.Laws.CopyRow
import Derived.Laws.AppendOwn
import Derived.Lib.ItoaNum
import Derived.Test.YtlbkogdmojlpmaaWireStreamsP1
import Derived.Test.YtlbkogdmojlpmaaWireStreamsP2
import Derived.Test.YtlbkogdmojlpmaaWireStreamsP3
import Derived.Test.YtlbkogdmojlpmaaWireStreamsP4
set_option maxRecDepth 100000
set_option maxHeartbeats 8000000
set_option linter.unusedVariables false
set_option linter.unusedSimpArgs false
namespace Go.Proofs.Ytlbkogdmojlpmaa
open Go.ChangeShapes Go.WideShapes Go.ChangeAt Go.RowKit
theorem there_ex (m : MsgN) (V : MsgV) (w : World) : Calls Try.prog 44 #[.agg (msgA m V)] w fun e w' => ∃ v, e = .returned v ∧ ∃ g, v = .func (.func 75) #[] #[.pointer (some ⟨g, 0, none⟩)] ∧ w.heap.size ≤ g ∧ w'.heap[g]? = some (.cells (msgA m V) 29 (0, 0)) ∧ Below w.heap.size w w' :=
  (there_any m V w).mono fun e w' ⟨g, h1, h2, h3, h4⟩ => ⟨_, h1, g, rfl, h2, h3, h4⟩
theorem Mx.content {m : MsgN} {V : MsgV} {G : Option Nat} {w0 w w' : World} {R : List (Nat × Res)} (M : Mx G w0 w R) (hb : Below w.heap.size w w') (i : Nat) {l : List UInt8} {v : Value} (h : IsB w' l v) (hloc : ∀ g, bfp v g → w.heap.size ≤ g ∨ z6a V g)
    {k5 k6 k7 k8 k9 : Nat} (h5 : look R k5 = some (bytR m.l5 V.v5)) (h6 : look R k6 = some (bytR m.l6 V.v6)) (h7 : look R k7 = some (bytR m.l7 V.v7)) (h8 : look R k8 = some (bytR m.l8 V.v8)) (h9 : look R k9 = some (bytR m.l9 V.v9)) : Mx G w0 w' ((i, bytR l v) :: R) := by
  refine (M.step hb).cons i _ h z0a (fun g hg => h.lt hg) (fun e => by cases e) fun k s e _ hh g hg hs => ?_
  rcases hh with hh | hh
  · cases hh
  · have hk : ∀ (q : Nat) (x : Res), look R q = some x → x.wr = false → x.fp g → False := fun q x hq hx hf => M.dis k q s x e hq (fun e2 => by subst e2; rw [e] at hq; cases hq; rw [hh] at hx; cases hx) hh g hs hf
    rcases hloc g hg with h1 | h1 | h1 | h1 | h1 | h1
    · have := M.lt k s e g hs; omega
    · exact hk _ _ h5 rfl h1
    · exact hk _ _ h6 rfl h1
    · exact hk _ _ h7 rfl h1
    · exact hk _ _ h8 rfl h1
    · exact hk _ _ h9 rfl h1
theorem fields_slc (L : List Nat) (hL : ∀ x ∈ L, x < 64) (hm : L.length ≤ 1000) {n : Nat} (hn : L.length = n) {v : Value} {w : World} (h : ∃ g, v = .slice (some ⟨g, 0, none⟩) n n ∧ w.heap[g]? = some (.cells (L.map ivN).toArray 3 (0, 0))) :
    Calls Try.prog 49 #[v] w fun e w' => e = .returned (.int .u64 (orF L)) ∧ Below w.heap.size w w' := by
  obtain ⟨g, rfl, hg⟩ := h
  subst hn
  exact zbb g L hL hm w hg
def hasN (m : MsgN) : Nat → Int
  | 0 => 0
  | k + 1 => if zu m k = [] then hasN m k else bits .or .u64 (hasN m k) (orF [k])
theorem hasN_one (m : MsgN) : hasN m 1 = 0 := rfl
theorem hasN_skip {m : MsgN} {k : Nat} (h : zu m k = []) : hasN m (k + 1) = hasN m k := if_pos h
theorem hasN_put {m : MsgN} {k : Nat} (h : zu m k ≠ []) : hasN m (k + 1) = bits .or .u64 (hasN m k) (orF [k]) := if_neg h
def hasB (m : MsgN) : Int := if m.k = 4 then bits .or .u64 (hasN m 12) (orF [7]) else hasN m 12
def wantN (k p : Int) : Int := match wantL k p with
  | some L => orF L
  | none => 0
def wantOk (k p : Int) : Bool := (wantL k p).isSome
theorem wanted2 (k p : Int) (w : World) : Calls Try.prog 50 #[.int .i64 k, .int .i64 p] w fun e w' => e = .returned (.tuple #[.int .u64 (wantN k p), .bool (wantOk k p)]) ∧ Below w.heap.size w w' := by
  refine (wanted_any k p w).mono fun e w' ⟨h1, h2⟩ => ⟨?_, h2⟩
  rw [h1]
  unfold wantV wantN wantOk
  cases wantL k p <;> rfl
noncomputable def zab (m : MsgN) : Bool := wantOk m.k m.p && decide (hasB m = wantN m.k m.p) && zca m
theorem right_any (m : MsgN) (V : MsgV) (ho : MsgOk m) (hs : m.s.size ≤ 1000) (w : World) (hm : MsgIs w m V) :
  Calls Try.prog 19 #[.agg (msgA m V)] w fun e w' => e = .returned (.bool (zab m)) ∧ Below w.heap.size w w' := by
 obtain ⟨bW, hW⟩ : ∃ b, wantOk m.k m.p = b := ⟨_, rfl⟩
 obtain ⟨bF, hF⟩ : ∃ b, zca m = b := ⟨_, rfl⟩
 refine calls_fxM (args := [.agg (msgA m V)]) 41 Try.func19 rfl rfl rfl ?_
 intro fa F
 have M := Mx.start w
 replace M := M.argB 0 hm.h5 (fun g e => by cases e)
 replace M := M.argB 1 hm.h6 (fun g e => by cases e)
 replace M := M.argB 2 hm.h7 (fun g e => by cases e)
 replace M := M.argB 3 hm.h8 (fun g e => by cases e)
 replace M := M.argB 4 hm.h9 (fun g e => by cases e)
 refine zT fun _ hK1 => ?_
 refine zf (za rfl) rfl F rfl M 5 (t := 29) (c := msgA m V) (by unfold execOp; simp only [(F.get (t := 0) rfl)]; kernel_rfl) ?_
 intro g2 a2 w2 F2 M2
 clear F M
 refine rm rfl F2 fun _ F3 => ?_
 refine hK1 _ _ (zS fun _ hK4 => ?_)
 refine zR ?_
 refine zf (za rfl) rfl F3 rfl M2 6 (t := 78) (c := #[.int .u64 0]) (by unfold execOp; kernel_rfl) ?_
 intro g5 a5 w5 F5 M5
 clear F3 M2
 refine hK4 _ _ (zS fun _ hK6 => ?_)
 refine zT fun _ hK7 => ?_
 refine rn rfl rfl F5 rfl _ (zja _ _ rfl (F5.get rfl) (M5.blk (k := 5) rfl) (msgA m V) (zma rfl) Try.underlying29 rfl (by kernel_rfl)) fun _ F8 => ?_
 refine zd (za rfl) rfl F8 rfl rfl (zE Try.func44 rfl) #[.agg (msgA m V)] (zp (F8.get rfl)) (there_ex m V w5) ?_
 rintro _ w9 a9 ⟨g9, rfl, hg9, hc9, b9⟩ F9
 have M9 := M5.newb b9 7 hg9 hc9
 clear M5 hg9 hc9 b9
 refine hK7 _ _ (wp_block ?_)
 have hwle10 := M9.le
 refine range_fx2 F9 (gf := 75) (lb := #[.pointer (some ⟨g9, 0, none⟩)]) (F9.get (t := 8) rfl) (zE Try.func75 rfl) rfl rfl (α := Nat × Value) (fun x => .int .i64 (x.1 : Int)) (fun x => x.2)
  (fun x W => (1 ≤ x.1 ∧ x.1 ≤ 11 ∧ zu m x.1 ≠ []) ∧ Mx none w W [(8, bytR (zu m x.1) x.2), (0, bytR m.l5 V.v5), (1, bytR m.l6 V.v6), (2, bytR m.l7 V.v7), (3, bytR m.l8 V.v8), (4, bytR m.l9 V.v9), (5, blkR g2 29 (msgA m V)), (6, blkR g5 78 (#[.int .u64 (hasN m x.1)])), (7, blkR g9 29 (msgA m V))]) (fun x W => Mx none w W [(0, bytR m.l5 V.v5), (1, bytR m.l6 V.v6), (2, bytR m.l7 V.v7), (3, bytR m.l8 V.v8), (4, bytR m.l9 V.v9), (5, blkR g2 29 (msgA m V)), (6, blkR g5 78 (#[.int .u64 (hasN m (x.1 + 1))])), (7, blkR g9 29 (msgA m V))]) (fun W => Mx none w W [(0, bytR m.l5 V.v5), (1, bytR m.l6 V.v6), (2, bytR m.l7 V.v7), (3, bytR m.l8 V.v8), (4, bytR m.l9 V.v9), (5, blkR g2 29 (msgA m V)), (6, blkR g5 78 (#[.int .u64 (hasN m 12)])), (7, blkR g9 29 (msgA m V))]) ?_ ?_ ?_
 ·intro l D o1 o2 W1 hD hL bW hrec hY
  have M1 : Mx none w W1 [(0, bytR m.l5 V.v5), (1, bytR m.l6 V.v6), (2, bytR m.l7 V.v7), (3, bytR m.l8 V.v8), (4, bytR m.l9 V.v9), (5, blkR g2 29 (msgA m V)), (6, blkR g5 78 (#[.int .u64 (hasN m 1)])), (7, blkR g9 29 (msgA m V))] := (M9.step bW).sub ⟨rfl, rfl, rfl, rfl, rfl, rfl, (by rw [hasN_one]; rfl), rfl, trivial⟩
  refine there1_any m V ho (fun k W => Mx none w W [(0, bytR m.l5 V.v5), (1, bytR m.l6 V.v6), (2, bytR m.l7 V.v7), (3, bytR m.l8 V.v8), (4, bytR m.l9 V.v9), (5, blkR g2 29 (msgA m V)), (6, blkR g5 78 (#[.int .u64 (hasN m k)])), (7, blkR g9 29 (msgA m V))]) g9 l D o1 o2 ?_ ?_ ?_ W1 M1 hrec
  ·rintro k W hM
   exact ⟨⟨hM.isb (k := 0) rfl, hM.isb (k := 1) rfl, hM.isb (k := 2) rfl, hM.isb (k := 3) rfl, hM.isb (k := 4) rfl⟩, hM.blk (k := 7) rfl⟩
  ·rintro k W W' h1 h2 hn hM hb
   exact (hM.step hb).sub ⟨rfl, rfl, rfl, rfl, rfl, rfl, (by rw [hasN_skip hn]; rfl), rfl, trivial⟩
  rintro k v W W' h1 h2 hn hM hb hv hloc hre
  exact hY (k, v) W' ⟨⟨h1, h2, hn⟩, hM.content hb 8 hv hloc (k5 := 0) (k6 := 1) (k7 := 2) (k8 := 3) (k9 := 4) rfl rfl rfl rfl rfl⟩ hre
 ·rintro l ⟨k, v⟩ W ra F10 hlo hlt ⟨⟨h1, h2, hn⟩, M10⟩
  replace F10 : Fx 41 ra _ := F10
  dsimp only at h1 h2 hn M10 F10 ⊢
  clear F9 M9
  replace M10 : Mx none w W [(8, bytR (zu m k) v), (0, bytR m.l5 V.v5), (1, bytR m.l6 V.v6), (2, bytR m.l7 V.v7), (3, bytR m.l8 V.v8), (4, bytR m.l9 V.v9), (5, blkR g2 29 (msgA m V)), (6, blkR g5 78 (#[.int .u64 (hasN m k)])), (7, blkR g9 29 (msgA m V))] := M10
  refine wpIn_lit' (fun ⟨_, _, h⟩ => h) rfl ?_
  refine rm rfl F10 fun _ F11 => ?_
  refine ⟨KeepsOthers.refl _, fun o hnc hoc => ?_⟩
  have CM : CellsA _ _ := (show CellsA W [(8, bytR (zu m k) v), (0, bytR m.l5 V.v5), (1, bytR m.l6 V.v6), (2, bytR m.l7 V.v7), (3, bytR m.l8 V.v8), (4, bytR m.l9 V.v9), (5, blkR g2 29 (msgA m V)), (6, blkR g5 78 (#[.int .u64 (hasN m k)])), (7, blkR g9 29 (msgA m V))] from ⟨z5 (M10.at_ 8 _ rfl), z5 (M10.at_ 0 _ rfl), z5 (M10.at_ 1 _ rfl), z5 (M10.at_ 2 _ rfl), z5 (M10.at_ 3 _ rfl), z5 (M10.at_ 4 _ rfl), zha (M10.at_ 5 _ rfl), zha (M10.at_ 6 _ rfl), zha (M10.at_ 7 _ rfl), trivial⟩)
  have M12 := M10.putObj CM (Nat.le_of_lt (Nat.lt_of_le_of_lt hwle10 hlo)) hnc o
  clear CM M10
  have hLo : (W.putObj l o).heap[l]? = some o := World.putObj_heap_same hlt
  obtain ⟨Wp, hWp⟩ : ∃ x, x = W.putObj l o := ⟨_, rfl⟩
  rw [← hWp] at M12 hLo ⊢
  have CM : CellsA _ _ := (show CellsA Wp [(8, bytR (zu m k) v), (0, bytR m.l5 V.v5), (1, bytR m.l6 V.v6), (2, bytR m.l7 V.v7), (3, bytR m.l8 V.v8), (4, bytR m.l9 V.v9), (5, blkR g2 29 (msgA m V)), (6, blkR g5 78 (#[.int .u64 (hasN m k)])), (7, blkR g9 29 (msgA m V))] from ⟨z5 (M12.at_ 8 _ rfl), z5 (M12.at_ 0 _ rfl), z5 (M12.at_ 1 _ rfl), z5 (M12.at_ 2 _ rfl), z5 (M12.at_ 3 _ rfl), z5 (M12.at_ 4 _ rfl), zha (M12.at_ 5 _ rfl), zha (M12.at_ 6 _ rfl), zha (M12.at_ 7 _ rfl), trivial⟩)
  replace M12 := M12.oth CM 9
  clear CM
  refine wpIn_block ?_
  refine region_fxM_in (fun ⟨_, _, h⟩ => h) rfl F11 [fun vE => vE = .int .u64 (hasN m k), fun vE => vE = .int .i64 (k : Int), fun _ => True, fun vE => vE = .int .u64 (orF [k]), fun vE => vE = .int .u64 (bits .or .u64 (hasN m k) (orF [k]))] (JM none w fun SV pV => [(9, othR Wp), (8, bytR (zu m k) v), (0, bytR m.l5 V.v5), (1, bytR m.l6 V.v6), (2, bytR m.l7 V.v7), (3, bytR m.l8 V.v8), (4, bytR m.l9 V.v9), (5, blkR g2 29 (msgA m V)), (6, blkR g5 78 (#[.int .u64 (hasN m k)])), (7, blkR g9 29 (msgA m V)), (11, condR (SV 2) (slcR 3 1 #[.int .i64 (k : Int)] (pV 2)))]) 5 rfl (by kernel_rfl) rfl ⟨trivial, trivial, trivial, trivial, trivial, trivial⟩ (fun p => ((M12.step (zib _)).triv 11).sub ⟨rfl, rfl, rfl, rfl, rfl, rfl, rfl, rfl, rfl, rfl, rfl, trivial⟩) ⟨?_, ?_, ?_, ?_, ?_, trivial⟩ ?_
  ·intro ua uw SV pV M0 hk hn hd
   have M : Mx none w uw _ := M0
   clear M0
   have e3 : ua.eval (.tmp 3) = .pointer (some ⟨g5, 0, none⟩) := (show ua.eval (.tmp 3) = _ from hd 3 (by decide)).trans (F11.get (t := 3) rfl)
   exact zl (za rfl) (.int .u64 (hasN m k)) (y_ld1 _ _ rfl e3 (M.blk (k := 6) rfl) rfl Try.underlying78 rfl) rfl (M.sub ⟨rfl, rfl, rfl, rfl, rfl, rfl, rfl, rfl, rfl, rfl, rfl, trivial⟩)
  ·intro ua uw SV pV M0 hk hn hd
   have M : Mx none w uw _ := M0
   clear M0
   have e4 : ua.eval (.tmp 4) = .int .i64 (k : Int) := (show ua.eval (.tmp 4) = _ from hd 4 (by decide)).trans (F11.get (t := 4) rfl)
   exact zl (za rfl) (.int .i64 (k : Int)) (zua _ (.inl rfl) e4) rfl (M.sub ⟨rfl, rfl, rfl, rfl, rfl, rfl, rfl, rfl, rfl, rfl, rfl, trivial⟩)
  ·intro ua uw SV pV M0 hk hn hd
   have M : Mx none w uw _ := M0
   clear M0
   obtain ⟨s1, f12, q12⟩ := (show SV 1 = true ∧ ua.eval (.tmp 12) = pV 1 ∧ stE _ 1 (pV 1) from hd 12 (by decide))
   have e12 : ua.eval (.tmp 12) = .int .i64 (k : Int) := f12.trans q12
   exact zl (za rfl) _ (zfb rfl #[.int .i64 (k : Int)] rfl (by simp) (by simp) (by simp only [List.map_toArray, List.map_cons, List.map_nil, e12]; kernel_rfl)) trivial ((M.allocS 11 3 1 #[.int .i64 (k : Int)]).sub ⟨rfl, rfl, rfl, rfl, rfl, rfl, rfl, rfl, rfl, rfl, rfl, trivial⟩)
  ·intro ua uw SV pV M0 hk hn hd
   have M : Mx none w uw _ := M0
   clear M0
   obtain ⟨s2, f13, q13⟩ := (show SV 2 = true ∧ ua.eval (.tmp 13) = pV 2 ∧ stE _ 2 (pV 2) from hd 13 (by decide))
   have e13 : ua.eval (.tmp 13) = (pV 2) := f13
   exact hopM_call (za rfl) rfl #[(pV 2)] (zp e13) (zE Try.func49 rfl) ((fields_slc [k] (fun x hx => by simp at hx; omega) (by simp) rfl (M.at_ 11 _ (condR_look s2 rfl))).mono fun e w2 h => ⟨_, h.1, rfl, (M.step h.2).sub ⟨rfl, rfl, rfl, rfl, rfl, rfl, rfl, rfl, rfl, rfl, rfl, trivial⟩⟩)
  ·intro ua uw SV pV M0 hk hn hd
   have M : Mx none w uw _ := M0
   clear M0
   obtain ⟨s0, f11, q11⟩ := (show SV 0 = true ∧ ua.eval (.tmp 11) = pV 0 ∧ stE _ 0 (pV 0) from hd 11 (by decide))
   have e11 : ua.eval (.tmp 11) = .int .u64 (hasN m k) := f11.trans q11
   obtain ⟨s3, f14, q14⟩ := (show SV 3 = true ∧ ua.eval (.tmp 14) = pV 3 ∧ stE _ 3 (pV 3) from hd 14 (by decide))
   have e14 : ua.eval (.tmp 14) = .int .u64 (orF [k]) := f14.trans q14
   exact zl (za rfl) (.int .u64 (bits .or .u64 (hasN m k) (orF [k]))) (y_orU _ _ _ _ rfl e11 e14 rfl) rfl (M.sub ⟨rfl, rfl, rfl, rfl, rfl, rfl, rfl, rfl, rfl, rfl, rfl, trivial⟩)
  intro p13 a13 w13 M13 G13 y13
  obtain ⟨-, -, -, -, q4, -⟩ := y13
  have r4 : p13 4 = .int .u64 (bits .or .u64 (hasN m k) (orF [k])) := q4
  replace M13 : Mx _ _ w13 [(9, othR Wp), (8, bytR (zu m k) v), (0, bytR m.l5 V.v5), (1, bytR m.l6 V.v6), (2, bytR m.l7 V.v7), (3, bytR m.l8 V.v8), (4, bytR m.l9 V.v9), (5, blkR g2 29 (msgA m V)), (6, blkR g5 78 (#[.int .u64 (hasN m k)])), (7, blkR g9 29 (msgA m V)), (11, condR true (slcR 3 1 #[.int .i64 (k : Int)] (p13 2)))] := M13
  simp only [List.take, layV, Nat.zero_add, Nat.reduceAdd, r4] at G13
  refine zn (za rfl) rfl G13 M13 (k := 6) rfl _ _ _ rfl (G13.get rfl) (G13.get rfl) (#[.int .u64 (bits .or .u64 (hasN m k) (orF [k]))]) _ rfl (zL rfl) (zeb _ _) (zt rfl) (by kernel_rfl) ?_
  intro w14 M14
  clear M13
  have KO := M14.keeps (i := 9) rfl
  have Me : Mx none w _ [(0, bytR m.l5 V.v5), (1, bytR m.l6 V.v6), (2, bytR m.l7 V.v7), (3, bytR m.l8 V.v8), (4, bytR m.l9 V.v9), (5, blkR g2 29 (msgA m V)), (6, blkR g5 78 (#[.int .u64 (hasN m (k + 1))])), (7, blkR g9 29 (msgA m V))] := M14.sub ⟨rfl, rfl, rfl, rfl, rfl, rfl, (by rw [hasN_put hn]; rfl), rfl, trivial⟩
  have CM : CellsA _ _ := (show CellsA w14 [(0, bytR m.l5 V.v5), (1, bytR m.l6 V.v6), (2, bytR m.l7 V.v7), (3, bytR m.l8 V.v8), (4, bytR m.l9 V.v9), (5, blkR g2 29 (msgA m V)), (6, blkR g5 78 (#[.int .u64 (hasN m (k + 1))])), (7, blkR g9 29 (msgA m V))] from ⟨z5 (Me.at_ 0 _ rfl), z5 (Me.at_ 1 _ rfl), z5 (Me.at_ 2 _ rfl), z5 (Me.at_ 3 _ rfl), z5 (Me.at_ 4 _ rfl), zha (Me.at_ 5 _ rfl), zha (Me.at_ 6 _ rfl), zha (Me.at_ 7 _ rfl), trivial⟩)
  exact ⟨KO, fun o2 => Me.putObj CM (Nat.le_of_lt (Nat.lt_of_le_of_lt hwle10 hlo)) (fun o3 h3 => by rw [KO.same l o hLo hoc] at h3; cases h3; exact hoc) o2⟩
 rintro l D o W a16 hD hL M16 hnc hdd F16
 have CM : CellsA W [(0, bytR m.l5 V.v5), (1, bytR m.l6 V.v6), (2, bytR m.l7 V.v7), (3, bytR m.l8 V.v8), (4, bytR m.l9 V.v9), (5, blkR g2 29 (msgA m V)), (6, blkR g5 78 (#[.int .u64 (hasN m 12)])), (7, blkR g9 29 (msgA m V))] := ⟨z5 (M16.at_ 0 _ rfl), z5 (M16.at_ 1 _ rfl), z5 (M16.at_ 2 _ rfl), z5 (M16.at_ 3 _ rfl), z5 (M16.at_ 4 _ rfl), zha (M16.at_ 5 _ rfl), zha (M16.at_ 6 _ rfl), zha (M16.at_ 7 _ rfl), trivial⟩
 replace M16 := M16.putObj CM (by omega) hnc o
 clear CM
 have CM : CellsA (W.putObj l o) [(0, bytR m.l5 V.v5), (1, bytR m.l6 V.v6), (2, bytR m.l7 V.v7), (3, bytR m.l8 V.v8), (4, bytR m.l9 V.v9), (5, blkR g2 29 (msgA m V)), (6, blkR g5 78 (#[.int .u64 (hasN m 12)])), (7, blkR g9 29 (msgA m V))] := ⟨z5 (M16.at_ 0 _ rfl), z5 (M16.at_ 1 _ rfl), z5 (M16.at_ 2 _ rfl), z5 (M16.at_ 3 _ rfl), z5 (M16.at_ 4 _ rfl), zha (M16.at_ 5 _ rfl), zha (M16.at_ 6 _ rfl), zha (M16.at_ 7 _ rfl), trivial⟩
 replace M16 := M16.obj CM 10 D _ hdd rfl
 clear CM
 have hDge : w.heap.size ≤ D := by omega
 clear hdd hnc hL hD
 obtain ⟨w16, hw16⟩ : ∃ x, x = W.putObj l o := ⟨_, rfl⟩
 rw [← hw16] at M16 ⊢
 clear hw16
 refine hK6 _ _ (zS fun _ hK17 => ?_)
 refine zT fun _ hK18 => ?_
 refine rn rfl rfl F16 rfl (.pointer (some ⟨g2, 0, none⟩)) (y_fa (off := 0) rfl (F16.get rfl) (by kernel_rfl) rfl) fun _ F19 => ?_
 refine rn rfl rfl F19 rfl (.int .i64 m.k) (y_ld1 _ _ rfl (F19.get rfl) (M16.blk (k := 5) rfl) rfl Try.underlying3 rfl) fun _ F20 => ?_
 by_cases h21 : m.k = 4
 rotate_left
 ·refine rn rfl rfl F20 rfl (.bool false) (zq _ _ _ _ rfl (F20.get rfl) rfl Try.underlying3 (zr h21)) fun _ F42 => ?_
  refine hK18 _ _ (wp_cond_false (F42.get rfl) ?_)
  refine wp_skip ?_
  refine hK17 _ _ (zS fun _ hK43 => ?_)
  refine zR ?_
  refine zB 4 [(1, .pointer (some ⟨g2, 0, none⟩)), (2, .bool false), (3, .pointer (some ⟨g5, 0, none⟩)), (25, .int .i64 m.k), (27, .int .i64 m.p)] [0, 0] (zj (M16.blk (k := 5) rfl) dnil) [g2, g2] F42 fun _ F44 => ?_
  refine zd (za rfl) rfl F44 rfl rfl (zE Try.func50 rfl) #[.int .i64 m.k, .int .i64 m.p] (zea (F44.get rfl) (F44.get rfl)) (zh ((hW ▸ wanted2 m.k m.p w16))) ?_
  rintro _ w45 a45 ⟨rfl, b45⟩ F45
  have M45 := M16.step b45
  refine zB 5 [(1, .pointer (some ⟨g2, 0, none⟩)), (2, .bool false), (3, .pointer (some ⟨g5, 0, none⟩)), (5, .int .u64 (wantN m.k m.p)), (6, .bool bW)] [] dnil [] F45 fun _ F46 => ?_
  refine hK43 _ _ (zS fun _ hK47 => ?_)
  refine zR ?_
  refine rm rfl F46 fun _ F48 => ?_
  refine rm rfl F48 fun _ F49 => ?_
  cases bW
  ·refine zB 9 [(2, .bool false)] [] dnil [] F49 fun _ F50 => ?_
   refine hK47 _ _ (wp_ret ?_)
   try simp only [Exit.then, Exit.inBlock, Exit.jump]
   have hDD := M45.anObj (i := 10) rfl
   have Mz := (M45.sub (R' := []) trivial).putObj trivial hDge (fun o3 h3 => by rw [hDD] at h3; cases h3; rfl) (.deferred none)
   exact zfc F50.defers hDD (res1 rfl (F50.get (t := 2) rfl)) ⟨by rw [show zab m = false from by rw [zab, hW, hF, show hasB m = _ from if_neg h21]; simp], Mz.below⟩
  refine ze (w' := w45) (zb rfl rfl rfl (F49.get rfl)) rfl F49 rfl (.int .u64 (hasN m 12)) (y_ld1 _ _ rfl (F49.get rfl) (M45.blk (k := 6) rfl) rfl Try.underlying78 rfl) fun _ F51 => ?_
  refine rm rfl F51 fun _ F52 => ?_
  by_cases h53 : (hasN m 12) = (wantN m.k m.p)
  rotate_left
  ·refine ze (w' := w45) (zb rfl rfl rfl (F52.get rfl)) rfl F52 rfl (.bool false) (zq _ _ _ _ rfl (F52.get rfl) (F52.get rfl) Try.underlying78 (zr h53)) fun _ F58 => ?_
   refine zB 6 [(2, .bool false)] [] dnil [] F58 fun _ F59 => ?_
   refine hK47 _ _ (wp_ret ?_)
   try simp only [Exit.then, Exit.inBlock, Exit.jump]
   have hDD := M45.anObj (i := 10) rfl
   have Mz := (M45.sub (R' := []) trivial).putObj trivial hDge (fun o3 h3 => by rw [hDD] at h3; cases h3; rfl) (.deferred none)
   exact zfc F59.defers hDD (res1 rfl (F59.get (t := 2) rfl)) ⟨by rw [show zab m = false from by rw [zab, hW, hF, show hasB m = _ from if_neg h21]; simp [h53]], Mz.below⟩
  refine ze (w' := w45) (zb rfl rfl rfl (F52.get rfl)) rfl F52 rfl (.bool true) (zq _ _ _ _ rfl (F52.get rfl) (F52.get rfl) Try.underlying78 (zka h53)) fun _ F54 => ?_
  refine zB 3 [(2, .bool false), (37, .bool true), (38, .agg (msgA m V))] [0] (zj (M45.blk (k := 5) rfl) dnil) [g2] F54 fun _ F55 => ?_
  refine zd (zb rfl rfl rfl (F55.get rfl)) rfl F55 rfl rfl (zE Try.func51 rfl) #[.agg (msgA m V)] (zp (F55.get rfl)) (zh ((hF ▸ fits_any m V hs w45 ⟨M45.isb (k := 0) rfl, M45.isb (k := 1) rfl, M45.isb (k := 2) rfl, M45.isb (k := 3) rfl, M45.isb (k := 4) rfl⟩))) ?_
  rintro _ w56 a56 ⟨rfl, b56⟩ F56
  have M56 := M45.step b56
  refine zB 2 [(2, .bool bF)] [] dnil [] F56 fun _ F57 => ?_
  refine hK47 _ _ (wp_ret ?_)
  try simp only [Exit.then, Exit.inBlock, Exit.jump]
  have hDD := M56.anObj (i := 10) rfl
  have Mz := (M56.sub (R' := []) trivial).putObj trivial hDge (fun o3 h3 => by rw [hDD] at h3; cases h3; rfl) (.deferred none)
  exact zfc F57.defers hDD (res1 rfl (F57.get (t := 2) rfl)) ⟨by rw [show zab m = bF from by rw [zab, hW, hF, show hasB m = _ from if_neg h21]; simp [h53]], Mz.below⟩
 refine rn rfl rfl F20 rfl (.bool true) (zq _ _ _ _ rfl (F20.get rfl) rfl Try.underlying3 (zka h21)) fun _ F22 => ?_
 refine hK18 _ _ (wp_cond_true (F22.get rfl) ?_)
 refine z1b F22 [fun vE => vE = .int .u64 (hasN m 12), fun _ => True, fun vE => vE = .int .u64 (orF [7]), fun vE => vE = .int .u64 (bits .or .u64 (hasN m 12) (orF [7]))] (JM none w fun SV pV => [(10, objR D (.deferred (some []))), (0, bytR m.l5 V.v5), (1, bytR m.l6 V.v6), (2, bytR m.l7 V.v7), (3, bytR m.l8 V.v8), (4, bytR m.l9 V.v9), (5, blkR g2 29 (msgA m V)), (6, blkR g5 78 (#[.int .u64 (hasN m 12)])), (7, blkR g9 29 (msgA m V)), (11, condR (SV 1) (slcR 3 1 #[.int .i64 7] (pV 1)))]) 4 rfl (by kernel_rfl) rfl ⟨trivial, trivial, trivial, trivial, trivial⟩ (fun p => ((M16.step (zib _)).triv 11).sub ⟨rfl, rfl, rfl, rfl, rfl, rfl, rfl, rfl, rfl, rfl, trivial⟩) ⟨?_, ?_, ?_, ?_, trivial⟩ ?_
 ·intro ua uw SV pV M0 hk hn hd
  have M : Mx none w uw _ := M0
  clear M0
  have e3 : ua.eval (.tmp 3) = .pointer (some ⟨g5, 0, none⟩) := (show ua.eval (.tmp 3) = _ from hd 3 (by decide)).trans (F22.get (t := 3) rfl)
  exact zl (za rfl) (.int .u64 (hasN m 12)) (y_ld1 _ _ rfl e3 (M.blk (k := 6) rfl) rfl Try.underlying78 rfl) rfl (M.sub ⟨rfl, rfl, rfl, rfl, rfl, rfl, rfl, rfl, rfl, rfl, trivial⟩)
 ·intro ua uw SV pV M0 hk hn hd
  have M : Mx none w uw _ := M0
  clear M0
  exact zl (za rfl) _ (zfb rfl #[.int .i64 7] rfl (by simp) (by simp) (by simp only [List.map_toArray, List.map_cons, List.map_nil]; kernel_rfl)) trivial ((M.allocS 11 3 1 #[.int .i64 7]).sub ⟨rfl, rfl, rfl, rfl, rfl, rfl, rfl, rfl, rfl, rfl, trivial⟩)
 ·intro ua uw SV pV M0 hk hn hd
  have M : Mx none w uw _ := M0
  clear M0
  obtain ⟨s1, f20, q20⟩ := (show SV 1 = true ∧ ua.eval (.tmp 20) = pV 1 ∧ stE _ 1 (pV 1) from hd 20 (by decide))
  have e20 : ua.eval (.tmp 20) = (pV 1) := f20
  exact hopM_call (za rfl) rfl #[(pV 1)] (zp e20) (zE Try.func49 rfl) ((fields_slc [7] (fun x hx => by simp at hx; omega) (by simp) rfl (M.at_ 11 _ (condR_look s1 rfl))).mono fun e w2 h => ⟨_, h.1, rfl, (M.step h.2).sub ⟨rfl, rfl, rfl, rfl, rfl, rfl, rfl, rfl, rfl, rfl, trivial⟩⟩)
 ·intro ua uw SV pV M0 hk hn hd
  have M : Mx none w uw _ := M0
  clear M0
  obtain ⟨s0, f19, q19⟩ := (show SV 0 = true ∧ ua.eval (.tmp 19) = pV 0 ∧ stE _ 0 (pV 0) from hd 19 (by decide))
  have e19 : ua.eval (.tmp 19) = .int .u64 (hasN m 12) := f19.trans q19
  obtain ⟨s2, f21, q21⟩ := (show SV 2 = true ∧ ua.eval (.tmp 21) = pV 2 ∧ stE _ 2 (pV 2) from hd 21 (by decide))
  have e21 : ua.eval (.tmp 21) = .int .u64 (orF [7]) := f21.trans q21
  exact zl (za rfl) (.int .u64 (bits .or .u64 (hasN m 12) (orF [7]))) (y_orU _ _ _ _ rfl e19 e21 rfl) rfl (M.sub ⟨rfl, rfl, rfl, rfl, rfl, rfl, rfl, rfl, rfl, rfl, trivial⟩)
 intro p23 a23 w23 M23 G23 y23
 obtain ⟨-, -, -, q3, -⟩ := y23
 have r3 : p23 3 = .int .u64 (bits .or .u64 (hasN m 12) (orF [7])) := q3
 replace M23 : Mx _ _ w23 [(10, objR D (.deferred (some []))), (0, bytR m.l5 V.v5), (1, bytR m.l6 V.v6), (2, bytR m.l7 V.v7), (3, bytR m.l8 V.v8), (4, bytR m.l9 V.v9), (5, blkR g2 29 (msgA m V)), (6, blkR g5 78 (#[.int .u64 (hasN m 12)])), (7, blkR g9 29 (msgA m V)), (11, condR true (slcR 3 1 #[.int .i64 7] (p23 1)))] := M23
 simp only [List.take, layV, Nat.zero_add, Nat.reduceAdd, r3] at G23
 refine zn (za rfl) rfl G23 M23 (k := 6) rfl _ _ _ rfl (G23.get rfl) (G23.get rfl) (#[.int .u64 (bits .or .u64 (hasN m 12) (orF [7]))]) _ rfl (zL rfl) (zeb _ _) (zt rfl) (by kernel_rfl) ?_
 intro w24 M24
 clear M23
 refine hK17 _ _ (zS fun _ hK25 => ?_)
 refine zR ?_
 refine zB 4 [(1, .pointer (some ⟨g2, 0, none⟩)), (2, .bool false), (3, .pointer (some ⟨g5, 0, none⟩)), (25, .int .i64 m.k), (27, .int .i64 m.p)] [0, 0] (zj (M24.blk (k := 5) rfl) dnil) [g2, g2] G23 fun _ F26 => ?_
 refine zd (za rfl) rfl F26 rfl rfl (zE Try.func50 rfl) #[.int .i64 m.k, .int .i64 m.p] (zea (F26.get rfl) (F26.get rfl)) (zh ((hW ▸ wanted2 m.k m.p w24))) ?_
 rintro _ w27 a27 ⟨rfl, b27⟩ F27
 have M27 := M24.step b27
 refine zB 5 [(1, .pointer (some ⟨g2, 0, none⟩)), (2, .bool false), (3, .pointer (some ⟨g5, 0, none⟩)), (5, .int .u64 (wantN m.k m.p)), (6, .bool bW)] [] dnil [] F27 fun _ F28 => ?_
 refine hK25 _ _ (zS fun _ hK29 => ?_)
 refine zR ?_
 refine rm rfl F28 fun _ F30 => ?_
 refine rm rfl F30 fun _ F31 => ?_
 cases bW
 ·refine zB 9 [(2, .bool false)] [] dnil [] F31 fun _ F32 => ?_
  refine hK29 _ _ (wp_ret ?_)
  try simp only [Exit.then, Exit.inBlock, Exit.jump]
  have hDD := M27.anObj (i := 10) rfl
  have Mz := (M27.sub (R' := []) trivial).putObj trivial hDge (fun o3 h3 => by rw [hDD] at h3; cases h3; rfl) (.deferred none)
  exact zfc F32.defers hDD (res1 rfl (F32.get (t := 2) rfl)) ⟨by rw [show zab m = false from by rw [zab, hW, hF, show hasB m = _ from if_pos h21]; simp], Mz.below⟩
 refine ze (w' := w27) (zb rfl rfl rfl (F31.get rfl)) rfl F31 rfl (.int .u64 (bits .or .u64 (hasN m 12) (orF [7]))) (y_ld1 _ _ rfl (F31.get rfl) (M27.blk (k := 6) rfl) rfl Try.underlying78 rfl) fun _ F33 => ?_
 refine rm rfl F33 fun _ F34 => ?_
 by_cases h35 : (bits .or .u64 (hasN m 12) (orF [7])) = (wantN m.k m.p)
 rotate_left
 ·refine ze (w' := w27) (zb rfl rfl rfl (F34.get rfl)) rfl F34 rfl (.bool false) (zq _ _ _ _ rfl (F34.get rfl) (F34.get rfl) Try.underlying78 (zr h35)) fun _ F40 => ?_
  refine zB 6 [(2, .bool false)] [] dnil [] F40 fun _ F41 => ?_
  refine hK29 _ _ (wp_ret ?_)
  try simp only [Exit.then, Exit.inBlock, Exit.jump]
  have hDD := M27.anObj (i := 10) rfl
  have Mz := (M27.sub (R' := []) trivial).putObj trivial hDge (fun o3 h3 => by rw [hDD] at h3; cases h3; rfl) (.deferred none)
  exact zfc F41.defers hDD (res1 rfl (F41.get (t := 2) rfl)) ⟨by rw [show zab m = false from by rw [zab, hW, hF, show hasB m = _ from if_pos h21]; simp [h35]], Mz.below⟩
 refine ze (w' := w27) (zb rfl rfl rfl (F34.get rfl)) rfl F34 rfl (.bool true) (zq _ _ _ _ rfl (F34.get rfl) (F34.get rfl) Try.underlying78 (zka h35)) fun _ F36 => ?_
 refine zB 3 [(2, .bool false), (37, .bool true), (38, .agg (msgA m V))] [0] (zj (M27.blk (k := 5) rfl) dnil) [g2] F36 fun _ F37 => ?_
 refine zd (zb rfl rfl rfl (F37.get rfl)) rfl F37 rfl rfl (zE Try.func51 rfl) #[.agg (msgA m V)] (zp (F37.get rfl)) (zh ((hF ▸ fits_any m V hs w27 ⟨M27.isb (k := 0) rfl, M27.isb (k := 1) rfl, M27.isb (k := 2) rfl, M27.isb (k := 3) rfl, M27.isb (k := 4) rfl⟩))) ?_
 rintro _ w38 a38 ⟨rfl, b38⟩ F38
 have M38 := M27.step b38
 refine zB 2 [(2, .bool bF)] [] dnil [] F38 fun _ F39 => ?_
 refine hK29 _ _ (wp_ret ?_)
 try simp only [Exit.then, Exit.inBlock, Exit.jump]
 have hDD := M38.anObj (i := 10) rfl
 have Mz := (M38.sub (R' := []) trivial).putObj trivial hDge (fun o3 h3 => by rw [hDD] at h3; cases h3; rfl) (.deferred none)
 exact zfc F39.defers hDD (res1 rfl (F39.get (t := 2) rfl)) ⟨by rw [show zab m = bF from by rw [zab, hW, hF, show hasB m = _ from if_pos h21]; simp [h35]], Mz.below⟩
end Go.Proofs.Ytlbkogdmojlpmaa
namespace Go.Proofs.Ytlbkogdmojlpmaa
open Go.ChangeShapes Go.WideShapes Go.ChangeAt Go.RowKit
theorem Mx.theO {w : World} {l : List UInt8} {v : Value} (h : Byt w 0 v l) : Mx v.ownBlock w w [(0, ownR l v)] :=
  (show Mx v.ownBlock w w [] from ⟨World.grownBy.refl _ _, fun _ _ h => (by cases h), fun _ _ h => (by cases h), fun _ _ h => (by cases h), fun _ _ h => (by cases h), fun _ _ _ _ h => (by cases h)⟩).cons 0 _ h ownR_dep (fun g hg => (h.lt g hg).2) (fun _ g hg => .inr hg) fun k s e => by cases e
theorem Mx.growO {G : Option Nat} {w0 w w' : World} {R : List (Nat × Res)} (M : Mx G w0 w R) {k : Nat} {l l' : List UInt8} {v v' : Value} (hk : look R k = some (ownR l v)) (hb : w.grownBy w' v.ownBlock) (hv : Byt w' 0 v' l') (hlo : ∀ g, v'.ownBlock = some g → w.heap.size ≤ g ∨ v.ownBlock = some g) : Mx G w0 w' ((k, ownR l' v') :: R) :=
  M.write hk rfl hb (fun _ e => e) _ hv ownR_dep fun g hg => ⟨(hv.lt g hg).2, (hlo g hg).symm⟩
theorem counted_any (l c : List UInt8) (v u : Value) (hl : l.length + c.length ≤ 100000) (w : World) (hb : Byt w 0 v l) (hu : IsB w c u) (hd : ∀ g, v.ownBlock = some g → ¬ bfp u g) :
  Calls Try.prog 45 #[v, u] w fun e w' => ∃ v', e = .returned v' ∧ Byt w' 0 v' (l ++ [zx (c.length : Int)] ++ c) ∧ (∀ g, v'.ownBlock = some g → w.heap.size ≤ g ∨ v.ownBlock = some g) ∧ w.grownBy w' v.ownBlock := by
 refine zg (args := [v, u]) 14 Try.func45 rfl rfl rfl ?_
 intro fa F
 have M := Mx.theO hb
 replace M := M.argB 1 hu hd
 refine zT fun _ hK1 => ?_
 refine rm rfl F fun _ F2 => ?_
 refine hK1 _ _ (zS fun _ hK3 => ?_)
 refine zR ?_
 refine rm rfl F2 fun _ F4 => ?_
 refine rm rfl F4 fun _ F5 => ?_
 refine rn rfl rfl F5 rfl (.int .i64 (c.length : Int)) (z9 _ rfl (F5.get rfl) (M.isb (k := 1) rfl) rfl) fun _ F6 => ?_
 refine rn rfl rfl F6 rfl (.int .u8 (((zx (c.length : Int)).toNat : Nat) : Int)) (zxa _ _ _ rfl (F6.get rfl) Try.underlying3 Try.underlying5 (z3a _)) fun _ F7 => ?_
 refine zba (za rfl) rfl F7 rfl (zbc M 2 [(zx (c.length : Int))] 1 rfl (by decide) (by decide) rfl (by simp only [List.map_toArray, List.map_cons, List.map_nil, (F7.get (t := 8) rfl)]; kernel_rfl)) ?_
 intro v8 a8 w8 F8 M8
 clear F7 M
 obtain ⟨A8, c8, rfl⟩ := (M8.isO (k := 2) rfl).shape
 refine zba (za rfl) rfl F8 rfl (z2a M8 (k := 0) rfl _ _ rfl (F8.get rfl) (F8.get rfl) (M8.isO (k := 2) rfl) (by simp only [List.length_append, List.length_cons, List.length_nil]; omega)) ?_
 intro v9 a9 w9 F9 M9
 clear F8 M8
 obtain ⟨A9, c9, rfl⟩ := (M9.isO (k := 0) rfl).shape
 refine rm rfl F9 fun _ F10 => ?_
 refine hK3 _ _ (zS fun _ hK11 => ?_)
 refine zR ?_
 refine rm rfl F10 fun _ F12 => ?_
 refine rm rfl F12 fun _ F13 => ?_
 refine zba (za rfl) rfl F13 rfl (z2a M9 (k := 0) rfl _ _ rfl (F13.get rfl) (F13.get rfl) (M9.isb (k := 1) rfl) (by simp only [List.length_append, List.length_cons, List.length_nil]; omega)) ?_
 intro v14 a14 w14 F14 M14
 clear F13 M9
 obtain ⟨A14, c14, rfl⟩ := (M14.isO (k := 0) rfl).shape
 refine rm rfl F14 fun _ F15 => ?_
 refine hK11 _ _ (wp_ret ?_)
 try simp only [Exit.then, Exit.inBlock, Exit.jump]
 exact bodyPost_ret (res1 rfl (F15.get rfl)) F15.defers ⟨_, rfl, M14.at_ 0 _ rfl, M14.own 0 _ rfl rfl, M14.grown⟩
end Go.Proofs.Ytlbkogdmojlpmaa
namespace Go.Proofs.Ytlbkogdmojlpmaa
open Go.ChangeShapes Go.WideShapes Go.ChangeAt Go.RowKit
end Go.Proofs.Ytlbkogdmojlpmaa
namespace Go.Proofs.Ytlbkogdmojlpmaa
open Go.ChangeShapes Go.WideShapes Go.ChangeAt Go.RowKit
def bitI (a : Nat) (i : Nat) : Int := ((a / 2 ^ i % 2 : Nat) : Int)
theorem testBit_bit (a i : Nat) : a / 2 ^ i % 2 = (a.testBit i).toNat := by
  rw [Nat.testBit_eq_decide_div_mod_eq]
  rcases Nat.mod_two_eq_zero_or_one (a / 2 ^ i) with h | h <;> simp [h]
theorem bit_dig (a i : Nat) : bits BinOp.and IntKind.u32 (digI a (i / 32) / 2 ^ (i % 32)) 1 = bitI a i := by
  have hd : digI a (i / 32) / 2 ^ (i % 32) = ((dig a (i / 32) / 2 ^ (i % 32) : Nat) : Int) := by unfold digI; simp
  have hl : dig a (i / 32) / 2 ^ (i % 32) < 4294967296 := Nat.lt_of_le_of_lt (Nat.div_le_self _ _) (dig_lt _ _)
  have h := bits_mask .u32 32 (by decide) (fun n h0 h1 => by rw [IntKind.wrap_u32]; omega) 1 (by omega) ((dig a (i / 32) / 2 ^ (i % 32) : Nat) : Int) (Int.natCast_nonneg _) (by exact_mod_cast hl)
  rw [hd]
  have h' : bits BinOp.and IntKind.u32 ((dig a (i / 32) / 2 ^ (i % 32) : Nat) : Int) 1 = ((dig a (i / 32) / 2 ^ (i % 32) : Nat) : Int) % 2 := h
  rw [h', bitI]
  have e : dig a (i / 32) / 2 ^ (i % 32) % 2 = a / 2 ^ i % 2 := by
    rw [testBit_bit, testBit_bit, dig, show (4294967296 : Nat) = 2 ^ 32 from rfl, ← Nat.pow_mul, Nat.testBit_mod_two_pow, Nat.testBit_div_two_pow, show i % 32 + 32 * (i / 32) = i by omega]
    simp [Nat.mod_lt]
  rw [← e]; omega
theorem rbit_any (a : Nat) (i : Nat) (hi : i < 256) (w : World) :
    Calls Try.prog 74 #[numV a, .int .i64 i] w fun e w' => e = .returned (.int .u32 (bitI a i)) ∧ Below w.heap.size w w' := by
  have g0 := Num.new w 27 a
  have c0 := g0.cell (k := i / 32) (by omega)
  go_enter Try.func74, Try.ntmps74
  go_wp2
  go_ret
  exact ⟨by rw [← bit_dig]; rfl, (Below.refl _ _).alloc (Nat.le_refl _) _⟩
attribute [irreducible] bitI
end Go.Proofs.Ytlbkogdmojlpmaa
namespace Go.Proofs.Ytlbkogdmojlpmaa
open Go.ChangeShapes Go.WideShapes Go.ChangeAt Go.RowKit
/-! The digits of a product's row. -/
/-! The number that stands in the row after k rounds. -/
theorem digI_high {n m k : Nat} (h : n < 4294967296 ^ m) (hk : m ≤ k) : digI n k = 0 := by unfold digI; rw [dig_of_lt h hk]; rfl
theorem digI_zeroN (j : Nat) : digI 0 j = 0 := digI_high (m := 0) (by omega) (by omega)
end Go.Proofs.Ytlbkogdmojlpmaa
namespace Go.Proofs.Ytlbkogdmojlpmaa
open Go.ChangeShapes Go.WideShapes Go.ChangeAt Go.RowKit
end Go.Proofs.Ytlbkogdmojlpmaa
namespace Go.Proofs.Ytlbkogdmojlpmaa
open Go.ChangeShapes Go.WideShapes Go.ChangeAt Go.RowKit
end Go.Proofs.Ytlbkogdmojlpmaa
namespace Go.Proofs.Ytlbkogdmojlpmaa
open Go.ChangeShapes Go.WideShapes Go.ChangeAt Go.RowKit
end Go.Proofs.Ytlbkogdmojlpmaa
namespace Go.Proofs.Ytlbkogdmojlpmaa
open Go.ChangeShapes Go.WideShapes Go.ChangeAt Go.RowKit
end Go.Proofs.Ytlbkogdmojlpmaa
namespace Go.Proofs.Ytlbkogdmojlpmaa
open Go.ChangeShapes Go.WideShapes Go.ChangeAt Go.RowKit
end Go.Proofs.Ytlbkogdmojlpmaa
namespace Go.Proofs.Ytlbkogdmojlpmaa
open Go.ChangeShapes Go.WideShapes Go.ChangeAt Go.RowKit
theorem top_ind {m : Nat} (h0 : 0 < m) : ∀ i, m < 4294967296 ^ i → ∃ n, 1 ≤ n ∧ n ≤ i ∧ dig m (n - 1) ≠ 0 ∧ topI m i = 32 * ((n - 1 : Nat) : Int) + Lib.bitLen (dig m (n - 1)) ∧ m < 4294967296 ^ n
  | 0, h => by simp at h; omega
  | i + 1, h => by
    by_cases hz : digI m i = 0
    · have hd : m / 4294967296 ^ i < 4294967296 := by rw [Nat.div_lt_iff_lt_mul (pow_pos' i), Nat.mul_comm, ← Nat.pow_succ]; exact h
      have hz' : dig m i = 0 := by unfold digI at hz; omega
      have e : dig m i = m / 4294967296 ^ i := by unfold dig; rw [Nat.mod_eq_of_lt hd]
      have hlt : m < 4294967296 ^ i := by
        rw [e] at hz'
        rcases Nat.div_eq_zero_iff.1 hz' with h2 | h2
        · have := pow_pos' i; omega
        · exact h2
      obtain ⟨n, h1, h2, h3, h4, h5⟩ := top_ind h0 i hlt
      exact ⟨n, h1, by omega, h3, by rw [topI_zero hz]; exact h4, h5⟩
    · refine ⟨i + 1, by omega, Nat.le_refl _, ?_, ?_, h⟩
      · rw [Nat.add_sub_cancel]; intro e; exact hz (by unfold digI; rw [e]; rfl)
      · rw [topI_here hz, Nat.add_sub_cancel]
        have e : (digI m i).toNat = dig m i := by unfold digI; omega
        rw [e]
/-! The rounds. -/
theorem topI_none : ∀ i, topI 0 i = 0
  | 0 => by simp [topI]
  | i + 1 => by rw [topI_zero (digI_zeroN i)]; exact topI_none i
end Go.Proofs.Ytlbkogdmojlpmaa
namespace Go.Proofs.Ytlbkogdmojlpmaa
open Go.ChangeShapes Go.WideShapes Go.ChangeAt Go.RowKit
theorem pow32 (j : Nat) : 4294967296 ^ j = 2 ^ (32 * j) := by rw [Nat.pow_mul]
theorem top_one {a k : Nat} (ha : a < 4294967296 ^ 8) (h : a / 2 ^ k = 1) : topI a 8 = (k : Int) + 1 := by
  have h0 : 0 < a := by
    refine Nat.pos_of_ne_zero fun e => ?_
    rw [e, Nat.zero_div] at h
    cases h
  obtain ⟨n, h1, h2, h3, h4, h5⟩ := top_ind h0 8 ha
  obtain ⟨j, rfl⟩ : ∃ j, n = j + 1 := ⟨n - 1, by omega⟩
  rw [Nat.add_sub_cancel] at *
  have hd := dig_lt a j
  obtain ⟨b1, b2, b3⟩ := Lib.bitLenAux_bounds 64 (dig a j) (by omega) h3
  change 1 ≤ Lib.bitLen (dig a j) at b1
  change 2 ^ (Lib.bitLen (dig a j) - 1) ≤ dig a j at b2
  change dig a j < 2 ^ Lib.bitLen (dig a j) at b3
  have hk := pow_pos' j
  have hq : a / 4294967296 ^ j < 4294967296 := by rw [Nat.div_lt_iff_lt_mul hk, Nat.mul_comm, ← Nat.pow_succ]; exact h5
  have e2 : dig a j = a / 4294967296 ^ j := by unfold dig; rw [Nat.mod_eq_of_lt hq]
  have lo : 2 ^ (32 * j + (Lib.bitLen (dig a j) - 1)) ≤ a := by
    rw [Nat.pow_add, ← pow32, Nat.mul_comm]
    rw [e2] at b2 ⊢
    exact Nat.le_trans (Nat.mul_le_mul_right _ b2) (Nat.div_mul_le_self _ _)
  have hi : a < 2 ^ (32 * j + Lib.bitLen (dig a j)) := by
    rw [Nat.pow_add, ← pow32, Nat.mul_comm]
    rw [e2] at b3 ⊢
    exact (Nat.div_lt_iff_lt_mul hk).1 b3
  have lo' : 2 ^ k ≤ a := by
    refine Nat.le_of_not_lt fun hl => ?_
    rw [Nat.div_eq_of_lt hl] at h
    cases h
  have hi' : a < 2 ^ (k + 1) := by
    rw [Nat.pow_succ, Nat.mul_comm]
    exact (Nat.div_lt_iff_lt_mul (Nat.pow_pos (by decide))).1 (by omega)
  have p1 : k < 32 * j + Lib.bitLen (dig a j) := (Nat.pow_lt_pow_iff_right (by decide : 1 < 2)).1 (Nat.lt_of_le_of_lt lo' hi)
  have p2 : 32 * j + (Lib.bitLen (dig a j) - 1) < k + 1 := (Nat.pow_lt_pow_iff_right (by decide : 1 < 2)).1 (Nat.lt_of_le_of_lt lo hi')
  rw [h4]; omega
theorem bit_up {a k : Nat} (h : a / 2 ^ (k + 1) = 0) : (bitI a k = 1 ∧ a / 2 ^ k = 1) ∨ (bitI a k = 0 ∧ a / 2 ^ k = 0) := by
  rw [Nat.pow_succ, ← Nat.div_div_eq_div_mul] at h
  unfold bitI
  generalize a / 2 ^ k = q at *
  have : q = 0 ∨ q = 1 := by omega
  rcases this with rfl | rfl
  · right; simp
  · left; simp
theorem rbits_any (a : Nat) (ha : a < 4294967296 ^ 8) (w : World) :
    Calls Try.prog 41 #[numV a] w fun e w' => e = .returned (.int .i64 (topI a 8)) ∧ Below w.heap.size w w' := by
  have TOP := hid (fun k => @top_one a k ha)
  have ST : Hid (a / 2 ^ 256 = 0) := hid (Nat.div_eq_of_lt (by rw [show (2 : Nat) ^ 256 = 4294967296 ^ 8 by decide +kernel]; exact ha))
  clear ha
  have g0 := Num.new w 27 a
  have gb := zub w (.cells (numA a) 27)
  go_enter Try.func41, Try.ntmps41
  go_wp2
  generalize World.alloc _ _ = W at *
  go_loopw [3] (fun i wr => ∃ q : Int, -1 ≤ q ∧ q ≤ 255 ∧ i = .int .i64 q ∧ Hid (a / 2 ^ (q + 1).toNat = 0) ∧ Below (w.heap.size + 1) W wr) (fun i _ => (intOf i + 1).toNat)
  case atStart => exact ⟨255, by omega, by omega, rfl, ST, Below.refl _ _⟩
  case round =>
    obtain ⟨q, hq1, hq2, rfl, ht, hB⟩ := hrel
    have n0 := g0.below hB (by omega)
    have hlt := g0.lt
    by_cases hq : 0 ≤ q
    · obtain ⟨k, rfl⟩ := Int.eq_ofNat_of_zero_le hq
      have hk := rbit_any a k (by omega)
      rcases bit_up (show a / 2 ^ (k + 1) = 0 from ht.out) with ⟨e1, e2⟩ | ⟨e1, e2⟩
      · have E := hid e2
        rw [e1] at hk
        clear e1 e2 ht
        go_wp2_with (refine zxb rfl _ _ rfl _ rfl _ _ _ n0 Try.underlying27 rfl z7 ?_)
        refine (hk _).mono ?_
        rintro e w1 ⟨rfl, b1⟩
        clear hk
        go_wp2
        go_ret
        exact ⟨by rw [TOP.out k E.out]; rfl, gb.trans ((hB.trans (b1.mono (by have := hB.size; omega))).mono (by omega))⟩
      · have E := hid e2
        rw [e1] at hk
        clear e1 e2 ht
        go_wp2_with (refine zxb rfl _ _ rfl _ rfl _ _ _ n0 Try.underlying27 rfl z7 ?_)
        refine (hk _).mono ?_
        rintro e w1 ⟨rfl, b1⟩
        clear hk
        go_wp2
        go_roundw
        case rel => exact ⟨(k : Int) - 1, by omega, by omega, by go_num, by rw [show ((k : Int) - 1 + 1).toNat = k by omega]; exact E, hB.trans (b1.mono (by have := hB.size; omega))⟩
        case measure => simp [intOf] <;> omega
    · have hq' : q = -1 := by omega
      subst hq'
      have e : a = 0 := by have := ht.out; simpa using this
      have E := hid (show topI a 8 = 0 by rw [e]; exact topI_none 8)
      clear e
      go_wp2
      go_ret
      exact ⟨by rw [E.out]; rfl, gb.trans (hB.mono (by omega))⟩
end Go.Proofs.Ytlbkogdmojlpmaa
namespace Go.Proofs.Ytlbkogdmojlpmaa
open Go.ChangeShapes Go.WideShapes Go.ChangeAt Go.RowKit
def encN (m : MsgN) : Nat → List UInt8
  | 0 => [0, 0, zx m.k]
  | k + 1 => if zu m k = [] then encN m k else encN m k ++ [zx (k : Int)] ++ [zx ((zu m k).length : Int)] ++ zu m k
theorem encN_one (m : MsgN) : encN m 1 = [0, 0, zx m.k] := rfl
theorem encN_skip {m : MsgN} {k : Nat} (h : zu m k = []) : encN m (k + 1) = encN m k := if_pos h
theorem encN_put {m : MsgN} {k : Nat} (h : zu m k ≠ []) : encN m (k + 1) = encN m k ++ [zx (k : Int)] ++ [zx ((zu m k).length : Int)] ++ zu m k := if_neg h
theorem encN_len {m : MsgN} (hc : ∀ k, (zu m k).length ≤ 120) : ∀ k, (encN m k).length ≤ 3 + 122 * k
  | 0 => by simp [encN]
  | k + 1 => by
    have h1 := encN_len hc k
    have h2 := hc k
    unfold encN
    split
    · omega
    · simp only [List.length_append, List.length_cons, List.length_nil]; omega
theorem encN_len3 (m : MsgN) : ∀ k, 3 ≤ (encN m k).length
  | 0 => by simp [encN]
  | k + 1 => by
    have h1 := encN_len3 m k
    unfold encN
    split
    · omega
    · simp only [List.length_append, List.length_cons, List.length_nil]; omega
theorem top_le {a : Nat} (ha : a < 4294967296 ^ 8) (h : topI a 8 ≤ 32) : a < 4294967296 := by
  by_cases h0 : a = 0
  · omega
  · have h1 := Nat.log2_self_le h0
    have h2 : a < 2 ^ (Nat.log2 a + 1) := Nat.lt_log2_self
    have h3 : a / 2 ^ (Nat.log2 a) = 1 := by
      apply Nat.div_eq_of_lt_le
      · omega
      · rw [Nat.pow_succ] at h2; omega
    rw [top_one ha h3] at h
    have h4 : Nat.log2 a + 1 ≤ 32 := by omega
    exact Nat.lt_of_lt_of_le h2 (Nat.pow_le_pow_right (by omega) h4)
theorem cont_len {m : MsgN} (h : zca m = true) (k : Nat) : (zu m k).length ≤ 120 := by
  unfold zca at h
  simp only [Bool.and_eq_true, Bool.or_eq_true, decide_eq_true_eq] at h
  obtain ⟨⟨⟨⟨⟨⟨⟨⟨⟨⟨⟨h1, h2⟩, h3⟩, h4⟩, h5⟩, h6⟩, h7⟩, h8⟩, h9⟩, h10⟩, h11⟩, h12⟩ := h
  have hs : m.s.size ≤ 16 := by
    rcases h2 with h2 | h2
    · unfold nilB at h2
      have := of_decide_eq_true h2
      have e : m.s.toList.length = m.s.size := by rw [ByteArray.toList_eq]; simp
      rw [this] at e
      have : (({ data := #[] } : ByteArray).toList).length = 0 := by simp
      omega
    · unfold nameB at h2
      exact (@of_decide_eq_true _ (Classical.propDecidable _) h2).2.1
  have ho : ∀ p, (octL p).length ≤ 120 := fun p => by unfold octL; split <;> simp
  have hf : ∀ a, (fourO a).length ≤ 120 := fun a => by
    unfold fourO
    split
    · simp
    · unfold fourL; simp [zwa]
  unfold zu
  split <;> first | exact ho _ | exact hf _ | omega | skip
  · simp [sBy]; omega
  · unfold eightO; split
    · simp
    · rw [z2b]; omega
  · simp
def encF (m : MsgN) : List UInt8 := ((encN m 12).set 0 0).set 1 (zx (((encN m 12).length : Int) - 2))
noncomputable def z4a (m : MsgN) : Bool := zab m && decide (((encN m 12).length : Int) - 2 ≤ 200)
noncomputable def encL (m : MsgN) : List UInt8 := if z4a m = true then encF m else []
theorem encode_any (m : MsgN) (V : MsgV) (ho : MsgOk m) (hs : m.s.size ≤ 1000) (w : World) (hm : MsgIs w m V) :
  Calls Try.prog 17 #[.agg (msgA m V)] w fun e w' => ∃ v, e = .returned (.tuple #[v, .bool (z4a m)]) ∧ Byt w' w.heap.size v (encL m) ∧ Below w.heap.size w w' := by
 obtain ⟨bR, hR⟩ : ∃ b, zab m = b := ⟨_, rfl⟩
 obtain ⟨N, hN⟩ : ∃ N, (encN m 12).length = N := ⟨_, rfl⟩
 have hN3 : 3 ≤ N := hN ▸ encN_len3 m 12
 have hcl : bR = true → ∀ k, (zu m k).length ≤ 120 := fun h => cont_len (by rw [h] at hR; unfold zab at hR; simp only [Bool.and_eq_true] at hR; exact hR.2)
 refine calls_fxM (args := [.agg (msgA m V)]) 42 Try.func17 rfl rfl rfl ?_
 intro fa F
 have M := Mx.start w
 replace M := M.argB 0 hm.h5 (fun g e => by cases e)
 replace M := M.argB 1 hm.h6 (fun g e => by cases e)
 replace M := M.argB 2 hm.h7 (fun g e => by cases e)
 replace M := M.argB 3 hm.h8 (fun g e => by cases e)
 replace M := M.argB 4 hm.h9 (fun g e => by cases e)
 refine zT fun _ hK1 => ?_
 refine zf (za rfl) rfl F rfl M 5 (t := 29) (c := msgA m V) (by unfold execOp; simp only [(F.get (t := 0) rfl)]; kernel_rfl) ?_
 intro g2 a2 w2 F2 M2
 clear F M
 refine rm rfl F2 fun _ F3 => ?_
 refine rm rfl F3 fun _ F4 => ?_
 refine hK1 _ _ (zS fun _ hK5 => ?_)
 refine zT fun _ hK6 => ?_
 refine rn rfl rfl F4 rfl _ (zja _ _ rfl (F4.get rfl) (M2.blk (k := 5) rfl) (msgA m V) (zma rfl) Try.underlying29 rfl (by kernel_rfl)) fun _ F7 => ?_
 refine zd (za rfl) rfl F7 rfl rfl (zE Try.func19 rfl) #[.agg (msgA m V)] (zp (F7.get rfl)) (zh ((hR ▸ right_any m V ho hs w2 ⟨M2.isb (k := 0) rfl, M2.isb (k := 1) rfl, M2.isb (k := 2) rfl, M2.isb (k := 3) rfl, M2.isb (k := 4) rfl⟩))) ?_
 rintro _ w8 a8 ⟨rfl, b8⟩ F8
 have M8 := M2.step b8
 cases bR
 ·refine rn rfl rfl F8 rfl (.bool true) (run_not _ _ rfl (F8.get (t := 9) rfl)) fun _ F9 => ?_
  refine hK6 _ _ (wp_cond_true (F9.get rfl) ?_)
  refine zT fun _ hK10 => ?_
  refine rm rfl F9 fun _ F11 => ?_
  refine rm rfl F11 fun _ F12 => ?_
  refine hK10 _ _ (wp_ret ?_)
  try simp only [Exit.then, Exit.inBlock, Exit.jump]
  exact bodyM_ret0 (res2 rfl (F12.get (t := 2) rfl) (F12.get (t := 3) rfl)) F12.defers ⟨zN, (by rw [show z4a m = false from by rw [z4a, hR]; simp]), (by rw [show encL m = _ from if_neg (by rw [z4a, hR]; simp)]; exact Byt.nil _ _), M8.below⟩
 refine rn rfl rfl F8 rfl (.bool false) (run_not _ _ rfl (F8.get (t := 9) rfl)) fun _ F13 => ?_
 refine hK6 _ _ (wp_cond_false (F13.get rfl) ?_)
 refine wp_skip ?_
 refine hK5 _ _ (zS fun _ hK14 => ?_)
 refine zR ?_
 refine zB 2 [(1, .pointer (some ⟨g2, 0, none⟩)), (2, zN), (3, .bool false), (12, .int .i64 m.k)] [0] (zj (M8.blk (k := 5) rfl) dnil) [g2] F13 fun _ F15 => ?_
 refine rn rfl rfl F15 rfl (.int .u8 (((zx m.k).toNat : Nat) : Int)) (zxa _ _ _ rfl (F15.get rfl) Try.underlying3 Try.underlying5 (z3a _)) fun _ F16 => ?_
 refine zba (za rfl) rfl F16 rfl (zbc M8 6 [0, 0, (zx m.k)] 3 rfl (by decide) (by decide) rfl (by simp only [List.map_toArray, List.map_cons, List.map_nil, (F16.get (t := 13) rfl)]; kernel_rfl)) ?_
 intro v17 a17 w17 F17 M17
 clear F16 M8
 obtain ⟨A17, c17, rfl⟩ := (M17.isO (k := 6) rfl).shape
 refine zf (za rfl) rfl F17 rfl M17 7 (t := 22) (c := #[zN]) (by unfold execOp; kernel_rfl) ?_
 intro g18 a18 w18 F18 M18
 clear F17 M17
 refine zn (za rfl) rfl F18 M18 (k := 7) rfl _ _ _ rfl (F18.get rfl) (F18.get rfl) (#[.slice A17 ([0, 0, (zx m.k)]).length c17]) _ rfl (zL rfl) (zmb rfl) (zt rfl) (by kernel_rfl) ?_
 intro w19 M19
 clear M18
 refine hK14 _ _ (zS fun _ hK20 => ?_)
 refine zT fun _ hK21 => ?_
 refine rn rfl rfl F18 rfl _ (zja _ _ rfl (F18.get rfl) (M19.blk (k := 5) rfl) (msgA m V) (zma rfl) Try.underlying29 rfl (by kernel_rfl)) fun _ F22 => ?_
 refine zd (za rfl) rfl F22 rfl rfl (zE Try.func44 rfl) #[.agg (msgA m V)] (zp (F22.get rfl)) (there_ex m V w19) ?_
 rintro _ w23 a23 ⟨g23, rfl, hg23, hc23, b23⟩ F23
 have M23 := M19.newb b23 8 hg23 hc23
 clear M19 hg23 hc23 b23
 refine hK21 _ _ (wp_block ?_)
 have hwle24 := M23.le
 refine range_fx2 F23 (gf := 75) (lb := #[.pointer (some ⟨g23, 0, none⟩)]) (F23.get (t := 16) rfl) (zE Try.func75 rfl) rfl rfl (α := Nat × Value) (fun x => .int .i64 (x.1 : Int)) (fun x => x.2)
  (fun x W => (1 ≤ x.1 ∧ x.1 ≤ 11 ∧ zu m x.1 ≠ []) ∧ ∃ bv, Mx none w W [(9, bytR (zu m x.1) x.2), (0, bytR m.l5 V.v5), (1, bytR m.l6 V.v6), (2, bytR m.l7 V.v7), (3, bytR m.l8 V.v8), (4, bytR m.l9 V.v9), (5, blkR g2 29 (msgA m V)), (6, ownR (encN m x.1) bv), (7, blkR g18 22 (#[bv])), (8, blkR g23 29 (msgA m V))]) (fun x W => ∃ bv, Mx none w W [(0, bytR m.l5 V.v5), (1, bytR m.l6 V.v6), (2, bytR m.l7 V.v7), (3, bytR m.l8 V.v8), (4, bytR m.l9 V.v9), (5, blkR g2 29 (msgA m V)), (6, ownR (encN m (x.1 + 1)) bv), (7, blkR g18 22 (#[bv])), (8, blkR g23 29 (msgA m V))]) (fun W => ∃ bv, Mx none w W [(0, bytR m.l5 V.v5), (1, bytR m.l6 V.v6), (2, bytR m.l7 V.v7), (3, bytR m.l8 V.v8), (4, bytR m.l9 V.v9), (5, blkR g2 29 (msgA m V)), (6, ownR (encN m 12) bv), (7, blkR g18 22 (#[bv])), (8, blkR g23 29 (msgA m V))]) ?_ ?_ ?_
 ·intro l D o1 o2 W1 hD hL bW hrec hY
  have M1 : Mx none w W1 [(0, bytR m.l5 V.v5), (1, bytR m.l6 V.v6), (2, bytR m.l7 V.v7), (3, bytR m.l8 V.v8), (4, bytR m.l9 V.v9), (5, blkR g2 29 (msgA m V)), (6, ownR (encN m 1) (.slice A17 ([0, 0, (zx m.k)]).length c17)), (7, blkR g18 22 (#[(.slice A17 ([0, 0, (zx m.k)]).length c17)])), (8, blkR g23 29 (msgA m V))] := (M23.step bW).sub ⟨rfl, rfl, rfl, rfl, rfl, rfl, (by rw [encN_one]; rfl), rfl, rfl, trivial⟩
  refine there1_any m V ho (fun k W => ∃ bv, Mx none w W [(0, bytR m.l5 V.v5), (1, bytR m.l6 V.v6), (2, bytR m.l7 V.v7), (3, bytR m.l8 V.v8), (4, bytR m.l9 V.v9), (5, blkR g2 29 (msgA m V)), (6, ownR (encN m k) bv), (7, blkR g18 22 (#[bv])), (8, blkR g23 29 (msgA m V))]) g23 l D o1 o2 ?_ ?_ ?_ W1 ⟨_, M1⟩ hrec
  ·rintro k W ⟨bv, hM⟩
   exact ⟨⟨hM.isb (k := 0) rfl, hM.isb (k := 1) rfl, hM.isb (k := 2) rfl, hM.isb (k := 3) rfl, hM.isb (k := 4) rfl⟩, hM.blk (k := 8) rfl⟩
  ·rintro k W W' h1 h2 hn ⟨bv, hM⟩ hb
   exact ⟨_, (hM.step hb).sub ⟨rfl, rfl, rfl, rfl, rfl, rfl, (by rw [encN_skip hn]; rfl), rfl, rfl, trivial⟩⟩
  rintro k v W W' h1 h2 hn ⟨bv, hM⟩ hb hv hloc hre
  exact hY (k, v) W' ⟨⟨h1, h2, hn⟩, ⟨_, hM.content hb 9 hv hloc (k5 := 0) (k6 := 1) (k7 := 2) (k8 := 3) (k9 := 4) rfl rfl rfl rfl rfl⟩⟩ hre
 ·rintro l ⟨k, v⟩ W ra F24 hlo hlt ⟨⟨h1, h2, hn⟩, ⟨bv, M24⟩⟩
  replace F24 : Fx 42 ra _ := F24
  dsimp only at h1 h2 hn M24 F24 ⊢
  clear F23 M23
  replace M24 : Mx none w W [(9, bytR (zu m k) v), (0, bytR m.l5 V.v5), (1, bytR m.l6 V.v6), (2, bytR m.l7 V.v7), (3, bytR m.l8 V.v8), (4, bytR m.l9 V.v9), (5, blkR g2 29 (msgA m V)), (6, ownR (encN m k) bv), (7, blkR g18 22 (#[bv])), (8, blkR g23 29 (msgA m V))] := M24
  have hk1 := encN_len (hcl rfl) k
  have hk2 := hcl rfl k
  refine wpIn_seq_k fun K25 hK25 => ?_
  refine wpIn_lit' (fun ⟨_, _, h⟩ => h) rfl ?_
  refine rm rfl F24 fun _ F26 => ?_
  refine hK25 _ _ ?_
  refine wpIn_lit' (fun ⟨_, _, h⟩ => h) rfl ?_
  refine rm rfl F26 fun _ F27 => ?_
  refine ⟨KeepsOthers.refl _, fun o hnc hoc => ?_⟩
  have CM : CellsA _ _ := (show CellsA W [(9, bytR (zu m k) v), (0, bytR m.l5 V.v5), (1, bytR m.l6 V.v6), (2, bytR m.l7 V.v7), (3, bytR m.l8 V.v8), (4, bytR m.l9 V.v9), (5, blkR g2 29 (msgA m V)), (6, ownR (encN m k) bv), (7, blkR g18 22 (#[bv])), (8, blkR g23 29 (msgA m V))] from ⟨z5 (M24.at_ 9 _ rfl), z5 (M24.at_ 0 _ rfl), z5 (M24.at_ 1 _ rfl), z5 (M24.at_ 2 _ rfl), z5 (M24.at_ 3 _ rfl), z5 (M24.at_ 4 _ rfl), zha (M24.at_ 5 _ rfl), cells_ownR (M24.at_ 6 _ rfl), zha (M24.at_ 7 _ rfl), zha (M24.at_ 8 _ rfl), trivial⟩)
  have M28 := M24.putObj CM (Nat.le_of_lt (Nat.lt_of_le_of_lt hwle24 hlo)) hnc o
  clear CM M24
  have hLo : (W.putObj l o).heap[l]? = some o := World.putObj_heap_same hlt
  obtain ⟨Wp, hWp⟩ : ∃ x, x = W.putObj l o := ⟨_, rfl⟩
  rw [← hWp] at M28 hLo ⊢
  have CM : CellsA _ _ := (show CellsA Wp [(9, bytR (zu m k) v), (0, bytR m.l5 V.v5), (1, bytR m.l6 V.v6), (2, bytR m.l7 V.v7), (3, bytR m.l8 V.v8), (4, bytR m.l9 V.v9), (5, blkR g2 29 (msgA m V)), (6, ownR (encN m k) bv), (7, blkR g18 22 (#[bv])), (8, blkR g23 29 (msgA m V))] from ⟨z5 (M28.at_ 9 _ rfl), z5 (M28.at_ 0 _ rfl), z5 (M28.at_ 1 _ rfl), z5 (M28.at_ 2 _ rfl), z5 (M28.at_ 3 _ rfl), z5 (M28.at_ 4 _ rfl), zha (M28.at_ 5 _ rfl), cells_ownR (M28.at_ 6 _ rfl), zha (M28.at_ 7 _ rfl), zha (M28.at_ 8 _ rfl), trivial⟩)
  replace M28 := M28.oth CM 10
  clear CM
  refine wpIn_block ?_
  refine wpIn_seq_k fun K29 hK29 => ?_
  refine wpIn_lit' (fun ⟨_, _, h⟩ => h) rfl ?_
  refine rn rfl rfl F27 rfl (bv) (y_ld1 _ _ rfl (F27.get rfl) (M28.blk (k := 7) rfl) rfl Try.underlying22 rfl) fun _ F30 => ?_
  refine rm rfl F30 fun _ F31 => ?_
  refine rn rfl rfl F31 rfl (.int .u8 (((zx (k : Int)).toNat : Nat) : Int)) (zxa _ _ _ rfl (F31.get rfl) Try.underlying3 Try.underlying5 (z3a _)) fun _ F32 => ?_
  refine zba (za rfl) rfl F32 rfl (zbc M28 12 [(zx (k : Int))] 1 rfl (by decide) (by decide) rfl (by simp only [List.map_toArray, List.map_cons, List.map_nil, (F32.get (t := 21) rfl)]; kernel_rfl)) ?_
  intro v33 a33 w33 F33 M33
  clear F32 M28
  obtain ⟨A33, c33, rfl⟩ := (M33.isO (k := 12) rfl).shape
  refine zba (za rfl) rfl F33 rfl (z2a M33 (k := 6) rfl _ _ rfl (F33.get rfl) (F33.get rfl) (M33.isO (k := 12) rfl) (by simp only [List.length_append, List.length_cons, List.length_nil]; omega)) ?_
  intro v34 a34 w34 F34 M34
  clear F33 M33
  obtain ⟨A34, c34, rfl⟩ := (M34.isO (k := 6) rfl).shape
  refine zn (za rfl) rfl F34 M34 (k := 7) rfl _ _ _ rfl (F34.get rfl) (F34.get rfl) (#[.slice A34 (((encN m k) ++ [(zx (k : Int))])).length c34]) _ rfl (zL rfl) (zmb rfl) (zt rfl) (by kernel_rfl) ?_
  intro w35 M35
  clear M34
  refine hK29 _ _ ?_
  refine wpIn_lit' (fun ⟨_, _, h⟩ => h) rfl ?_
  refine rn rfl rfl F34 rfl (.slice A34 (((encN m k) ++ [(zx (k : Int))])).length c34) (y_ld1 _ _ rfl (F34.get rfl) (M35.blk (k := 7) rfl) rfl Try.underlying22 rfl) fun _ F36 => ?_
  refine rm rfl F36 fun _ F37 => ?_
  refine zd (za rfl) rfl F37 rfl rfl (zE Try.func45 rfl) #[.slice A34 (((encN m k) ++ [(zx (k : Int))])).length c34, v] (zea (F37.get rfl) (F37.get rfl)) (counted_any ((encN m k) ++ [(zx (k : Int))]) (zu m k) (.slice A34 (((encN m k) ++ [(zx (k : Int))])).length c34) (v) (by simp only [List.length_append, List.length_cons, List.length_nil]; omega) w35 (M35.at_ 6 _ rfl) (M35.isb (k := 9) rfl) (fun g e hg => M35.dis 6 9 _ _ rfl rfl (by decide) rfl g e hg)) ?_
  rintro v38 w38 a38 ⟨hv38, hlo38, gb38⟩ F38
  have M38 := M35.growO (k := 6) rfl gb38 hv38 hlo38
  clear M35 gb38 hv38 hlo38
  obtain ⟨A38, c38, rfl⟩ := (M38.isO (k := 6) rfl).shape
  refine zn (za rfl) rfl F38 M38 (k := 7) rfl _ _ _ rfl (F38.get rfl) (F38.get rfl) (#[.slice A38 (((((encN m k) ++ [(zx (k : Int))]) ++ [zx ((zu m k).length : Int)]) ++ (zu m k))).length c38]) _ rfl (zL rfl) (zmb rfl) (zt rfl) (by kernel_rfl) ?_
  intro w39 M39
  clear M38
  have KO := M39.keeps (i := 10) rfl
  have Me : Mx none w _ [(0, bytR m.l5 V.v5), (1, bytR m.l6 V.v6), (2, bytR m.l7 V.v7), (3, bytR m.l8 V.v8), (4, bytR m.l9 V.v9), (5, blkR g2 29 (msgA m V)), (6, ownR (encN m (k + 1)) (.slice A38 (((((encN m k) ++ [(zx (k : Int))]) ++ [zx ((zu m k).length : Int)]) ++ (zu m k))).length c38)), (7, blkR g18 22 (#[(.slice A38 (((((encN m k) ++ [(zx (k : Int))]) ++ [zx ((zu m k).length : Int)]) ++ (zu m k))).length c38)])), (8, blkR g23 29 (msgA m V))] := M39.sub ⟨rfl, rfl, rfl, rfl, rfl, rfl, (by rw [encN_put hn]; rfl), rfl, rfl, trivial⟩
  have CM : CellsA _ _ := (show CellsA w39 [(0, bytR m.l5 V.v5), (1, bytR m.l6 V.v6), (2, bytR m.l7 V.v7), (3, bytR m.l8 V.v8), (4, bytR m.l9 V.v9), (5, blkR g2 29 (msgA m V)), (6, ownR (encN m (k + 1)) (.slice A38 (((((encN m k) ++ [(zx (k : Int))]) ++ [zx ((zu m k).length : Int)]) ++ (zu m k))).length c38)), (7, blkR g18 22 (#[(.slice A38 (((((encN m k) ++ [(zx (k : Int))]) ++ [zx ((zu m k).length : Int)]) ++ (zu m k))).length c38)])), (8, blkR g23 29 (msgA m V))] from ⟨z5 (Me.at_ 0 _ rfl), z5 (Me.at_ 1 _ rfl), z5 (Me.at_ 2 _ rfl), z5 (Me.at_ 3 _ rfl), z5 (Me.at_ 4 _ rfl), zha (Me.at_ 5 _ rfl), cells_ownR (Me.at_ 6 _ rfl), zha (Me.at_ 7 _ rfl), zha (Me.at_ 8 _ rfl), trivial⟩)
  exact ⟨KO, fun o2 => ⟨_, Me.putObj CM (Nat.le_of_lt (Nat.lt_of_le_of_lt hwle24 hlo)) (fun o3 h3 => by rw [KO.same l o hLo hoc] at h3; cases h3; exact hoc) o2⟩⟩
 rintro l D o W a41 hD hL ⟨bv, M41⟩ hnc hdd F41
 have CM : CellsA W [(0, bytR m.l5 V.v5), (1, bytR m.l6 V.v6), (2, bytR m.l7 V.v7), (3, bytR m.l8 V.v8), (4, bytR m.l9 V.v9), (5, blkR g2 29 (msgA m V)), (6, ownR (encN m 12) bv), (7, blkR g18 22 (#[bv])), (8, blkR g23 29 (msgA m V))] := ⟨z5 (M41.at_ 0 _ rfl), z5 (M41.at_ 1 _ rfl), z5 (M41.at_ 2 _ rfl), z5 (M41.at_ 3 _ rfl), z5 (M41.at_ 4 _ rfl), zha (M41.at_ 5 _ rfl), cells_ownR (M41.at_ 6 _ rfl), zha (M41.at_ 7 _ rfl), zha (M41.at_ 8 _ rfl), trivial⟩
 replace M41 := M41.putObj CM (by omega) hnc o
 clear CM
 have CM : CellsA (W.putObj l o) [(0, bytR m.l5 V.v5), (1, bytR m.l6 V.v6), (2, bytR m.l7 V.v7), (3, bytR m.l8 V.v8), (4, bytR m.l9 V.v9), (5, blkR g2 29 (msgA m V)), (6, ownR (encN m 12) bv), (7, blkR g18 22 (#[bv])), (8, blkR g23 29 (msgA m V))] := ⟨z5 (M41.at_ 0 _ rfl), z5 (M41.at_ 1 _ rfl), z5 (M41.at_ 2 _ rfl), z5 (M41.at_ 3 _ rfl), z5 (M41.at_ 4 _ rfl), zha (M41.at_ 5 _ rfl), cells_ownR (M41.at_ 6 _ rfl), zha (M41.at_ 7 _ rfl), zha (M41.at_ 8 _ rfl), trivial⟩
 replace M41 := M41.obj CM 11 D _ hdd rfl
 clear CM
 have hDge : w.heap.size ≤ D := by omega
 clear hdd hnc hL hD
 obtain ⟨w41, hw41⟩ : ∃ x, x = W.putObj l o := ⟨_, rfl⟩
 rw [← hw41] at M41 ⊢
 clear hw41
 have hN2 : N ≤ 1467 := hN ▸ encN_len (hcl rfl) 12
 refine hK20 _ _ (zS fun _ hK42 => ?_)
 refine zR ?_
 refine rn rfl rfl F41 rfl (bv) (y_ld1 _ _ rfl (F41.get rfl) (M41.blk (k := 7) rfl) rfl Try.underlying22 rfl) fun _ F43 => ?_
 refine rn rfl rfl F43 rfl (.int .i64 (N : Int)) (z9 _ rfl (F43.get rfl) (M41.isO (k := 6) rfl) (by rw [hN])) fun _ F44 => ?_
 refine rn rfl rfl F44 rfl (.int .i64 ((N : Int) - 2)) (y_subI _ _ _ _ rfl (F44.get rfl) rfl rfl (by omega)) fun _ F45 => ?_
 refine rm rfl F45 fun _ F46 => ?_
 refine hK42 _ _ (zS fun _ hK47 => ?_)
 refine zT fun _ hK48 => ?_
 refine rm rfl F46 fun _ F49 => ?_
 by_cases h50 : 200 < ((N : Int) - 2)
 ·refine rn rfl rfl F49 rfl (.bool true) (zya _ _ _ _ rfl (F49.get rfl) rfl (decide_eq_true h50)) fun _ F51 => ?_
  refine hK48 _ _ (wp_cond_true (F51.get rfl) ?_)
  refine zT fun _ hK52 => ?_
  refine rm rfl F51 fun _ F53 => ?_
  refine rm rfl F53 fun _ F54 => ?_
  refine hK52 _ _ (wp_ret ?_)
  try simp only [Exit.then, Exit.inBlock, Exit.jump]
  have hDD := M41.anObj (i := 11) rfl
  have Mz := (M41.sub (R' := []) trivial).putObj trivial hDge (fun o3 h3 => by rw [hDD] at h3; cases h3; rfl) (.deferred none)
  exact zfc F54.defers hDD (res2 rfl (F54.get (t := 2) rfl) (F54.get (t := 3) rfl)) ⟨zN, (by rw [show z4a m = false from by rw [z4a, hR, hN]; simp; omega]), (by rw [show encL m = _ from if_neg (by rw [z4a, hR, hN]; simp; omega)]; exact Byt.nil _ _), Mz.below⟩
 refine rn rfl rfl F49 rfl (.bool false) (zya _ _ _ _ rfl (F49.get rfl) rfl (decide_eq_false h50)) fun _ F55 => ?_
 refine hK48 _ _ (wp_cond_false (F55.get rfl) ?_)
 refine wp_skip ?_
 refine hK47 _ _ (zS fun _ hK56 => ?_)
 refine z1b F55 [fun vE => vE = bv, fun vE => vE = bv, fun vE => vE = .int .i64 ((N : Int) - 2), fun vE => vE = .int .i64 0, fun vE => vE = .int .u8 0, fun vE => vE = .int .i64 ((N : Int) - 2), fun vE => vE = .int .u8 (((zx ((N : Int) - 2)).toNat : Nat) : Int), fun vE => vE = (ixV (bv) 0), fun vE => vE = undef] (JM none w fun SV pV => [(11, objR D (.deferred (some []))), (0, bytR m.l5 V.v5), (1, bytR m.l6 V.v6), (2, bytR m.l7 V.v7), (3, bytR m.l8 V.v8), (4, bytR m.l9 V.v9), (5, blkR g2 29 (msgA m V)), (6, eitherR (SV 8) (ownR ((encN m 12).set 0 0) bv) (ownR (encN m 12) bv)), (7, blkR g18 22 (#[bv])), (8, blkR g23 29 (msgA m V))]) 9 rfl (by kernel_rfl) rfl ⟨trivial, trivial, trivial, trivial, trivial, trivial, trivial, trivial, fun _ => Iff.rfl, trivial⟩ (fun p => (M41.step (zib _)).sub ⟨rfl, rfl, rfl, rfl, rfl, rfl, rfl, rfl, rfl, rfl, trivial⟩) ⟨?_, ?_, ?_, ?_, ?_, ?_, ?_, ?_, ?_, trivial⟩ ?_
 ·intro ua uw SV pV M0 hk hn hd
  have M : Mx none w uw _ := M0
  clear M0
  have e4 : ua.eval (.tmp 4) = .pointer (some ⟨g18, 0, none⟩) := (show ua.eval (.tmp 4) = _ from hd 4 (by decide)).trans (F55.get (t := 4) rfl)
  exact zl (za rfl) (bv) (y_ld1 _ _ rfl e4 (M.blk (k := 7) rfl) rfl Try.underlying22 rfl) rfl (M.sub ⟨rfl, rfl, rfl, rfl, rfl, rfl, rfl, rfl, rfl, rfl, trivial⟩)
 ·intro ua uw SV pV M0 hk hn hd
  have M : Mx none w uw _ := M0
  clear M0
  have e4 : ua.eval (.tmp 4) = .pointer (some ⟨g18, 0, none⟩) := (show ua.eval (.tmp 4) = _ from hd 4 (by decide)).trans (F55.get (t := 4) rfl)
  exact zl (za rfl) (bv) (y_ld1 _ _ rfl e4 (M.blk (k := 7) rfl) rfl Try.underlying22 rfl) rfl (M.sub ⟨rfl, rfl, rfl, rfl, rfl, rfl, rfl, rfl, rfl, rfl, trivial⟩)
 ·intro ua uw SV pV M0 hk hn hd
  have M : Mx none w uw _ := M0
  clear M0
  have e7 : ua.eval (.tmp 7) = .int .i64 ((N : Int) - 2) := (show ua.eval (.tmp 7) = _ from hd 7 (by decide)).trans (F55.get (t := 7) rfl)
  exact zl (za rfl) (.int .i64 ((N : Int) - 2)) (zua _ (.inl rfl) e7) rfl (M.sub ⟨rfl, rfl, rfl, rfl, rfl, rfl, rfl, rfl, rfl, rfl, trivial⟩)
 ·intro ua uw SV pV M0 hk hn hd
  have M : Mx none w uw _ := M0
  clear M0
  obtain ⟨s2, f34, q34⟩ := (show SV 2 = true ∧ ua.eval (.tmp 34) = pV 2 ∧ stE _ 2 (pV 2) from hd 34 (by decide))
  have e34 : ua.eval (.tmp 34) = .int .i64 ((N : Int) - 2) := f34.trans q34
  exact zl (za rfl) (.int .i64 0) (y_shrI _ _ _ _ rfl e34 rfl (by decide) (by show ((N : Int) - 2) / 2 ^ 8 = 0; omega)) rfl (M.sub ⟨rfl, rfl, rfl, rfl, rfl, rfl, rfl, rfl, rfl, rfl, trivial⟩)
 ·intro ua uw SV pV M0 hk hn hd
  have M : Mx none w uw _ := M0
  clear M0
  obtain ⟨s3, f35, q35⟩ := (show SV 3 = true ∧ ua.eval (.tmp 35) = pV 3 ∧ stE _ 3 (pV 3) from hd 35 (by decide))
  have e35 : ua.eval (.tmp 35) = .int .i64 0 := f35.trans q35
  exact zl (za rfl) (.int .u8 0) (zxa _ _ _ rfl e35 Try.underlying3 Try.underlying5 rfl) rfl (M.sub ⟨rfl, rfl, rfl, rfl, rfl, rfl, rfl, rfl, rfl, rfl, trivial⟩)
 ·intro ua uw SV pV M0 hk hn hd
  have M : Mx none w uw _ := M0
  clear M0
  have e7 : ua.eval (.tmp 7) = .int .i64 ((N : Int) - 2) := (show ua.eval (.tmp 7) = _ from hd 7 (by decide)).trans (F55.get (t := 7) rfl)
  exact zl (za rfl) (.int .i64 ((N : Int) - 2)) (zua _ (.inl rfl) e7) rfl (M.sub ⟨rfl, rfl, rfl, rfl, rfl, rfl, rfl, rfl, rfl, rfl, trivial⟩)
 ·intro ua uw SV pV M0 hk hn hd
  have M : Mx none w uw _ := M0
  clear M0
  obtain ⟨s5, f37, q37⟩ := (show SV 5 = true ∧ ua.eval (.tmp 37) = pV 5 ∧ stE _ 5 (pV 5) from hd 37 (by decide))
  have e37 : ua.eval (.tmp 37) = .int .i64 ((N : Int) - 2) := f37.trans q37
  exact zl (za rfl) (.int .u8 (((zx ((N : Int) - 2)).toNat : Nat) : Int)) (zxa _ _ _ rfl e37 Try.underlying3 Try.underlying5 (z3a _)) rfl (M.sub ⟨rfl, rfl, rfl, rfl, rfl, rfl, rfl, rfl, rfl, rfl, trivial⟩)
 ·intro ua uw SV pV M0 hk hn hd
  have M : Mx none w uw _ := M0
  clear M0
  obtain ⟨s0, f32, q32⟩ := (show SV 0 = true ∧ ua.eval (.tmp 32) = pV 0 ∧ stE _ 0 (pV 0) from hd 32 (by decide))
  have e32 : ua.eval (.tmp 32) = bv := f32.trans q32
  exact zl (za rfl) ((ixV (bv) 0)) (zgb _ _ rfl e32 (M.isO (k := 6) (eitherR_r (hn 8 (by kernel_rfl)) rfl)) rfl rfl (by first | omega | (simp only [List.length_set]; omega))) rfl (M.sub ⟨rfl, rfl, rfl, rfl, rfl, rfl, rfl, rfl, rfl, rfl, trivial⟩)
 ·intro ua uw SV pV M0 hk hn hd
  have M : Mx none w uw _ := M0
  clear M0
  obtain ⟨s7, f39, q39⟩ := (show SV 7 = true ∧ ua.eval (.tmp 39) = pV 7 ∧ stE _ 7 (pV 7) from hd 39 (by decide))
  have e39 : ua.eval (.tmp 39) = (ixV (bv) 0) := f39.trans q39
  obtain ⟨s4, f36, q36⟩ := (show SV 4 = true ∧ ua.eval (.tmp 36) = pV 4 ∧ stE _ 4 (pV 4) from hd 36 (by decide))
  have e36 : ua.eval (.tmp 36) = .int .u8 0 := f36.trans q36
  exact hopM_doM (za rfl) rfl (run_setO M (k := 6) (eitherR_r hk rfl) _ _ rfl e39 0 e36 rfl (by first | omega | (simp only [List.length_set]; omega))) (fun w2 h2 => h2.sub ⟨rfl, rfl, rfl, rfl, rfl, rfl, rfl, rfl, rfl, rfl, trivial⟩) rfl
 intro p57 a57 w57 M57 G57 y57
 obtain ⟨-, q1, -, -, -, -, q6, -, -, -⟩ := y57
 have r1 : p57 1 = bv := q1
 have r6 : p57 6 = .int .u8 (((zx ((N : Int) - 2)).toNat : Nat) : Int) := q6
 replace M57 : Mx _ _ w57 [(11, objR D (.deferred (some []))), (0, bytR m.l5 V.v5), (1, bytR m.l6 V.v6), (2, bytR m.l7 V.v7), (3, bytR m.l8 V.v8), (4, bytR m.l9 V.v9), (5, blkR g2 29 (msgA m V)), (6, eitherR true (ownR ((encN m 12).set 0 0) bv) (ownR (encN m 12) bv)), (7, blkR g18 22 (#[bv])), (8, blkR g23 29 (msgA m V))] := M57
 simp only [List.take, layV, Nat.zero_add, Nat.reduceAdd, r1, r6] at G57
 refine rn rfl rfl G57 rfl ((ixV (bv) 1)) (zgb _ _ rfl (G57.get rfl) (M57.isO (k := 6) rfl) rfl rfl (by first | omega | (simp only [List.length_set]; omega))) fun _ F58 => ?_
 refine wl_doM (za rfl) rfl F58 (run_setO M57 (k := 6) rfl _ _ rfl (F58.get rfl) (zx ((N : Int) - 2)) (F58.get rfl) rfl (by first | omega | (simp only [List.length_set]; omega))) ?_
 intro w59 M59
 clear M57
 refine hK56 _ _ (zS fun _ hK60 => ?_)
 refine zR ?_
 refine zB 3 [(2, bv), (3, .bool true)] [0] (zj (M59.blk (k := 7) rfl) dnil) [g18] F58 fun _ F61 => ?_
 refine hK60 _ _ (wp_ret ?_)
 try simp only [Exit.then, Exit.inBlock, Exit.jump]
 have hDD := M59.anObj (i := 11) rfl
 have Mz : Mx none w _ [(6, ownR (((encN m 12).set 0 0).set 1 (zx ((N : Int) - 2))) bv)] := (M59.sub (R' := [(6, ownR (((encN m 12).set 0 0).set 1 (zx ((N : Int) - 2))) bv)]) ⟨rfl, trivial⟩).putObj ⟨cells_ownR (M59.at_ 6 _ rfl), trivial⟩ hDge (fun o3 h3 => by rw [hDD] at h3; cases h3; rfl) (.deferred none)
 exact zfc F61.defers hDD (res2 rfl (F61.get (t := 2) rfl) (F61.get (t := 3) rfl)) ⟨bv, (by rw [show z4a m = true from by rw [z4a, hR, hN]; simp; omega]), (by rw [show encL m = _ from if_pos (by rw [z4a, hR, hN]; simp; omega), encF, hN]; exact Mz.byt (k := 6) rfl), Mz.below⟩
end Go.Proofs.Ytlbkogdmojlpmaa
namespace Go.Proofs.Ytlbkogdmojlpmaa
open Go.ChangeShapes Go.WideShapes Go.ChangeAt Go.RowKit
theorem or_i64 (p c : Nat) (h1 : p < 36028797018963968) (h3 : c < 256) : bits .or .i64 ((p : Int) * 256) (c : Int) = ((p * 256 + c : Nat) : Int) := by
  rw [show (p : Int) * 256 = ((p * 256 : Nat) : Int) by omega, (bits_nat .i64 63 (by decide) (fun n h0 h1 => Go.IntWalk.i64_in n (by omega)) (p * 256) c (by omega) (by omega)).2, nat_join 8 (p * 256) c (by omega) (by omega)]
theorem shl8 {p : Nat} (h : p < 36028797018963968) : IntKind.i64.wrap (((p : Nat) : Int) * 2 ^ (8 : Int).toNat) = ((p : Nat) : Int) * 256 := by
  rw [show (2 : Int) ^ (8 : Int).toNat = 256 from rfl, IntKind.wrap_i64]; omega
theorem readN_next {l : List UInt8} {j : Nat} {y : UInt8} (h : l[j]? = some y) : zi (l.take (j + 1)) = zi (l.take j) * 256 + y.toNat := by
  rw [List.take_add_one, h]; exact readN_snoc _ _
theorem eight_lt {l : List UInt8} {x : UInt8} (hl : l.length = 8) (h0 : l[0]? = some x) : zi l < 9223372036854775808 ↔ ¬ 127 < ((x.toNat : Nat) : Int) := by
  cases l with
  | nil => cases h0
  | cons y r =>
    cases h0
    have hr : r.length = 7 := by simpa using hl
    have h1 := zec r
    rw [hr] at h1
    rw [readN_cons, hr]
    have e : (256 : Nat) ^ 7 = 72057594037927936 := by decide
    rw [e] at h1 ⊢
    omega
theorem pre_lt {l : List UInt8} (h : l.length < 8 ∨ (l.length = 8 ∧ ∃ x, l[0]? = some x ∧ ¬ 127 < ((x.toNat : Nat) : Int))) (j : Nat) (hj : j < l.length) : zi (l.take j) < 36028797018963968 := by
  have h1 := zec (l.take j)
  rw [List.length_take, Nat.min_eq_left (Nat.le_of_lt hj)] at h1
  have e6 : (256 : Nat) ^ 6 = 281474976710656 := by decide
  rcases h with h | ⟨h, x, hx, hb⟩
  · have : (256 : Nat) ^ j ≤ 256 ^ 6 := Nat.pow_le_pow_right (by omega) (by omega)
    omega
  · by_cases hj7 : j < 7
    · have : (256 : Nat) ^ j ≤ 256 ^ 6 := Nat.pow_le_pow_right (by omega) (by omega)
      omega
    · obtain rfl : j = 7 := by omega
      cases l with
      | nil => cases hx
      | cons y r =>
        cases hx
        have hr : (r.take 6).length = 6 := by simp at h ⊢; omega
        have h2 := zec (r.take 6)
        rw [hr, e6] at h2
        rw [List.take_succ_cons, readN_cons, hr, e6]
        omega
theorem number_long (l : List UInt8) (v : Value) (hl : 8 < l.length) (hm : l.length ≤ 100000) (w : World) (hv : IsB w l v) :
  Calls Try.prog 81 #[v] w fun e w' => e = .returned (.tuple #[.int .i64 0, .bool false]) ∧ Below w.heap.size w w' := by
 refine zg (args := [v]) 34 Try.func81 rfl rfl rfl ?_
 intro fa F
 have M := Mx.start w
 replace M := M.argB 0 hv (fun g e => by cases e)
 refine zT fun _ hK1 => ?_
 refine rm rfl F fun _ F2 => ?_
 refine rm rfl F2 fun _ F3 => ?_
 refine hK1 _ _ (zS fun _ hK4 => ?_)
 refine zT fun _ hK5 => ?_
 refine rm rfl F3 fun _ F6 => ?_
 refine rn rfl rfl F6 rfl (.int .i64 (l.length : Int)) (z9 _ rfl (F6.get rfl) (M.isb (k := 0) rfl) rfl) fun _ F7 => ?_
 refine rn rfl rfl F7 rfl (.bool true) (zya _ _ _ _ rfl (F7.get rfl) rfl (decide_eq_true (by omega))) fun _ F8 => ?_
 refine zB 11 [(0, v), (2, .int .i64 0), (3, .bool false), (20, .bool true)] [] dnil [] F8 fun _ F9 => ?_
 refine hK5 _ _ (wp_cond_true (F9.get rfl) ?_)
 refine zT fun _ hK10 => ?_
 refine rm rfl F9 fun _ F11 => ?_
 refine rm rfl F11 fun _ F12 => ?_
 refine hK10 _ _ (wp_ret ?_)
 try simp only [Exit.then, Exit.inBlock, Exit.jump]
 exact bodyPost_ret (res2 rfl (F12.get rfl) (F12.get rfl)) F12.defers ⟨rfl, M.below⟩
theorem number_big (l : List UInt8) (v : Value) (xb : UInt8) (hl : l.length = 8) (h0 : l[0]? = some xb) (hx : 127 < ((xb.toNat : Nat) : Int)) (w : World) (hv : IsB w l v) :
  Calls Try.prog 81 #[v] w fun e w' => e = .returned (.tuple #[.int .i64 0, .bool false]) ∧ Below w.heap.size w w' := by
 refine zg (args := [v]) 34 Try.func81 rfl rfl rfl ?_
 intro fa F
 have M := Mx.start w
 replace M := M.argB 0 hv (fun g e => by cases e)
 refine zT fun _ hK1 => ?_
 refine rm rfl F fun _ F2 => ?_
 refine rm rfl F2 fun _ F3 => ?_
 refine hK1 _ _ (zS fun _ hK4 => ?_)
 refine zT fun _ hK5 => ?_
 refine rm rfl F3 fun _ F6 => ?_
 refine rn rfl rfl F6 rfl (.int .i64 (l.length : Int)) (z9 _ rfl (F6.get rfl) (M.isb (k := 0) rfl) rfl) fun _ F7 => ?_
 refine rn rfl rfl F7 rfl (.bool false) (zya _ _ _ _ rfl (F7.get rfl) rfl (decide_eq_false (by omega))) fun _ F8 => ?_
 refine rm rfl F8 fun _ F9 => ?_
 refine rm rfl F9 fun _ F10 => ?_
 refine ze (w' := w) (zb rfl rfl rfl (F10.get rfl)) rfl F10 rfl (.int .i64 (l.length : Int)) (z9 _ rfl (F10.get rfl) (M.isb (k := 0) rfl) rfl) fun _ F11 => ?_
 refine ze (w' := w) (zb rfl rfl rfl (F11.get rfl)) rfl F11 rfl (.bool true) (zq _ _ _ _ rfl (F11.get rfl) rfl Try.underlying3 (zka (by omega))) fun _ F12 => ?_
 refine rm rfl F12 fun _ F13 => ?_
 refine rm rfl F13 fun _ F14 => ?_
 refine ze (w' := w) (zb rfl rfl rfl (F14.get rfl)) rfl F14 rfl ((ixV (v) 0)) (zgb _ _ rfl (F14.get rfl) (M.isb (k := 0) rfl) rfl rfl (by omega)) fun _ F15 => ?_
 refine ze (w' := w) (zb rfl rfl rfl (F15.get rfl)) rfl F15 rfl (.int .u8 ((xb.toNat : Nat) : Int)) (zvb _ rfl (F15.get rfl) (M.isb (k := 0) rfl) h0 rfl) fun _ F16 => ?_
 refine ze (w' := w) (zb rfl rfl rfl (F16.get rfl)) rfl F16 rfl (.bool true) (zya _ _ _ _ rfl (F16.get rfl) rfl (decide_eq_true hx)) fun _ F17 => ?_
 refine zB 2 [(0, v), (2, .int .i64 0), (3, .bool false), (20, .bool true)] [] dnil [] F17 fun _ F18 => ?_
 refine hK5 _ _ (wp_cond_true (F18.get rfl) ?_)
 refine zT fun _ hK19 => ?_
 refine rm rfl F18 fun _ F20 => ?_
 refine rm rfl F20 fun _ F21 => ?_
 refine hK19 _ _ (wp_ret ?_)
 try simp only [Exit.then, Exit.inBlock, Exit.jump]
 exact bodyPost_ret (res2 rfl (F21.get rfl) (F21.get rfl)) F21.defers ⟨rfl, M.below⟩
theorem number_short (l : List UInt8) (v : Value) (hl : l.length < 8) (w : World) (hv : IsB w l v) :
  Calls Try.prog 81 #[v] w fun e w' => e = .returned (.tuple #[.int .i64 ((zi l : Nat) : Int), .bool true]) ∧ Below w.heap.size w w' := by
 have hpre := pre_lt (.inl hl)
 refine zg (args := [v]) 34 Try.func81 rfl rfl rfl ?_
 intro fa F
 have M := Mx.start w
 replace M := M.argB 0 hv (fun g e => by cases e)
 refine zT fun _ hK1 => ?_
 refine rm rfl F fun _ F2 => ?_
 refine rm rfl F2 fun _ F3 => ?_
 refine hK1 _ _ (zS fun _ hK4 => ?_)
 refine zT fun _ hK5 => ?_
 refine rm rfl F3 fun _ F6 => ?_
 refine rn rfl rfl F6 rfl (.int .i64 (l.length : Int)) (z9 _ rfl (F6.get rfl) (M.isb (k := 0) rfl) rfl) fun _ F7 => ?_
 refine rn rfl rfl F7 rfl (.bool false) (zya _ _ _ _ rfl (F7.get rfl) rfl (decide_eq_false (by omega))) fun _ F8 => ?_
 refine rm rfl F8 fun _ F9 => ?_
 refine rm rfl F9 fun _ F10 => ?_
 refine ze (w' := w) (zb rfl rfl rfl (F10.get rfl)) rfl F10 rfl (.int .i64 (l.length : Int)) (z9 _ rfl (F10.get rfl) (M.isb (k := 0) rfl) rfl) fun _ F11 => ?_
 refine ze (w' := w) (zb rfl rfl rfl (F11.get rfl)) rfl F11 rfl (.bool false) (zq _ _ _ _ rfl (F11.get rfl) rfl Try.underlying3 (zr (by omega))) fun _ F12 => ?_
 refine zB 7 [(0, v), (2, .int .i64 0), (3, .bool false), (20, .bool false)] [] dnil [] F12 fun _ F13 => ?_
 refine hK5 _ _ (wp_cond_false (F13.get rfl) ?_)
 refine wp_skip ?_
 refine hK4 _ _ (zS fun _ hK14 => ?_)
 refine zR ?_
 refine rm rfl F13 fun _ F15 => ?_
 refine hK14 _ _ (zS fun _ hK16 => ?_)
 refine zT fun _ hK17 => ?_
 refine rm rfl F15 fun _ F18 => ?_
 refine rn rfl rfl F18 rfl (.int .i64 (l.length : Int)) (z9 _ rfl (F18.get rfl) (M.isb (k := 0) rfl) rfl) fun _ F19 => ?_
 refine rm rfl F19 fun _ F20 => ?_
 refine hK17 _ _ (wp_block ?_)
 refine zzb (α := Nat) (n := 34) (G := none) (w0 := w) (fun x => [(0, v), (2, .int .i64 0), (3, .bool false), (20, .bool false), (21, v), (22, .int .i64 (l.length : Int)), (23, .int .i64 (x : Int)), (4, .int .i64 ((zi (l.take x) : Nat) : Int))]) (fun x => [(0, bytR l v)]) (fun k x => k = l.length - x ∧ (x ≤ l.length)) _ 0 ⟨rfl, (Nat.zero_le _)⟩ (F20.sub ⟨rfl, rfl, rfl, rfl, rfl, rfl, rfl, (by rw [List.take_zero]; rfl), trivial⟩) (M.sub ⟨rfl, trivial⟩) ?_
 clear F20 M
 rintro k21 jn a21 w21 K21 ⟨ek21, I21⟩ F21 M21 hK21
 replace F21 : Fx 34 a21 [(0, v), (2, .int .i64 0), (3, .bool false), (20, .bool false), (21, v), (22, .int .i64 (l.length : Int)), (23, .int .i64 (jn : Int)), (4, .int .i64 ((zi (l.take jn) : Nat) : Int))] := F21
 replace M21 : Mx _ _ w21 [(0, bytR l v)] := M21
 replace I21 : jn ≤ l.length := I21
 replace ek21 : k21 = l.length - jn := ek21
 by_cases hlt : jn < l.length
 rotate_left
 ·obtain rfl : jn = l.length := by omega
  refine zT fun _ hK38 => ?_
  refine rn rfl rfl F21 rfl (.bool false) (zoa _ _ _ _ rfl (F21.get rfl) (F21.get rfl) (decide_eq_false (Int.lt_irrefl _))) fun _ F39 => ?_
  refine hK38 _ _ (zS fun _ hK40 => ?_)
  refine wp_cond_false (F39.get (t := 24) rfl) ?_
  refine wp_exit ?_
  simp only [Exit.then, Exit.inBlock, ↓reduceIte, Nat.reduceEqDiff]
  refine hK16 _ _ (zS fun _ hK41 => ?_)
  refine zR ?_
  refine rm rfl F39 fun _ F42 => ?_
  refine rm rfl F42 fun _ F43 => ?_
  refine rm rfl F43 fun _ F44 => ?_
  refine hK41 _ _ (wp_ret ?_)
  try simp only [Exit.then, Exit.inBlock, Exit.jump]
  exact bodyPost_ret (res2 rfl (F44.get rfl) (F44.get rfl)) F44.defers ⟨by rw [List.take_length], M21.below⟩
 obtain ⟨y, hy⟩ : ∃ y, l[jn]? = some y := ⟨_, List.getElem?_eq_getElem hlt⟩
 have hsn := readN_next hy
 have hpb := hpre jn hlt
 have hyb := y.toNat_lt
 refine zT fun _ hK22 => ?_
 refine rn rfl rfl F21 rfl (.bool true) (zoa _ _ _ _ rfl (F21.get rfl) (F21.get rfl) (decide_eq_true (show (jn : Int) < (l.length : Int) by omega))) fun _ F23 => ?_
 refine hK22 _ _ (zS fun _ hK24 => ?_)
 refine wp_cond_true (F23.get (t := 24) rfl) ?_
 refine wp_skip ?_
 refine hK24 _ _ (zS fun _ hK25 => ?_)
 refine wp_block ?_
 refine zT fun K26 hK26 => ?_
 refine rn rfl rfl F23 rfl ((ixV (v) jn)) (zgb _ _ rfl (F23.get rfl) (M21.isb (k := 0) rfl) (F23.get rfl) rfl hlt) fun _ F27 => ?_
 refine rn rfl rfl F27 rfl (.int .u8 ((y.toNat : Nat) : Int)) (zvb _ rfl (F27.get rfl) (M21.isb (k := 0) rfl) hy rfl) fun _ F28 => ?_
 refine rm rfl F28 fun _ F29 => ?_
 refine hK26 _ _ (zR ?_)
 refine rm rfl F29 fun _ F30 => ?_
 refine rn rfl rfl F30 rfl (.int .i64 (((zi (l.take jn) : Nat) : Int) * 256)) (y_shlI _ _ _ _ rfl (F30.get rfl) rfl (by decide) (shl8 hpb)) fun _ F31 => ?_
 refine rm rfl F31 fun _ F32 => ?_
 refine rn rfl rfl F32 rfl (.int .i64 ((y.toNat : Nat) : Int)) (zxa _ _ _ rfl (F32.get rfl) Try.underlying5 Try.underlying3 (zta _)) fun _ F33 => ?_
 refine rn rfl rfl F33 rfl (.int .i64 ((zi (l.take (jn + 1)) : Nat) : Int)) (y_orU _ _ _ _ rfl (F33.get rfl) (F33.get rfl) (by rw [or_i64 _ _ hpb hyb, hsn])) fun _ F34 => ?_
 refine rm rfl F34 fun _ F35 => ?_
 refine hK25 _ _ (zR ?_)
 refine rn rfl rfl F35 rfl (.int .i64 ((jn + 1 : Nat) : Int)) (zz _ _ _ _ rfl (F35.get rfl) rfl (by omega) (by omega)) fun _ F36 => ?_
 refine rm rfl F36 fun _ F37 => ?_
 subst ek21
 exact hK21 _ (jn + 1) _ _ (by omega) ⟨rfl, (by omega)⟩ (F37.sub ⟨rfl, rfl, rfl, rfl, rfl, rfl, rfl, rfl, trivial⟩) (M21.sub ⟨rfl, trivial⟩)
theorem number_eight (l : List UInt8) (v : Value) (xb : UInt8) (hl : l.length = 8) (h0 : l[0]? = some xb) (hx : ¬ 127 < ((xb.toNat : Nat) : Int)) (w : World) (hv : IsB w l v) :
  Calls Try.prog 81 #[v] w fun e w' => e = .returned (.tuple #[.int .i64 ((zi l : Nat) : Int), .bool true]) ∧ Below w.heap.size w w' := by
 have hpre := pre_lt (.inr ⟨hl, xb, h0, hx⟩)
 refine zg (args := [v]) 34 Try.func81 rfl rfl rfl ?_
 intro fa F
 have M := Mx.start w
 replace M := M.argB 0 hv (fun g e => by cases e)
 refine zT fun _ hK1 => ?_
 refine rm rfl F fun _ F2 => ?_
 refine rm rfl F2 fun _ F3 => ?_
 refine hK1 _ _ (zS fun _ hK4 => ?_)
 refine zT fun _ hK5 => ?_
 refine rm rfl F3 fun _ F6 => ?_
 refine rn rfl rfl F6 rfl (.int .i64 (l.length : Int)) (z9 _ rfl (F6.get rfl) (M.isb (k := 0) rfl) rfl) fun _ F7 => ?_
 refine rn rfl rfl F7 rfl (.bool false) (zya _ _ _ _ rfl (F7.get rfl) rfl (decide_eq_false (by omega))) fun _ F8 => ?_
 refine rm rfl F8 fun _ F9 => ?_
 refine rm rfl F9 fun _ F10 => ?_
 refine ze (w' := w) (zb rfl rfl rfl (F10.get rfl)) rfl F10 rfl (.int .i64 (l.length : Int)) (z9 _ rfl (F10.get rfl) (M.isb (k := 0) rfl) rfl) fun _ F11 => ?_
 refine ze (w' := w) (zb rfl rfl rfl (F11.get rfl)) rfl F11 rfl (.bool true) (zq _ _ _ _ rfl (F11.get rfl) rfl Try.underlying3 (zka (by omega))) fun _ F12 => ?_
 refine rm rfl F12 fun _ F13 => ?_
 refine rm rfl F13 fun _ F14 => ?_
 refine ze (w' := w) (zb rfl rfl rfl (F14.get rfl)) rfl F14 rfl ((ixV (v) 0)) (zgb _ _ rfl (F14.get rfl) (M.isb (k := 0) rfl) rfl rfl (by omega)) fun _ F15 => ?_
 refine ze (w' := w) (zb rfl rfl rfl (F15.get rfl)) rfl F15 rfl (.int .u8 ((xb.toNat : Nat) : Int)) (zvb _ rfl (F15.get rfl) (M.isb (k := 0) rfl) h0 rfl) fun _ F16 => ?_
 refine ze (w' := w) (zb rfl rfl rfl (F16.get rfl)) rfl F16 rfl (.bool false) (zya _ _ _ _ rfl (F16.get rfl) rfl (decide_eq_false hx)) fun _ F17 => ?_
 refine zB 2 [(0, v), (2, .int .i64 0), (3, .bool false), (20, .bool false)] [] dnil [] F17 fun _ F18 => ?_
 refine hK5 _ _ (wp_cond_false (F18.get rfl) ?_)
 refine wp_skip ?_
 refine hK4 _ _ (zS fun _ hK19 => ?_)
 refine zR ?_
 refine rm rfl F18 fun _ F20 => ?_
 refine hK19 _ _ (zS fun K21 hK21 => ?_)
 refine zT fun _ hK22 => ?_
 refine rm rfl F20 fun _ F23 => ?_
 refine rn rfl rfl F23 rfl (.int .i64 (l.length : Int)) (z9 _ rfl (F23.get rfl) (M.isb (k := 0) rfl) rfl) fun _ F24 => ?_
 refine rm rfl F24 fun _ F25 => ?_
 refine hK22 _ _ (wp_block ?_)
 refine zzb (α := Nat) (n := 34) (G := none) (w0 := w) (fun x => [(0, v), (2, .int .i64 0), (3, .bool false), (20, .bool false), (21, v), (22, .int .i64 (l.length : Int)), (23, .int .i64 (x : Int)), (4, .int .i64 ((zi (l.take x) : Nat) : Int))]) (fun x => [(0, bytR l v)]) (fun k x => k = l.length - x ∧ (x ≤ l.length)) _ 0 ⟨rfl, (Nat.zero_le _)⟩ (F25.sub ⟨rfl, rfl, rfl, rfl, rfl, rfl, rfl, (by rw [List.take_zero]; rfl), trivial⟩) (M.sub ⟨rfl, trivial⟩) ?_
 clear F25 M
 rintro k26 jn a26 w26 K26 ⟨ek26, I26⟩ F26 M26 hK26
 replace F26 : Fx 34 a26 [(0, v), (2, .int .i64 0), (3, .bool false), (20, .bool false), (21, v), (22, .int .i64 (l.length : Int)), (23, .int .i64 (jn : Int)), (4, .int .i64 ((zi (l.take jn) : Nat) : Int))] := F26
 replace M26 : Mx _ _ w26 [(0, bytR l v)] := M26
 replace I26 : jn ≤ l.length := I26
 replace ek26 : k26 = l.length - jn := ek26
 by_cases hlt : jn < l.length
 rotate_left
 ·obtain rfl : jn = l.length := by omega
  refine zT fun _ hK43 => ?_
  refine rn rfl rfl F26 rfl (.bool false) (zoa _ _ _ _ rfl (F26.get rfl) (F26.get rfl) (decide_eq_false (Int.lt_irrefl _))) fun _ F44 => ?_
  refine hK43 _ _ (zS fun _ hK45 => ?_)
  refine wp_cond_false (F44.get (t := 24) rfl) ?_
  refine wp_exit ?_
  simp only [Exit.then, Exit.inBlock, ↓reduceIte, Nat.reduceEqDiff]
  refine hK21 _ _ (zS fun _ hK46 => ?_)
  refine zR ?_
  refine rm rfl F44 fun _ F47 => ?_
  refine rm rfl F47 fun _ F48 => ?_
  refine rm rfl F48 fun _ F49 => ?_
  refine hK46 _ _ (wp_ret ?_)
  try simp only [Exit.then, Exit.inBlock, Exit.jump]
  exact bodyPost_ret (res2 rfl (F49.get rfl) (F49.get rfl)) F49.defers ⟨by rw [List.take_length], M26.below⟩
 obtain ⟨y, hy⟩ : ∃ y, l[jn]? = some y := ⟨_, List.getElem?_eq_getElem hlt⟩
 have hsn := readN_next hy
 have hpb := hpre jn hlt
 have hyb := y.toNat_lt
 refine zT fun _ hK27 => ?_
 refine rn rfl rfl F26 rfl (.bool true) (zoa _ _ _ _ rfl (F26.get rfl) (F26.get rfl) (decide_eq_true (show (jn : Int) < (l.length : Int) by omega))) fun _ F28 => ?_
 refine hK27 _ _ (zS fun _ hK29 => ?_)
 refine wp_cond_true (F28.get (t := 24) rfl) ?_
 refine wp_skip ?_
 refine hK29 _ _ (zS fun _ hK30 => ?_)
 refine wp_block ?_
 refine zT fun _ hK31 => ?_
 refine rn rfl rfl F28 rfl ((ixV (v) jn)) (zgb _ _ rfl (F28.get rfl) (M26.isb (k := 0) rfl) (F28.get rfl) rfl hlt) fun _ F32 => ?_
 refine rn rfl rfl F32 rfl (.int .u8 ((y.toNat : Nat) : Int)) (zvb _ rfl (F32.get rfl) (M26.isb (k := 0) rfl) hy rfl) fun _ F33 => ?_
 refine rm rfl F33 fun _ F34 => ?_
 refine hK31 _ _ (zR ?_)
 refine rm rfl F34 fun _ F35 => ?_
 refine rn rfl rfl F35 rfl (.int .i64 (((zi (l.take jn) : Nat) : Int) * 256)) (y_shlI _ _ _ _ rfl (F35.get rfl) rfl (by decide) (shl8 hpb)) fun _ F36 => ?_
 refine rm rfl F36 fun _ F37 => ?_
 refine rn rfl rfl F37 rfl (.int .i64 ((y.toNat : Nat) : Int)) (zxa _ _ _ rfl (F37.get rfl) Try.underlying5 Try.underlying3 (zta _)) fun _ F38 => ?_
 refine rn rfl rfl F38 rfl (.int .i64 ((zi (l.take (jn + 1)) : Nat) : Int)) (y_orU _ _ _ _ rfl (F38.get rfl) (F38.get rfl) (by rw [or_i64 _ _ hpb hyb, hsn])) fun _ F39 => ?_
 refine rm rfl F39 fun _ F40 => ?_
 refine hK30 _ _ (zR ?_)
 refine rn rfl rfl F40 rfl (.int .i64 ((jn + 1 : Nat) : Int)) (zz _ _ _ _ rfl (F40.get rfl) rfl (by omega) (by omega)) fun _ F41 => ?_
 refine rm rfl F41 fun _ F42 => ?_
 subst ek26
 exact hK26 _ (jn + 1) _ _ (by omega) ⟨rfl, (by omega)⟩ (F42.sub ⟨rfl, rfl, rfl, rfl, rfl, rfl, rfl, rfl, trivial⟩) (M26.sub ⟨rfl, trivial⟩)
def numOk (l : List UInt8) : Bool := decide (l.length ≤ 8 ∧ zi l < 9223372036854775808)
def numI (l : List UInt8) : Int := if numOk l = true then ((zi l : Nat) : Int) else 0
theorem number_any (l : List UInt8) (v : Value) (hm : l.length ≤ 100000) (w : World) (hv : IsB w l v) : Calls Try.prog 81 #[v] w fun e w' => e = .returned (.tuple #[.int .i64 (numI l), .bool (numOk l)]) ∧ Below w.heap.size w w' := by
  unfold numI
  by_cases h8 : 8 < l.length
  · have : numOk l = false := decide_eq_false (by omega)
    rw [this]
    exact number_long l v h8 hm w hv
  · by_cases he : l.length = 8
    · obtain ⟨x, hx⟩ : ∃ x, l[0]? = some x := ⟨_, List.getElem?_eq_getElem (by omega)⟩
      have hb := eight_lt he hx
      by_cases hb2 : 127 < ((x.toNat : Nat) : Int)
      · have : numOk l = false := decide_eq_false (by omega)
        rw [this]
        exact number_big l v x he hx hb2 w hv
      · have : numOk l = true := decide_eq_true (by omega)
        rw [this]
        exact number_eight l v x he hx hb2 w hv
    · have h1 := zec l
      have h2 : (256 : Nat) ^ l.length ≤ 256 ^ 7 := Nat.pow_le_pow_right (by omega) (by omega)
      have h3 : (256 : Nat) ^ 7 = 72057594037927936 := by decide
      have : numOk l = true := decide_eq_true (by omega)
      rw [this]
      exact number_short l v (by omega) w hv
end Go.Proofs.Ytlbkogdmojlpmaa
namespace Go.Proofs.Ytlbkogdmojlpmaa
open Go.ChangeShapes Go.WideShapes Go.ChangeAt Go.RowKit
theorem clone_none  (w : World) :
  Calls Try.prog 80 #[zN] w fun e w' => e = .returned (zN) ∧ Below w.heap.size w w' := by
 refine zg (args := [zN]) 8 Try.func80 rfl rfl rfl ?_
 intro fa F
 have M := Mx.start w
 refine zT fun _ hK1 => ?_
 refine rm rfl F fun _ F2 => ?_
 refine hK1 _ _ (zS fun _ hK3 => ?_)
 refine zT fun _ hK4 => ?_
 refine rm rfl F2 fun _ F5 => ?_
 refine rn rfl rfl F5 rfl (.bool true) (y_nilB _ _ rfl (F5.get rfl) rfl) fun _ F6 => ?_
 refine hK4 _ _ (wp_cond_true (F6.get rfl) ?_)
 refine zT fun _ hK7 => ?_
 refine rm rfl F6 fun _ F8 => ?_
 refine hK7 _ _ (wp_ret ?_)
 try simp only [Exit.then, Exit.inBlock, Exit.jump]
 exact bodyPost_ret (res1 rfl (F8.get rfl)) F8.defers ⟨rfl, M.below⟩
theorem clone_some (l : List UInt8) (p : Addr) (c : Nat) (hm : l.length ≤ 100000) (w : World) (hv : IsB w l (.slice (some p) l.length c)) :
  Calls Try.prog 80 #[.slice (some p) l.length c] w fun e w' => ∃ v, e = .returned v ∧ Byt w' w.heap.size v l ∧ Below w.heap.size w w' := by
 refine zg (args := [.slice (some p) l.length c]) 8 Try.func80 rfl rfl rfl ?_
 intro fa F
 have M := Mx.start w
 replace M := M.argB 0 hv (fun g e => by cases e)
 refine zT fun _ hK1 => ?_
 refine rm rfl F fun _ F2 => ?_
 refine hK1 _ _ (zS fun _ hK3 => ?_)
 refine zT fun _ hK4 => ?_
 refine rm rfl F2 fun _ F5 => ?_
 refine rn rfl rfl F5 rfl (.bool false) (y_nilB _ _ rfl (F5.get rfl) rfl) fun _ F6 => ?_
 refine hK4 _ _ (wp_cond_false (F6.get rfl) ?_)
 refine wp_skip ?_
 refine hK3 _ _ (zS fun _ hK7 => ?_)
 refine zR ?_
 refine zba (za rfl) rfl F6 rfl (z0b M 1 rfl) ?_
 intro v8 a8 w8 F8 M8
 clear F6 M
 obtain ⟨A8, c8, rfl⟩ := (M8.isO (k := 1) rfl).shape
 refine rm rfl F8 fun _ F9 => ?_
 refine zba (za rfl) rfl F9 rfl (z2a M8 (k := 1) rfl _ _ rfl (F9.get rfl) (F9.get rfl) (M8.isb (k := 0) rfl) (by simp only [List.length_nil]; omega)) ?_
 intro v10 a10 w10 F10 M10
 clear F9 M8
 obtain ⟨A10, c10, rfl⟩ := (M10.isO (k := 1) rfl).shape
 refine rm rfl F10 fun _ F11 => ?_
 refine hK7 _ _ (wp_ret ?_)
 try simp only [Exit.then, Exit.inBlock, Exit.jump]
 exact bodyPost_ret (res1 rfl (F11.get rfl)) F11.defers ⟨_, rfl, (by have h := M10.byt (k := 1) rfl; rwa [List.nil_append] at h), M10.below⟩
theorem clone_any (l : List UInt8) (v : Value) (hm : l.length ≤ 100000) (w : World) (hv : IsB w l v) : Calls Try.prog 80 #[v] w fun e w' => ∃ u, e = .returned u ∧ Byt w' w.heap.size u l ∧ Below w.heap.size w w' := by
  obtain ⟨A, c, rfl, h1, h2, h3, h4⟩ := id hv
  cases A with
  | none =>
    have hc := h3 rfl
    subst hc
    have hl : l = [] := List.eq_nil_of_length_eq_zero (by omega)
    subst hl
    exact (clone_none w).mono fun e w' h => ⟨_, h.1, Byt.nil _ _, h.2⟩
  | some p => exact clone_some l p c hm w hv
theorem equal_any (l r : List UInt8) (v u : Value) (w : World) (hv : IsB w l v) (hu : IsB w r u) :
  Calls Try.prog 83 #[v, u] w fun e w' => e = .returned (.bool (decide (l = r))) ∧ Below w.heap.size w w' := by
 by_cases h : l = r
 ·refine zg (args := [v, u]) 10 Try.func83 rfl rfl rfl ?_
  intro fa F
  have M := Mx.start w
  replace M := M.argB 0 hv (fun g e => by cases e)
  replace M := M.argB 1 hu (fun g e => by cases e)
  refine zT fun _ hK1 => ?_
  refine rm rfl F fun _ F2 => ?_
  refine hK1 _ _ (zS fun _ hK3 => ?_)
  refine zR ?_
  refine rm rfl F2 fun _ F4 => ?_
  refine rn rfl rfl F4 rfl (.string (⟨(l).toArray⟩)) (y_str _ rfl (F4.get rfl) (M.isb (k := 0) rfl)) fun _ F5 => ?_
  refine rm rfl F5 fun _ F6 => ?_
  refine rn rfl rfl F6 rfl (.string (⟨(r).toArray⟩)) (y_str _ rfl (F6.get rfl) (M.isb (k := 1) rfl)) fun _ F7 => ?_
  refine rn rfl rfl F7 rfl (.bool true) (y_eqS _ _ _ rfl (F7.get rfl) (F7.get rfl) (str_eq h)) fun _ F8 => ?_
  refine rm rfl F8 fun _ F9 => ?_
  refine hK3 _ _ (wp_ret ?_)
  try simp only [Exit.then, Exit.inBlock, Exit.jump]
  exact bodyPost_ret (res1 rfl (F9.get rfl)) F9.defers ⟨by rw [decide_eq_true h], M.below⟩
 refine zg (args := [v, u]) 10 Try.func83 rfl rfl rfl ?_
 intro fa F
 have M := Mx.start w
 replace M := M.argB 0 hv (fun g e => by cases e)
 replace M := M.argB 1 hu (fun g e => by cases e)
 refine zT fun _ hK1 => ?_
 refine rm rfl F fun _ F2 => ?_
 refine hK1 _ _ (zS fun _ hK3 => ?_)
 refine zR ?_
 refine rm rfl F2 fun _ F4 => ?_
 refine rn rfl rfl F4 rfl (.string (⟨(l).toArray⟩)) (y_str _ rfl (F4.get rfl) (M.isb (k := 0) rfl)) fun _ F5 => ?_
 refine rm rfl F5 fun _ F6 => ?_
 refine rn rfl rfl F6 rfl (.string (⟨(r).toArray⟩)) (y_str _ rfl (F6.get rfl) (M.isb (k := 1) rfl)) fun _ F7 => ?_
 refine rn rfl rfl F7 rfl (.bool false) (y_eqS _ _ _ rfl (F7.get rfl) (F7.get rfl) (str_ne h)) fun _ F8 => ?_
 refine rm rfl F8 fun _ F9 => ?_
 refine hK3 _ _ (wp_ret ?_)
 try simp only [Exit.then, Exit.inBlock, Exit.jump]
 exact bodyPost_ret (res1 rfl (F9.get rfl)) F9.defers ⟨by rw [decide_eq_false h], M.below⟩
end Go.Proofs.Ytlbkogdmojlpmaa
namespace Go.Proofs.Ytlbkogdmojlpmaa
open Go.ChangeShapes Go.WideShapes Go.ChangeAt Go.RowKit
theorem y_min {a : Act} {w : World} {o : Oper} (x y : Operand) {ts : Array TypeId} (ho : o.op = .call { callee := .builtin .min, args := #[x, y], argTypes := ts }) {k : IntKind} {p q z : Int} (hx : a.eval x = .int k p) (hy : a.eval y = .int k q) (hz : (if q < p then q else p) = z) : (execOp a.eval o).run Try.prog w = .ok (.value (.int k z)) w := by
  subst hz
  simp only [execOp, ho, resolve, Sem.run_bind, Sem.run_pure, Result.andThen_ok, invoke, List.map_toArray, List.map_cons, List.map_nil, hx, hy]
  simp [builtin, go_sem, Result.andThen]
  split <;> omega
theorem take_min {l : List UInt8} {n : Nat} : l.take (min n l.length) = l.take n := by
  by_cases h : n ≤ l.length
  · rw [Nat.min_eq_left h]
  · rw [Nat.min_eq_right (by omega), List.take_of_length_le (Nat.le_refl _), List.take_of_length_le (by omega)]
theorem drop_min {l : List UInt8} {n : Nat} : l.drop (min n l.length) = l.drop n := by
  by_cases h : n ≤ l.length
  · rw [Nat.min_eq_left h]
  · rw [Nat.min_eq_right (by omega), List.drop_of_length_le (Nat.le_refl _), List.drop_of_length_le (by omega)]
theorem take_any (g : Nat) (l : List UInt8) (u : Value) (n : Nat) (hl : l.length ≤ 100000) (hn : n ≤ 100000) (w : World) (hg : w.heap[g]? = some (.cells #[u] 83 (0, 0))) (hu : IsB w l u) (hd : ¬ bfp u g) :
  Calls Try.prog 52 #[.pointer (some ⟨g, 0, none⟩), .int .i64 (n : Int)] w fun e w' => ∃ v, e = .returned v ∧ ∃ u', Byt w' w.heap.size v (l.take n) ∧ IsB w' (l.drop n) u' ∧ (∀ b, bfp u' b → bfp u b) ∧ w'.heap[g]? = some (.cells #[u'] 83 (0, 0)) ∧ w.grownBy w' (some g) := by
 refine zg (args := [.pointer (some ⟨g, 0, none⟩), .int .i64 (n : Int)]) 30 Try.func52 rfl rfl rfl ?_
 intro fa F
 have M := Mx.theG hg 0
 replace M := M.argB 1 hu (fun b e => by cases e; exact hd)
 refine zT fun _ hK1 => ?_
 refine rm rfl F fun _ F2 => ?_
 refine hK1 _ _ (zS fun _ hK3 => ?_)
 refine zR ?_
 refine zB 5 [(0, .pointer (some ⟨g, 0, none⟩)), (1, .int .i64 (n : Int)), (4, zN), (6, .int .i64 (n : Int)), (10, u)] [0] (zj (M.blk (k := 0) rfl) dnil) [g] F2 fun _ F4 => ?_
 refine rn rfl rfl F4 rfl (.int .i64 (l.length : Int)) (z9 _ rfl (F4.get rfl) (M.isb (k := 1) rfl) rfl) fun _ F5 => ?_
 refine rn rfl rfl F5 rfl (.int .i64 ((min n l.length : Nat) : Int)) (y_min _ _ rfl (F5.get rfl) (F5.get rfl) (by split <;> omega)) fun _ F6 => ?_
 refine rm rfl F6 fun _ F7 => ?_
 refine hK3 _ _ (zS fun _ hK8 => ?_)
 refine zR ?_
 refine zB 5 [(0, .pointer (some ⟨g, 0, none⟩)), (1, .int .i64 ((min n l.length : Nat) : Int)), (4, zN), (16, u), (17, .int .i64 ((min n l.length : Nat) : Int))] [0] (zj (M.blk (k := 0) rfl) dnil) [g] F7 fun _ F9 => ?_
 refine z9a (za rfl) rfl F9 rfl (z8b _ _ rfl (F9.get rfl) (M.isb (k := 1) rfl) (F9.get rfl) (j := (min n l.length)) rfl (Nat.min_le_right _ _)) ?_
 intro v10 a10 h10 F10
 have M10 := M.partB 2 (k := 1) rfl h10.1 h10.2
 clear M
 obtain ⟨A10, c10, rfl⟩ := (M10.isb (k := 2) rfl).shape
 refine zd (za rfl) rfl F10 rfl rfl (zE Try.func80 rfl) #[.slice A10 ((l.take (min n l.length))).length c10] (zp (F10.get rfl)) (clone_any (l.take (min n l.length)) (.slice A10 ((l.take (min n l.length))).length c10) (by simp only [List.length_take]; omega) w (M10.isb (k := 2) rfl)) ?_
 rintro v11 w11 a11 h11 F11
 have M11 := M10.newO h11.2 3 h11.1
 clear M10 h11
 obtain ⟨A11, c11, rfl⟩ := (M11.isO (k := 3) rfl).shape
 refine rm rfl F11 fun _ F12 => ?_
 refine hK8 _ _ (zS fun _ hK13 => ?_)
 refine zR ?_
 refine zB 6 [(4, zN), (5, .slice A11 ((l.take (min n l.length))).length c11), (20, .pointer (some ⟨g, 0, none⟩)), (24, u), (25, .int .i64 ((min n l.length : Nat) : Int))] [0] (zj (M11.blk (k := 0) rfl) dnil) [g] F12 fun _ F14 => ?_
 refine z9a (za rfl) rfl F14 rfl (y_slFrom _ _ rfl (F14.get rfl) (M11.isb (k := 1) rfl) (F14.get rfl) (i := (min n l.length)) rfl (Nat.min_le_right _ _)) ?_
 intro v15 a15 h15 F15
 have M15 := M11.partB 4 (k := 1) rfl h15.1 h15.2
 clear M11
 obtain ⟨A15, c15, rfl⟩ := (M15.isb (k := 4) rfl).shape
 refine zA 2 [(27, .pointer (some ⟨g, 0, none⟩)), (28, .pointer (some ⟨g, 0, none⟩))] [] dnil [] F15 fun _ F16 => ?_
 refine zn (za rfl) rfl F16 M15 (k := 0) rfl _ _ _ rfl (F16.get rfl) (F16.get rfl) (#[.slice A15 ((l.drop (min n l.length))).length c15]) _ rfl (zL rfl) (zmb rfl) (zt rfl) (by kernel_rfl) ?_
 intro w17 M17
 clear M15
 refine hK13 _ _ (zS fun _ hK18 => ?_)
 refine zR ?_
 refine rm rfl F16 fun _ F19 => ?_
 refine rm rfl F19 fun _ F20 => ?_
 refine hK18 _ _ (wp_ret ?_)
 try simp only [Exit.then, Exit.inBlock, Exit.jump]
 exact bodyPost_ret (res1 rfl (F20.get rfl)) F20.defers ⟨_, rfl, .slice A15 ((l.drop (min n l.length))).length c15, (by rw [← take_min (l := l) (n := n)]; exact M17.bytG (k := 3) rfl (fun b e e2 => M17.dis 3 0 _ _ rfl rfl (by decide) rfl b e2 (by injection e with e; exact e.symm))), (by rw [← drop_min (l := l) (n := n)]; exact M17.isb (k := 4) rfl), h15.2, M17.blk (k := 0) rfl, M17.grown⟩
end Go.Proofs.Ytlbkogdmojlpmaa
namespace Go.Proofs.Ytlbkogdmojlpmaa
open Go.ChangeShapes Go.WideShapes Go.ChangeAt Go.RowKit
theorem Mx.took0 {G : Option Nat} {w0 w w' : World} {R : List (Nat × Res)} (M : Mx G w0 w R) {k ku g : Nat} {t : TypeId} {c c' : Array Value} {l l' : List UInt8} {u u' : Value} (hk : look R k = some (blkR g t c)) (hg : w.grownBy w' (some g)) (hc : w'.heap[g]? = some (.cells c' t (0, 0))) (j : Nat)
    (hu : IsB w' l' u') (hs : ∀ b, bfp u' b → bfp u b) (hku : look ((k, blkR g t c') :: R) ku = some (bytR l u)) : Mx G w0 w' ((j, bytR l' u') :: (k, blkR g t c') :: R) :=
  (M.put hk hg hc).part j _ hu z0a rfl hku rfl hs
theorem Mx.took {G : Option Nat} {w0 w w' : World} {R : List (Nat × Res)} (M : Mx G w0 w R) {k ku g : Nat} {t : TypeId} {c c' : Array Value} {l l' lv : List UInt8} {u u' v : Value} (hk : look R k = some (blkR g t c)) (hg : w.grownBy w' (some g)) (hc : w'.heap[g]? = some (.cells c' t (0, 0))) (i j : Nat)
    (hv : Byt w' w.heap.size v lv) (hu : IsB w' l' u') (hs : ∀ b, bfp u' b → bfp u b) (hku : look ((k, blkR g t c') :: R) ku = some (bytR l u)) (hku2 : look ((i, ownR lv v) :: (k, blkR g t c') :: R) ku = some (bytR l u)) : Mx G w0 w' ((j, bytR l' u') :: (i, ownR lv v) :: (k, blkR g t c') :: R) := by
  have M1 := M.put hk hg hc
  have old : ∀ q s, look ((k, blkR g t c') :: R) q = some s → ∀ b, s.fp b → b < w.heap.size := fun q s e b hb => by
    rw [look_cons] at e; split at e
    · cases e; cases hb; exact M.lt k _ hk g rfl
    · exact M.lt q s e b hb
  have M2 : Mx G w0 w' ((i, ownR lv v) :: (k, blkR g t c') :: R) := M1.cons i _ (hv.rebase fun _ _ => Nat.zero_le _) ownR_dep (fun b hb => (hv.lt b hb).2) (fun _ b hb => .inl (Nat.le_trans M.le (hv.lt b hb).1)) fun q s e _ _ b hb hs2 => by
    have h1 := old q s e b hs2
    have h2 := (hv.lt b hb).1
    omega
  exact M2.part j _ hu z0a rfl hku2 rfl hs
theorem numI_one (l : List UInt8) : numI (l.take 1) = ((zi (l.take 1) : Nat) : Int) := by
  have h := zec (l.take 1)
  have h2 : (l.take 1).length ≤ 1 := by rw [List.length_take]; exact Nat.min_le_left _ _
  have h3 : (256 : Nat) ^ (l.take 1).length ≤ 256 ^ 1 := Nat.pow_le_pow_right (by omega) h2
  exact if_pos (decide_eq_true ⟨by omega, by omega⟩)
theorem readN_one (l : List UInt8) : zi (l.take 1) < 256 := by
  have h := zec (l.take 1)
  have h2 : (l.take 1).length ≤ 1 := by rw [List.length_take]; exact Nat.min_le_left _ _
  have h3 : (256 : Nat) ^ (l.take 1).length ≤ 256 ^ 1 := Nat.pow_le_pow_right (by omega) h2
  omega
theorem rnumber_any (g : Nat) (l : List UInt8) (u : Value) (n : Nat) (hl : l.length ≤ 100000) (hn : n ≤ 100000) (w : World) (hg : w.heap[g]? = some (.cells #[u] 83 (0, 0))) (hu : IsB w l u) (hd : ¬ bfp u g) :
  Calls Try.prog 68 #[.pointer (some ⟨g, 0, none⟩), .int .i64 (n : Int)] w fun e w' => ∃ v, e = .returned v ∧ v = .int .i64 (numI (l.take n)) ∧ ∃ u', IsB w' (l.drop n) u' ∧ (∀ b, bfp u' b → bfp u b) ∧ w'.heap[g]? = some (.cells #[u'] 83 (0, 0)) ∧ w.grownBy w' (some g) := by
 refine zg (args := [.pointer (some ⟨g, 0, none⟩), .int .i64 (n : Int)]) 15 Try.func68 rfl rfl rfl ?_
 intro fa F
 have M := Mx.theG hg 0
 replace M := M.argB 1 hu (fun b e => by cases e; exact hd)
 refine zT fun _ hK1 => ?_
 refine rm rfl F fun _ F2 => ?_
 refine hK1 _ _ (zS fun _ hK3 => ?_)
 refine zR ?_
 refine rm rfl F2 fun _ F4 => ?_
 refine rm rfl F4 fun _ F5 => ?_
 refine zd (za rfl) rfl F5 rfl rfl (zE Try.func52 rfl) #[.pointer (some ⟨g, 0, none⟩), .int .i64 (n : Int)] (zea (F5.get rfl) (F5.get rfl)) (take_any g l (u) n hl (by omega) w (M.blk (k := 0) rfl) (M.isb (k := 1) rfl) (fun hb => M.dis 0 1 _ _ rfl rfl (by decide) rfl g rfl hb)) ?_
 rintro v6 w6 a6 ⟨u6, hv6, hu6, hs6, hc6, hg6⟩ F6
 have M6 := M.took (k := 0) (ku := 1) rfl hg6 hc6 3 2 hv6 hu6 hs6 rfl rfl
 clear M hg6 hc6
 obtain ⟨A6u, c6u, rfl⟩ := hu6.shape
 clear hu6
 clear hv6
 obtain ⟨A6, c6, rfl⟩ := (M6.isO (k := 3) rfl).shape
 refine zd (za rfl) rfl F6 rfl rfl (zE Try.func81 rfl) #[.slice A6 ((l.take n)).length c6] (zp (F6.get rfl)) (zh ((number_any (l.take n) (.slice A6 ((l.take n)).length c6) (by simp only [List.length_take]; omega) w6 (M6.isO (k := 3) rfl)))) ?_
 rintro _ w7 a7 ⟨rfl, b7⟩ F7
 have M7 := M6.step b7
 refine zB 5 [(4, .int .i64 0), (5, .int .i64 (numI (l.take n)))] [] dnil [] F7 fun _ F8 => ?_
 refine hK3 _ _ (zS fun _ hK9 => ?_)
 refine zR ?_
 refine rm rfl F8 fun _ F10 => ?_
 refine rm rfl F10 fun _ F11 => ?_
 refine hK9 _ _ (wp_ret ?_)
 try simp only [Exit.then, Exit.inBlock, Exit.jump]
 exact bodyPost_ret (res1 rfl (F11.get rfl)) F11.defers ⟨_, rfl, rfl, .slice A6u ((l.drop n)).length c6u, M7.isb (k := 2) rfl, fun b h => (hs6 b h), M7.blk (k := 0) rfl, M7.grown⟩
theorem rnum1_any (g : Nat) (l : List UInt8) (u : Value) (hl : l.length ≤ 100000) (w : World) (hg : w.heap[g]? = some (.cells #[u] 83 (0, 0))) (hu : IsB w l u) (hd : ¬ bfp u g) :
    Calls Try.prog 68 #[.pointer (some ⟨g, 0, none⟩), .int .i64 1] w fun e w' => ∃ v, e = .returned v ∧ v = .int .i64 ((zi (l.take 1) : Nat) : Int) ∧ ∃ u', IsB w' (l.drop 1) u' ∧ (∀ b, bfp u' b → bfp u b) ∧ w'.heap[g]? = some (.cells #[u'] 83 (0, 0)) ∧ w.grownBy w' (some g) :=
  (rnumber_any g l u 1 hl (by omega) w hg hu hd).mono fun e w2 ⟨v, h1, h2, h3⟩ => ⟨v, h1, h2.trans (by rw [numI_one]), h3⟩
theorem roctet_any (g : Nat) (l : List UInt8) (u : Value) (hl : l.length ≤ 100000) (w : World) (hg : w.heap[g]? = some (.cells #[u] 83 (0, 0))) (hu : IsB w l u) (hd : ¬ bfp u g) :
  Calls Try.prog 53 #[.pointer (some ⟨g, 0, none⟩)] w fun e w' => ∃ v, e = .returned v ∧ v = .int .i64 ((zi (l.take 1) : Nat) : Int) ∧ ∃ u', IsB w' (l.drop 1) u' ∧ (∀ b, bfp u' b → bfp u b) ∧ w'.heap[g]? = some (.cells #[u'] 83 (0, 0)) ∧ w.grownBy w' (some g) := by
 refine zg (args := [.pointer (some ⟨g, 0, none⟩)]) 5 Try.func53 rfl rfl rfl ?_
 intro fa F
 have M := Mx.theG hg 0
 replace M := M.argB 1 hu (fun b e => by cases e; exact hd)
 refine zT fun _ hK1 => ?_
 refine rm rfl F fun _ F2 => ?_
 refine hK1 _ _ (zS fun _ hK3 => ?_)
 refine zR ?_
 refine rm rfl F2 fun _ F4 => ?_
 refine zd (za rfl) rfl F4 rfl rfl (zE Try.func68 rfl) #[.pointer (some ⟨g, 0, none⟩), .int .i64 1] (zea (F4.get rfl) rfl) (rnum1_any g l (u) hl w (M.blk (k := 0) rfl) (M.isb (k := 1) rfl) (fun hb => M.dis 0 1 _ _ rfl rfl (by decide) rfl g rfl hb)) ?_
 rintro _ w5 a5 ⟨rfl, u5, hu5, hs5, hc5, hg5⟩ F5
 have M5 := M.took0 (k := 0) (ku := 1) rfl hg5 hc5 2 hu5 hs5 rfl
 clear M hg5 hc5
 obtain ⟨A5u, c5u, rfl⟩ := hu5.shape
 clear hu5
 refine rm rfl F5 fun _ F6 => ?_
 refine hK3 _ _ (wp_ret ?_)
 try simp only [Exit.then, Exit.inBlock, Exit.jump]
 exact bodyPost_ret (res1 rfl (F6.get rfl)) F6.defers ⟨_, rfl, rfl, .slice A5u ((l.drop 1)).length c5u, M5.isb (k := 2) rfl, fun b h => (hs5 b h), M5.blk (k := 0) rfl, M5.grown⟩
theorem rcounted_any (g : Nat) (l : List UInt8) (u : Value) (hl : l.length ≤ 100000) (w : World) (hg : w.heap[g]? = some (.cells #[u] 83 (0, 0))) (hu : IsB w l u) (hd : ¬ bfp u g) :
  Calls Try.prog 55 #[.pointer (some ⟨g, 0, none⟩)] w fun e w' => ∃ v, e = .returned v ∧ ∃ u', Byt w' w.heap.size v ((l.drop 1).take (zi (l.take 1))) ∧ IsB w' ((l.drop 1).drop (zi (l.take 1))) u' ∧ (∀ b, bfp u' b → bfp u b) ∧ w'.heap[g]? = some (.cells #[u'] 83 (0, 0)) ∧ w.grownBy w' (some g) := by
 refine zg (args := [.pointer (some ⟨g, 0, none⟩)]) 7 Try.func55 rfl rfl rfl ?_
 intro fa F
 have M := Mx.theG hg 0
 replace M := M.argB 1 hu (fun b e => by cases e; exact hd)
 have hr1 := readN_one l
 refine zT fun _ hK1 => ?_
 refine rm rfl F fun _ F2 => ?_
 refine hK1 _ _ (zS fun _ hK3 => ?_)
 refine zR ?_
 refine rm rfl F2 fun _ F4 => ?_
 refine rm rfl F4 fun _ F5 => ?_
 refine zd (za rfl) rfl F5 rfl rfl (zE Try.func53 rfl) #[.pointer (some ⟨g, 0, none⟩)] (zp (F5.get rfl)) (roctet_any g l (u) hl w (M.blk (k := 0) rfl) (M.isb (k := 1) rfl) (fun hb => M.dis 0 1 _ _ rfl rfl (by decide) rfl g rfl hb)) ?_
 rintro _ w6 a6 ⟨rfl, u6, hu6, hs6, hc6, hg6⟩ F6
 have M6 := M.took0 (k := 0) (ku := 1) rfl hg6 hc6 2 hu6 hs6 rfl
 clear M hg6 hc6
 obtain ⟨A6u, c6u, rfl⟩ := hu6.shape
 clear hu6
 refine zd (za rfl) rfl F6 rfl rfl (zE Try.func52 rfl) #[.pointer (some ⟨g, 0, none⟩), .int .i64 ((zi (l.take 1) : Nat) : Int)] (zea (F6.get rfl) (F6.get rfl)) (take_any g (l.drop 1) (.slice A6u ((l.drop 1)).length c6u) (zi (l.take 1)) (by simp only [List.length_drop]; omega) (by omega) w6 (M6.blk (k := 0) rfl) (M6.isb (k := 2) rfl) (fun hb => M6.dis 0 2 _ _ rfl rfl (by decide) rfl g rfl hb)) ?_
 rintro v7 w7 a7 ⟨u7, hv7, hu7, hs7, hc7, hg7⟩ F7
 have M7 := M6.took (k := 0) (ku := 2) rfl hg7 hc7 4 3 hv7 hu7 hs7 rfl rfl
 clear M6 hg7 hc7
 obtain ⟨A7u, c7u, rfl⟩ := hu7.shape
 clear hu7
 clear hv7
 obtain ⟨A7, c7, rfl⟩ := (M7.isO (k := 4) rfl).shape
 refine rm rfl F7 fun _ F8 => ?_
 refine hK3 _ _ (wp_ret ?_)
 try simp only [Exit.then, Exit.inBlock, Exit.jump]
 exact bodyPost_ret (res1 rfl (F8.get rfl)) F8.defers ⟨_, rfl, .slice A7u (((l.drop 1).drop (zi (l.take 1)))).length c7u, M7.bytG (k := 4) rfl (fun b e e2 => M7.dis 4 0 _ _ rfl rfl (by decide) rfl b e2 (by injection e with e; exact e.symm)), M7.isb (k := 3) rfl, fun b h => (hs6 b (hs7 b h)), M7.blk (k := 0) rfl, M7.grown⟩
end Go.Proofs.Ytlbkogdmojlpmaa
