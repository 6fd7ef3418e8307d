/- What SrpWrong stands on, part 10. -/
import Derived.Test.YtcfepoopkfhojaaGreatSrpWrongP1
import Derived.Test.YtcfepoopkfhojaaGreatSrpWrongP2
import Derived.Test.YtcfepoopkfhojaaGreatSrpWrongP3
import Derived.Test.YtcfepoopkfhojaaGreatSrpWrongP4
import Derived.Test.YtcfepoopkfhojaaGreatSrpWrongP5
import Derived.Test.YtcfepoopkfhojaaGreatSrpWrongP6
import Derived.Test.YtcfepoopkfhojaaGreatSrpWrongP7
import Derived.Test.YtcfepoopkfhojaaGreatSrpWrongP8
import Derived.Test.YtcfepoopkfhojaaGreatSrpWrongP9
set_option maxRecDepth 100000
set_option maxHeartbeats 8000000
set_option linter.unusedVariables false
set_option linter.unusedSimpArgs false
namespace Go.Proofs.YtcfepoopkfhojaaGreat
open Go.ChangeShapes Go.WideShapes Go.ChangeAt Go.RowKit Go.Shelf
def valsR (L : List (List UInt8)) (vs : List Value) : Res := ⟨false, fun b => ∃ v, v ∈ vs ∧ bfp v b, fun w => vs.length = L.length ∧ ∀ (j : Nat) (l : List UInt8), L[j]? = some l → ∃ v, vs[j]? = some v ∧ IsB w l v⟩
theorem vals_dep {L : List (List UInt8)} {vs : List Value} : ∀ u u', Same (valsR L vs).fp u u' → (valsR L vs).F u → (valsR L vs).F u' := fun u u' hs ⟨h1, h2⟩ => ⟨h1, fun j l hl => by
 obtain ⟨v, q1, q2⟩ := h2 j l hl
 exact ⟨v, q1, q2.same ⟨fun g o hg ho => hs.at_ g o ⟨v, List.mem_of_getElem? q1, hg⟩ ho, hs.size⟩⟩⟩
theorem vals_lt {L : List (List UInt8)} {vs : List Value} {w : World} (h : (valsR L vs).F w) : ∀ b, (valsR L vs).fp b → b < w.heap.size := fun b ⟨v, hv, hb⟩ => by
 obtain ⟨j, hj, e⟩ := List.getElem_of_mem hv
 obtain ⟨l, hl⟩ : ∃ l, L[j]? = some l := ⟨_, List.getElem?_eq_getElem (by have := h.1; omega)⟩
 obtain ⟨u, q1, q2⟩ := h.2 j l hl
 rw [List.getElem?_eq_getElem hj, e] at q1
 obtain rfl := Option.some.inj q1
 exact q2.lt hb
section
variable {G : Option Nat} {w0 w : World} {R : List (Nat × Res)} {k k2 i g : Nat} {L : List (List UInt8)} {vs : List Value} {l : List UInt8} {v : Value} {T : TypeId} {c : Array Value}
theorem Mx.valsNil (M : Mx G w0 w R) (i : Nat) : Mx G w0 w ((i, valsR [] []) :: R) :=
 M.cons i _ ⟨rfl, fun j l h => by cases h⟩ vals_dep (fun b ⟨v, hv, _⟩ => by cases hv) (fun e => by cases e) fun _ _ _ _ _ b ⟨v, hv, _⟩ => by cases hv
theorem Mx.valsAdd (M : Mx G w0 w R) (hk : look R k = some (valsR L vs)) (h2 : look R k2 = some (bytR l v)) : Mx G w0 w ((k, valsR (L ++ [l]) (vs ++ [v])) :: R) := by
 have hF := M.at_ k _ hk
 have hB := M.isb h2
 have hF2 : (valsR (L ++ [l]) (vs ++ [v])).F w := ⟨by rw [List.length_append, List.length_append, hF.1]; rfl, fun j l2 hj => by
  by_cases e : j < L.length
  ·rw [List.getElem?_append_left e] at hj
   obtain ⟨u, q1, q2⟩ := hF.2 j l2 hj
   exact ⟨u, by rw [List.getElem?_append_left (by rw [hF.1]; exact e)]; exact q1, q2⟩
  ·have hlen := (List.getElem?_eq_some_iff.1 hj).1
   rw [List.length_append] at hlen
   have e2 : j = L.length := by simp at hlen; omega
   subst e2
   rw [List.getElem?_append_right (Nat.le_refl _), Nat.sub_self] at hj
   obtain rfl : l = l2 := Option.some.inj hj
   exact ⟨v, by rw [List.getElem?_append_right (by rw [hF.1]; exact Nat.le_refl _), hF.1, Nat.sub_self]; rfl, hB⟩⟩
 refine M.cons k _ hF2 vals_dep (vals_lt hF2) (fun e => by cases e) fun q t e hq hw b hb h3 => ?_
 rcases hw with hw | hw
 ·cases hw
 obtain ⟨u, hu, hub⟩ := hb
 rcases List.mem_append.1 hu with hu | hu
 ·exact M.dis q k t _ e hk (fun e2 => hq e2.symm) hw b h3 ⟨u, hu, hub⟩
 ·obtain rfl := List.mem_singleton.1 hu
  exact M.dis q k2 t _ e h2 (fun e2 => by subst e2; rw [h2] at e; cases e; cases hw) hw b h3 hub
theorem Mx.blkRow (M : Mx G w0 w R) (hk : look R k = some (blkR g T c)) {n : Nat} (hn : c.size = n) (hm : n ≤ 1000) (h0 : 0 < n) : Mx G w0 w ((k, rowR T 1 n c.toList (.slice (some ⟨g, 0, none⟩) n n)) :: R) := by
 subst hn
 have hb := M.blk hk
 refine M.cons k _ ⟨by rw [Array.length_toList, Nat.mul_one], .inr ⟨g, c.size, c, rfl, Nat.zero_le _, hb, Nat.le_refl _, by unfold maxLen; omega, by rw [Nat.mul_one], by rw [Nat.mul_one, ← Array.length_toList, List.take_length]⟩⟩ row_dep (fun b hb2 => ?_) (fun _ b hb2 => ?_) fun q t e hq hw b hb2 h3 => ?_
 ·obtain rfl : g = b := Option.some.inj hb2
  exact zyb hb
 ·obtain rfl : g = b := Option.some.inj hb2
  exact M.own k _ hk rfl g rfl
 ·obtain rfl : g = b := Option.some.inj hb2
  exact M.dis k q _ t hk e hq rfl g rfl h3
theorem Mx.rowP (M : Mx G w0 w R) {n : Nat} {u : Value} (hk : look R k = some (rowR T 1 n vs u)) (h2 : look R k2 = some (valsR L vs)) (hn : n = L.length) : IsP w L u := isP_row (M.rowF hk) hn (M.at_ k2 _ h2).2
end
theorem res2ct {P : Program} {fn : Func} {p q r : Tmp} {ty tz : TypeId} (h : fn.results = #[.cell p ty, .cell q tz, .tmp r]) {a : Act} {w : World} {g g2 : Nat} {t t2 : TypeId} {c c2 : Array Value} {v : Value} {d d2 : TypeDesc}
  (hp : a.eval (.tmp p) = .pointer (some ⟨g, 0, none⟩)) (hg : w.heap[g]? = some (.cells c t (0, 0))) (hq : a.eval (.tmp q) = .pointer (some ⟨g2, 0, none⟩)) (hg2 : w.heap[g2]? = some (.cells c2 t2 (0, 0))) (hr : a.eval (.tmp r) = v) (hu : P.underlying ty = some d) (hd : yPlain d = false) (hi : (P.info? ty).map (·.size) = some c.size) (hu2 : P.underlying tz = some d2) (hd2 : yPlain d2 = false) (hi2 : (P.info? tz).map (·.size) = some c2.size) : (results fn a.tmps).run P w = .ok (.tuple #[.agg c, .agg c2, v]) w := by
 have hp' : a.tmps[p]?.getD undef = .pointer (some ⟨g, 0, none⟩) := by simpa [Act.eval] using hp
 have hq' : a.tmps[q]?.getD undef = .pointer (some ⟨g2, 0, none⟩) := by simpa [Act.eval] using hq
 have hr' : a.tmps[r]?.getD undef = v := by simpa [Act.eval] using hr
 have l1 : (loadVar ty ⟨g, 0, none⟩).run P w = .ok (.agg c) w := by
  cases d with
  | struct fs => exact run_loadVar_row w g t ty c (0, 0) _ hg hu rfl hi
  | array n e => exact run_loadVar_row w g t ty c (0, 0) _ hg hu rfl hi
  | _ => cases hd
 have l2 : (loadVar tz ⟨g2, 0, none⟩).run P w = .ok (.agg c2) w := by
  cases d2 with
  | struct fs => exact run_loadVar_row w g2 t2 tz c2 (0, 0) _ hg2 hu2 rfl hi2
  | array n e => exact run_loadVar_row w g2 t2 tz c2 (0, 0) _ hg2 hu2 rfl hi2
  | _ => cases hd2
 simp [results, h, hp', hq', hr', asAddr, l1, l2]
theorem cells_vals {w : World} {L : List (List UInt8)} {vs : List Value} (h : (valsR L vs).F w) : CellsF w (valsR L vs) := fun b ⟨v, hv, hb⟩ => by
 obtain ⟨j, hj, e⟩ := List.getElem_of_mem hv
 obtain ⟨l, hl⟩ : ∃ l, L[j]? = some l := ⟨_, List.getElem?_eq_getElem (by have := h.1; omega)⟩
 obtain ⟨u, q1, q2⟩ := h.2 j l hl
 rw [List.getElem?_eq_getElem hj, e] at q1
 obtain rfl := Option.some.inj q1
 exact zab q2 b hb
theorem cells_row {w : World} {e : TypeId} {sz n : Nat} {xs : List Value} {v : Value} (h : (rowR e sz n xs v).F w) : CellsF w (rowR e sz n xs v) := fun g hg => by
 have h : w.ownsRow 0 e sz v n xs := h
 have hg' : v.ownBlock = some g := hg
 rcases h.2 with ⟨rfl, _⟩ | ⟨b, c, cur, rfl, _, h1, _⟩
 ·cases hg'
 ·cases hg'; exact ⟨_, h1, rfl⟩
end Go.Proofs.YtcfepoopkfhojaaGreat
namespace Go.Proofs.YtcfepoopkfhojaaGreat
open Go.ChangeShapes Go.WideShapes Go.ChangeAt Go.RowKit
noncomputable def shL (x : SideN) (k : Nat) : List (List UInt8) := [[49], sBy x.s, x.ls] ++ [zq x.A, zq x.B].take k
theorem shL_succ (x : SideN) {k : Nat} (hk : k < 2) : shL x (k + 1) = shL x k ++ [zq (sel2 x.A x.B k)] := by
 match k, hk with
 | 0, _ => rfl
 | 1, _ => rfl
noncomputable def zja (x : SideN) (n : Nat) : SideN := { x with Ky := outF (macW [] [[107, 101, 121], zq n]), Pr := outF (macW (sumY (outF (macW [] [[107, 101, 121], zq n]))) (shL x 2)) }
theorem written_ex (gs : Nat) (w : World) : Calls Tryz.prog 75 #[.slice (some ⟨gs, 0, none⟩) 2 2] w fun e w' => ∃ v, e = .returned v ∧ ∃ gb, v = .func (.func 108) #[] #[.pointer (some ⟨gb, 0, none⟩)] ∧ w.heap.size ≤ gb ∧ w'.heap[gb]? = some (.cells #[.slice (some ⟨gs, 0, none⟩) 2 2] 137 (0, 0)) ∧ Below w.heap.size w w' :=
 (written_any gs w).mono fun e w' ⟨gb, h1, h2, h3, h4⟩ => ⟨_, h1, gb, rfl, h2, h3, h4⟩
theorem y_sliceSumO {a : Act} {w : World} {o : Oper} (x : Operand) (ho : o.op = .slice 35 x none none none) {g q : Nat} (hx : a.eval x = .pointer (some ⟨g, q, none⟩)) : (execOp a.eval o).run Tryz.prog w = .ok (.value (.slice (some ⟨g, q, none⟩) 16 16)) w := by
 have h : (Instr.sliceAt 35 (.pointer (some ⟨g, q, none⟩)) none none none).run Tryz.prog w = .ok (.slice (some ⟨g, q, none⟩) 16 16) w := by
  have hl : Tryz.prog.arrayLen 35 = 16 := by kernel_rfl
  have he : Tryz.prog.elem 35 = 5 := by kernel_rfl
  have hu : Tryz.prog.underlying 35 = some (.array (Tryz.prog.arrayLen 35) (Tryz.prog.elem 35)) := by rw [hl, he]; exact Tryz.underlying35
  rw [run_sliceAt_array_all w 35 ⟨g, q, none⟩ hu, he, sizeOf_u8]
  simp only [Result.andThen_ok, slicedAt, hl]
  simp [add_zero']
 unfold execOp
 simp only [ho, hx]
 simp only [Option.map_none, Sem.run_bind]
 rw [h]; rfl
theorem isb_sumO {w : World} {g q : Nat} {y : Nat → Int} {t : TypeId} {c : Array Value} (hy : ∀ k, 0 ≤ y k ∧ y k < 256) (h : w.heap[g]? = some (.cells c t (0, 0))) (hp : ∀ (i : Nat) (v : Value), (zi y)[i]? = some v → c[q + i]? = some v) : IsB w (sumY y) (.slice (some ⟨g, q, none⟩) 16 16) :=
 ⟨some ⟨g, q, none⟩, 16, (by rw [zsb]), (by rw [zsb]; exact Nat.le_refl _), (by unfold maxLen; decide), (fun e => by cases e), fun _ => by
  refine ⟨_, rfl, zyb h, fun j b hj => ?_⟩
  have hj16 : j < 16 := by have := (List.getElem?_eq_some_iff.1 hj).1; rwa [zsb] at this
  rw [zva]
  unfold sumY at hj
  rw [List.getElem?_map, List.getElem?_range hj16] at hj
  obtain rfl := Option.some.inj hj
  have hc : w.cell? ⟨g, q + j, none⟩ = some (.int .u8 (y j)) := by simp [World.cell?, h, hp j _ (arr16_get y hj16)]
  rw [hc]
  unfold bv
  rw [sumY_val (hy j)]⟩
theorem sharing_any (x : SideN) (y : SideV) (n : Nat) (hs : x.s.size ≤ 1000) (w : World) (hx : SideIs w x y) :
  Calls Tryz.prog 42 #[.agg (zk x y), numV n] w fun e w' => e = .returned (.agg (zk (zja x n) y)) ∧ Below w.heap.size w w' := by
 obtain ⟨S, hS⟩ : ∃ S, macW [] [[107, 101, 121], zq n] = S := ⟨_, rfl⟩
 have kO := fun (w : World) (u : Value) (h : IsP w [[107, 101, 121], zq n] u) => of_b h
 rw [hS] at kO
 obtain ⟨U, hU⟩ : ∃ U, macW (sumY (outF S)) (shL x 2) = U := ⟨_, rfl⟩
 have kM := fun (w : World) (v u : Value) (h : IsB w (sumY (outF S)) v) (h2 : IsP w (shL x 2) u) => mac_b h h2
 rw [hU] at kM
 have hbd := zzb S
 rw [show zja x n = { x with Ky := outF S, Pr := outF U } by unfold zja; rw [hS, hU]]
 clear hS hU
 obtain ⟨vp, vs⟩ := y
 obtain ⟨Ap, cp, rfl⟩ := id hx.hp.shape
 obtain ⟨As, cs, rfl⟩ := id hx.hs.shape
 refine calls_fxM (args := [.agg (zk x ⟨.slice Ap x.lp.length cp, .slice As x.ls.length cs⟩), numV n]) 39 Tryz.func42 rfl rfl rfl ?_
 intro fa F
 have M := Mx.start w
 replace M := M.argB 0 hx.hp (fun g e => by cases e)
 replace M := M.argB 1 hx.hs (fun g e => by cases e)
 refine zT fun _ hK1 => zh (zc rfl) rfl F rfl M 2 (t := 37) (c := zk x ⟨.slice Ap x.lp.length cp, .slice As x.ls.length cs⟩) (by unfold execOp; simp only [(F.get (t := 0) rfl)]; kernel_rfl) ?_
 intro g2 a2 w2 F2 M2
 refine zh (zc rfl) rfl F2 rfl M2 3 (t := 27) (c := numA n) (by unfold execOp; simp only [(F2.get (t := 1) rfl)]; kernel_rfl) ?_
 intro g3 a3 w3 F3 M3
 refine zh (zc rfl) rfl F3 rfl M3 4 (t := 37) (c := zSA) (by unfold execOp; kernel_rfl) ?_
 intro g4 a4 w4 F4 M4
 refine hK1 _ _ (zT fun _ hK5 => zgb (zc rfl) rfl F4 rfl (run_litO M4 5 [107, 101, 121] 3 rfl (by decide) (by decide) rfl (by simp only [List.map_toArray, List.map_cons, List.map_nil]; kernel_rfl)) ?_)
 intro v6 a6 w6 F6 M6
 obtain ⟨A6, c6, rfl⟩ := (M6.isO (k := 5) rfl).shape
 refine zgb (zc rfl) rfl F6 rfl (run_cvL M6 (k := 5) rfl (by decide) _ rfl (F6.get (t := 7) rfl)) ?_
 intro v7 a7 w7 F7 M7
 obtain ⟨A7, c7, rfl⟩ := (M7.isb (k := 5) rfl).shape
 refine zj (w' := w7) (zc rfl) rfl F7 rfl (numV n) (zxa _ _ rfl (F7.get (t := 3) rfl) (M7.blk (k := 3) rfl) (numA n) (z1a rfl) Tryz.underlying27 rfl zd) fun _ F8 => ?_
 refine zaa (zc rfl) rfl F8 rfl rfl (zE Tryz.func74 rfl) #[numV n] (zwa (F8.get (t := 9) rfl)) ((bytes_o n w7)) ?_
 rintro v9 w9 a9 h9 F9
 have M9 := M7.newO h9.2 6 h9.1
 clear M7 h9
 obtain ⟨A9, c9, rfl⟩ := (M9.isO (k := 6) rfl).shape
 refine zhc (zc rfl) rfl F9 rfl M9 7 (t := 22) (c := #[.slice A7 ([107, 101, 121]).length c7, .slice A9 ((zq n)).length c9]) (k := 2) (m := 2) (y_litG 54 22 (s := 1) (zv := zN) Tryz.underlying54 (by kernel_rfl) (by kernel_rfl) rfl (#[.slice A7 ([107, 101, 121]).length c7, .slice A9 ((zq n)).length c9]) (by decide) (by decide) (by simp only [List.map_toArray, List.map_cons, List.map_nil, (F9.get (t := 8) rfl), (F9.get (t := 10) rfl)]; kernel_rfl)) ?_
 intro g10 a10 w10 F10 M10
 refine zaa (zc rfl) rfl F10 rfl rfl (zE Tryz.func69 rfl) #[.slice (some ⟨g10, 0, none⟩) 2 2] (zwa (F10.get (t := 11) rfl)) (zca ((kO w10 _ (isP_blk (M10.blk (k := 7) rfl) rfl rfl (by decide) (fun j l hj => by
   match j, hj with
   | 0, hj => obtain rfl : [107, 101, 121] = l := Option.some.inj hj; exact ⟨_, rfl, (M10.isb (k := 5) rfl)⟩
   | 1, hj => obtain rfl : zq n = l := Option.some.inj hj; exact ⟨_, rfl, (M10.isO (k := 6) rfl)⟩
   | n + 2, hj => cases hj))))) ?_
 rintro _ w11 a11 ⟨rfl, b11⟩ F11
 have M11 := M10.step b11
 refine zj (w' := w11) (zc rfl) rfl F11 rfl (.pointer (some ⟨g2, 60, none⟩)) (y_fa (off := 60) rfl (F11.get (t := 2) rfl) (by kernel_rfl) rfl) fun _ F12 => ?_
 refine zr (zc rfl) rfl F12 M11 (k := 2) rfl _ _ _ rfl (F12.get (t := 13) rfl) (F12.get (t := 12) rfl) (zi (outF S)) (zk ⟨x.k, x.P, x.Q, x.g, x.s, x.lp, x.A, x.B, x.O, x.ls, x.V, (outF S), x.Pr⟩ ⟨.slice Ap x.lp.length cp, .slice As x.ls.length cs⟩) rfl (zL rfl) (zda _) (by kernel_rfl) (by kernel_rfl) ?_
 intro w13 M13
 refine hK5 _ _ (zT fun _ hK14 => zgb (zc rfl) rfl F12 rfl (run_litO M13 8 [49] 1 rfl (by decide) (by decide) rfl (by simp only [List.map_toArray, List.map_cons, List.map_nil]; kernel_rfl)) ?_)
 intro v15 a15 w15 F15 M15
 obtain ⟨A15, c15, rfl⟩ := (M15.isO (k := 8) rfl).shape
 refine zgb (zc rfl) rfl F15 rfl (run_cvL M15 (k := 8) rfl (by decide) _ rfl (F15.get (t := 14) rfl)) ?_
 intro v16 a16 w16 F16 M16
 obtain ⟨A16, c16, rfl⟩ := (M16.isb (k := 8) rfl).shape
 refine zAx 2 [(16, .pointer (some ⟨g2, 25, none⟩)), (17, .string x.s)] [0] (zp (M16.blk (k := 2) rfl) dnil) [g2] F16 fun _ F17 => ?_
 refine zgb (zc rfl) rfl F17 rfl (run_cvS M16 9 _ rfl (F17.get (t := 17) rfl) (by omega)) ?_
 intro v18 a18 w18 F18 M18
 have fr18 := M18.frN (k := 9) rfl
 replace M18 := M18.unN (k := 9) rfl
 obtain ⟨A18, c18, rfl⟩ := (M18.isb (k := 9) rfl).shape
 refine zAx 2 [(19, .pointer (some ⟨g2, 51, none⟩)), (20, .slice As x.ls.length cs)] [0] (zp (M18.blk (k := 2) rfl) dnil) [g2] F18 fun _ F19 => ?_
 refine zhc (zc rfl) rfl F19 rfl M18 10 (t := 22) (c := #[.slice A16 ([49]).length c16, .slice A18 ((sBy x.s)).length c18, .slice As x.ls.length cs]) (k := 3) (m := 3) (y_litG 54 22 (s := 1) (zv := zN) Tryz.underlying54 (by kernel_rfl) (by kernel_rfl) rfl (#[.slice A16 ([49]).length c16, .slice A18 ((sBy x.s)).length c18, .slice As x.ls.length cs]) (by decide) (by decide) (by simp only [List.map_toArray, List.map_cons, List.map_nil, (F19.get (t := 15) rfl), (F19.get (t := 18) rfl), (F19.get (t := 20) rfl)]; kernel_rfl)) ?_
 intro g20 a20 w20 F20 M20
 refine zh (zc rfl) rfl F20 rfl M20 11 (t := 54) (c := #[zN]) (by unfold execOp; kernel_rfl) ?_
 intro g21 a21 w21 F21 M21
 refine zr (zc rfl) rfl F21 M21 (k := 11) rfl _ _ _ rfl (F21.get (t := 5) rfl) (F21.get (t := 21) rfl) (#[.slice (some ⟨g20, 0, none⟩) 3 3]) _ rfl (zL rfl) (one_slc rfl) (zo rfl) (by kernel_rfl) ?_
 intro w22 M22
 refine hK14 _ _ (zSk fun _ hK23 => zT fun _ hK24 => zB 4 [(2, .pointer (some ⟨g2, 0, none⟩)), (4, .pointer (some ⟨g4, 0, none⟩)), (5, .pointer (some ⟨g21, 0, none⟩)), (23, numV x.A), (25, numV x.B)] [0, 0] (zp (M22.blk (k := 2) rfl) dnil) [g2, g2] F21 fun _ F25 => ?_)
 refine zhc (zc rfl) rfl F25 rfl M22 12 (t := 27) (c := nn2 x.A x.B) (k := 2) (m := 2) (y_litG 137 27 (s := 8) (zv := .agg (numA 0)) Tryz.underlying137 (by kernel_rfl) (by kernel_rfl) rfl (nn2 x.A x.B) (by decide) (by decide) (by simp only [List.map_toArray, List.map_cons, List.map_nil, (F25.get (t := 23) rfl), (F25.get (t := 25) rfl)]; kernel_rfl)) ?_
 intro g26 a26 w26 F26 M26
 refine zaa (zc rfl) rfl F26 rfl rfl (zE Tryz.func75 rfl) #[.slice (some ⟨g26, 0, none⟩) 2 2] (zwa (F26.get (t := 26) rfl)) (written_ex g26 w26) ?_
 rintro _ w27 a27 ⟨g27, rfl, hg27, hc27, b27⟩ F27
 have M27 := M26.newb b27 13 hg27 hc27
 clear M26 hg27 hc27 b27
 refine hK24 _ _ (wp_block ?_)
 have M28 := ((M27.blkRow (k := 10) (n := 3) rfl rfl (by decide) (by decide)).valsNil 14)
 replace M28 := M28.valsAdd (k := 14) (k2 := 8) rfl rfl
 replace M28 := M28.valsAdd (k := 14) (k2 := 9) rfl rfl
 replace M28 := M28.valsAdd (k := 14) (k2 := 1) rfl rfl
 refine range_fx3 F27 (gf := 108) (lb := #[.pointer (some ⟨g27, 0, none⟩)]) (F27.get (t := 27) rfl) (zE Tryz.func108 rfl) rfl (α := Nat × Value) (fun z => z.2)
  (fun z W => z.1 < 2 ∧ ∃ (ev : Value) (vs : List Value), Mx none w W [(15, bytR (zq (sel2 x.A x.B z.1)) z.2), (10, rowR 22 1 (3 + z.1) vs ev), (14, valsR (shL x z.1) vs), (0, bytR x.lp (.slice Ap x.lp.length cp)), (1, bytR x.ls (.slice As x.ls.length cs)), (2, blkR g2 37 (zk ⟨x.k, x.P, x.Q, x.g, x.s, x.lp, x.A, x.B, x.O, x.ls, x.V, (outF S), x.Pr⟩ ⟨.slice Ap x.lp.length cp, .slice As x.ls.length cs⟩)), (4, blkR g4 37 (zSA)), (12, blkR g26 27 (nn2 x.A x.B)), (13, blkR g27 137 (#[.slice (some ⟨g26, 0, none⟩) 2 2])), (11, blkR g21 54 (#[ev]))]) (fun z W => (∃ (ev : Value) (vs : List Value), Mx none w W [(10, rowR 22 1 (3 + (z.1 + 1)) vs ev), (14, valsR (shL x (z.1 + 1)) vs), (0, bytR x.lp (.slice Ap x.lp.length cp)), (1, bytR x.ls (.slice As x.ls.length cs)), (2, blkR g2 37 (zk ⟨x.k, x.P, x.Q, x.g, x.s, x.lp, x.A, x.B, x.O, x.ls, x.V, (outF S), x.Pr⟩ ⟨.slice Ap x.lp.length cp, .slice As x.ls.length cs⟩)), (4, blkR g4 37 (zSA)), (12, blkR g26 27 (nn2 x.A x.B)), (13, blkR g27 137 (#[.slice (some ⟨g26, 0, none⟩) 2 2])), (11, blkR g21 54 (#[ev]))])) (fun _ _ => False) (fun W => (∃ (ev : Value) (vs : List Value), Mx none w W [(10, rowR 22 1 (3 + 2) vs ev), (14, valsR (shL x 2) vs), (0, bytR x.lp (.slice Ap x.lp.length cp)), (1, bytR x.ls (.slice As x.ls.length cs)), (2, blkR g2 37 (zk ⟨x.k, x.P, x.Q, x.g, x.s, x.lp, x.A, x.B, x.O, x.ls, x.V, (outF S), x.Pr⟩ ⟨.slice Ap x.lp.length cp, .slice As x.ls.length cs⟩)), (4, blkR g4 37 (zSA)), (12, blkR g26 27 (nn2 x.A x.B)), (13, blkR g27 137 (#[.slice (some ⟨g26, 0, none⟩) 2 2])), (11, blkR g21 54 (#[ev]))])) ?_ ?_ ?_ ?_
 ·intro l D o1 o2 W1 hD hL bW hrec hY
  have M1 := M28.step bW
  refine written1_any g27 g26 x.A x.B (fun k W => (∃ (ev : Value) (vs : List Value), Mx none w W [(10, rowR 22 1 (3 + k) vs ev), (14, valsR (shL x k) vs), (0, bytR x.lp (.slice Ap x.lp.length cp)), (1, bytR x.ls (.slice As x.ls.length cs)), (2, blkR g2 37 (zk ⟨x.k, x.P, x.Q, x.g, x.s, x.lp, x.A, x.B, x.O, x.ls, x.V, (outF S), x.Pr⟩ ⟨.slice Ap x.lp.length cp, .slice As x.ls.length cs⟩)), (4, blkR g4 37 (zSA)), (12, blkR g26 27 (nn2 x.A x.B)), (13, blkR g27 137 (#[.slice (some ⟨g26, 0, none⟩) 2 2])), (11, blkR g21 54 (#[ev]))])) _ l D o1 o2 W1 ?_ ?_ ⟨.slice (some ⟨g20, 0, none⟩) 3 3, [.slice A16 ([49]).length c16, .slice A18 ((sBy x.s)).length c18, .slice As x.ls.length cs], M1.sub ⟨rfl, rfl, rfl, rfl, rfl, rfl, rfl, rfl, rfl, trivial⟩⟩ hrec
  ·rintro k W ⟨ev, vs, M⟩
   exact ⟨M.blk (k := 13) rfl, M.blk (k := 12) rfl⟩
  ·rintro k W W' v hk ⟨ev, vs, M⟩ hb hv hf hre
   exact hY (k, v) W' ⟨hk, ev, vs, M.fresh hb 15 _ hv bytR_dep (fun b hb2 => ⟨hf b hb2, hv.lt hb2⟩)⟩ hre
 ·have hwle := M28.le
  rintro l ⟨k, bv⟩ W ra F28 hlo hlt ⟨hk, ev, vs, M28⟩
  replace F28 : Fx 39 ra _ := F28
  dsimp only at hk M28 F28 ⊢
  obtain ⟨Ab, cb, rfl⟩ := (M28.isb (k := 15) rfl).shape
  have CM : CellsA _ _ := (show CellsA W [(15, bytR (zq (sel2 x.A x.B k)) (.slice Ab (zq (sel2 x.A x.B k)).length cb)), (10, rowR 22 1 (3 + k) vs ev), (14, valsR (shL x k) vs), (0, bytR x.lp (.slice Ap x.lp.length cp)), (1, bytR x.ls (.slice As x.ls.length cs)), (2, blkR g2 37 (zk ⟨x.k, x.P, x.Q, x.g, x.s, x.lp, x.A, x.B, x.O, x.ls, x.V, (outF S), x.Pr⟩ ⟨.slice Ap x.lp.length cp, .slice As x.ls.length cs⟩)), (4, blkR g4 37 (zSA)), (12, blkR g26 27 (nn2 x.A x.B)), (13, blkR g27 137 (#[.slice (some ⟨g26, 0, none⟩) 2 2])), (11, blkR g21 54 (#[ev]))] from ⟨zab (M28.at_ 15 _ rfl), cells_row (M28.at_ 10 _ rfl), cells_vals (M28.at_ 14 _ rfl), zab (M28.at_ 0 _ rfl), zab (M28.at_ 1 _ rfl), zoa (M28.at_ 2 _ rfl), zoa (M28.at_ 4 _ rfl), zoa (M28.at_ 12 _ rfl), zoa (M28.at_ 13 _ rfl), zoa (M28.at_ 11 _ rfl), trivial⟩)
  replace M28 : Mx none w W [(15, bytR (zq (sel2 x.A x.B k)) (.slice Ab (zq (sel2 x.A x.B k)).length cb)), (10, rowR 22 1 (3 + k) vs ev), (14, valsR (shL x k) vs), (0, bytR x.lp (.slice Ap x.lp.length cp)), (1, bytR x.ls (.slice As x.ls.length cs)), (2, blkR g2 37 (zk ⟨x.k, x.P, x.Q, x.g, x.s, x.lp, x.A, x.B, x.O, x.ls, x.V, (outF S), x.Pr⟩ ⟨.slice Ap x.lp.length cp, .slice As x.ls.length cs⟩)), (4, blkR g4 37 (zSA)), (12, blkR g26 27 (nn2 x.A x.B)), (13, blkR g27 137 (#[.slice (some ⟨g26, 0, none⟩) 2 2])), (11, blkR g21 54 (#[ev]))] := M28
  have N28 := M28.oth CM 18
  clear CM M28
  refine wpIn_lit' (fun ⟨_, _, h⟩ => h) rfl ?_
  refine rm rfl F28 fun _ F29 => ⟨N28.keeps (i := 18) rfl, fun o hnc hoc => ?_⟩
  have hlz : l < W.heap.size := Nat.lt_of_lt_of_le hlt (N28.keeps (i := 18) rfl).size
  have M30 : Mx none w W [(15, bytR (zq (sel2 x.A x.B k)) (.slice Ab (zq (sel2 x.A x.B k)).length cb)), (10, rowR 22 1 (3 + k) vs ev), (14, valsR (shL x k) vs), (0, bytR x.lp (.slice Ap x.lp.length cp)), (1, bytR x.ls (.slice As x.ls.length cs)), (2, blkR g2 37 (zk ⟨x.k, x.P, x.Q, x.g, x.s, x.lp, x.A, x.B, x.O, x.ls, x.V, (outF S), x.Pr⟩ ⟨.slice Ap x.lp.length cp, .slice As x.ls.length cs⟩)), (4, blkR g4 37 (zSA)), (12, blkR g26 27 (nn2 x.A x.B)), (13, blkR g27 137 (#[.slice (some ⟨g26, 0, none⟩) 2 2])), (11, blkR g21 54 (#[ev]))] := N28.sub ⟨rfl, rfl, rfl, rfl, rfl, rfl, rfl, rfl, rfl, rfl, trivial⟩
  clear N28
  have CM : CellsA _ _ := (show CellsA W [(15, bytR (zq (sel2 x.A x.B k)) (.slice Ab (zq (sel2 x.A x.B k)).length cb)), (10, rowR 22 1 (3 + k) vs ev), (14, valsR (shL x k) vs), (0, bytR x.lp (.slice Ap x.lp.length cp)), (1, bytR x.ls (.slice As x.ls.length cs)), (2, blkR g2 37 (zk ⟨x.k, x.P, x.Q, x.g, x.s, x.lp, x.A, x.B, x.O, x.ls, x.V, (outF S), x.Pr⟩ ⟨.slice Ap x.lp.length cp, .slice As x.ls.length cs⟩)), (4, blkR g4 37 (zSA)), (12, blkR g26 27 (nn2 x.A x.B)), (13, blkR g27 137 (#[.slice (some ⟨g26, 0, none⟩) 2 2])), (11, blkR g21 54 (#[ev]))] from ⟨zab (M30.at_ 15 _ rfl), cells_row (M30.at_ 10 _ rfl), cells_vals (M30.at_ 14 _ rfl), zab (M30.at_ 0 _ rfl), zab (M30.at_ 1 _ rfl), zoa (M30.at_ 2 _ rfl), zoa (M30.at_ 4 _ rfl), zoa (M30.at_ 12 _ rfl), zoa (M30.at_ 13 _ rfl), zoa (M30.at_ 11 _ rfl), trivial⟩)
  have N30 := M30.putObj CM (by omega) hnc o
  have hLo : (W.putObj l o).heap[l]? = some o := World.putObj_heap_same hlz
  clear CM M30
  obtain ⟨Wp, hWp⟩ : ∃ x, x = W.putObj l o := ⟨_, rfl⟩
  rw [← hWp] at N30 hLo ⊢
  have CM : CellsA _ _ := (show CellsA Wp [(15, bytR (zq (sel2 x.A x.B k)) (.slice Ab (zq (sel2 x.A x.B k)).length cb)), (10, rowR 22 1 (3 + k) vs ev), (14, valsR (shL x k) vs), (0, bytR x.lp (.slice Ap x.lp.length cp)), (1, bytR x.ls (.slice As x.ls.length cs)), (2, blkR g2 37 (zk ⟨x.k, x.P, x.Q, x.g, x.s, x.lp, x.A, x.B, x.O, x.ls, x.V, (outF S), x.Pr⟩ ⟨.slice Ap x.lp.length cp, .slice As x.ls.length cs⟩)), (4, blkR g4 37 (zSA)), (12, blkR g26 27 (nn2 x.A x.B)), (13, blkR g27 137 (#[.slice (some ⟨g26, 0, none⟩) 2 2])), (11, blkR g21 54 (#[ev]))] from ⟨zab (N30.at_ 15 _ rfl), cells_row (N30.at_ 10 _ rfl), cells_vals (N30.at_ 14 _ rfl), zab (N30.at_ 0 _ rfl), zab (N30.at_ 1 _ rfl), zoa (N30.at_ 2 _ rfl), zoa (N30.at_ 4 _ rfl), zoa (N30.at_ 12 _ rfl), zoa (N30.at_ 13 _ rfl), zoa (N30.at_ 11 _ rfl), trivial⟩)
  have P30 := N30.oth CM 16
  clear CM N30
  refine wpIn_block ?_
  refine wpIn_lit' (fun ⟨_, _, h⟩ => h) rfl ?_
  refine zj (w' := Wp) (zc rfl) rfl F29 rfl (ev) (zkb _ _ rfl (F29.get (t := 5) rfl) (P30.blk (k := 11) rfl) rfl Tryz.underlying54 rfl) fun _ F31 => ?_
  refine rm rfl F31 fun _ F32 => zhc (zc rfl) rfl F32 rfl P30 19 (t := 22) (c := #[.slice Ab (zq (sel2 x.A x.B k)).length cb]) (k := 1) (m := 1) (y_litG 54 22 (s := 1) (zv := zN) Tryz.underlying54 (by kernel_rfl) (by kernel_rfl) rfl (#[.slice Ab (zq (sel2 x.A x.B k)).length cb]) (by decide) (by decide) (by simp only [List.map_toArray, List.map_cons, List.map_nil, (F32.get (t := 30) rfl)]; kernel_rfl)) ?_
  intro g33 a33 w33 F33 M33
  clear F32 P30
  refine zgb (zc rfl) rfl F33 rfl (run_appR M33 (k := 10) (kb := 19) (by_ := 24) rfl rfl rfl (one_slc rfl) (by decide) Tryz.underlying54 (by kernel_rfl) (by omega) (by unfold maxLen; omega) _ _ rfl (F33.get (t := 29) rfl) (F33.get (t := 31) rfl)) ?_
  intro v34 a34 w34 F34 M34
  replace M34 := M34.valsAdd (k := 14) (k2 := 15) rfl rfl
  obtain ⟨Ar34, cr34, rfl, -⟩ := row_slice (M34.rowF (k := 10) rfl)
  refine zr (zc rfl) rfl F34 M34 (k := 11) rfl _ _ _ rfl (F34.get (t := 5) rfl) (F34.get (t := 32) rfl) (#[.slice Ar34 (3 + k + 1) cr34]) _ rfl (zL rfl) (one_slc rfl) (zo rfl) (by kernel_rfl) ?_
  intro w35 M35
  have KO := M35.keeps (i := 16) rfl
  have Me : Mx none w w35 [(10, rowR 22 1 (3 + (k + 1)) (vs ++ [.slice Ab (zq (sel2 x.A x.B k)).length cb]) (.slice Ar34 (3 + k + 1) cr34)), (14, valsR (shL x (k + 1)) (vs ++ [.slice Ab (zq (sel2 x.A x.B k)).length cb])), (0, bytR x.lp (.slice Ap x.lp.length cp)), (1, bytR x.ls (.slice As x.ls.length cs)), (2, blkR g2 37 (zk ⟨x.k, x.P, x.Q, x.g, x.s, x.lp, x.A, x.B, x.O, x.ls, x.V, (outF S), x.Pr⟩ ⟨.slice Ap x.lp.length cp, .slice As x.ls.length cs⟩)), (4, blkR g4 37 (zSA)), (12, blkR g26 27 (nn2 x.A x.B)), (13, blkR g27 137 (#[.slice (some ⟨g26, 0, none⟩) 2 2])), (11, blkR g21 54 (#[(.slice Ar34 (3 + k + 1) cr34)]))] := M35.sub ⟨rfl, (by rw [shL_succ x hk]; rfl), rfl, rfl, rfl, rfl, rfl, rfl, rfl, trivial⟩
  have CM : CellsA _ _ := (show CellsA w35 [(10, rowR 22 1 (3 + (k + 1)) (vs ++ [.slice Ab (zq (sel2 x.A x.B k)).length cb]) (.slice Ar34 (3 + k + 1) cr34)), (14, valsR (shL x (k + 1)) (vs ++ [.slice Ab (zq (sel2 x.A x.B k)).length cb])), (0, bytR x.lp (.slice Ap x.lp.length cp)), (1, bytR x.ls (.slice As x.ls.length cs)), (2, blkR g2 37 (zk ⟨x.k, x.P, x.Q, x.g, x.s, x.lp, x.A, x.B, x.O, x.ls, x.V, (outF S), x.Pr⟩ ⟨.slice Ap x.lp.length cp, .slice As x.ls.length cs⟩)), (4, blkR g4 37 (zSA)), (12, blkR g26 27 (nn2 x.A x.B)), (13, blkR g27 137 (#[.slice (some ⟨g26, 0, none⟩) 2 2])), (11, blkR g21 54 (#[(.slice Ar34 (3 + k + 1) cr34)]))] from ⟨cells_row (Me.at_ 10 _ rfl), cells_vals (Me.at_ 14 _ rfl), zab (Me.at_ 0 _ rfl), zab (Me.at_ 1 _ rfl), zoa (Me.at_ 2 _ rfl), zoa (Me.at_ 4 _ rfl), zoa (Me.at_ 12 _ rfl), zoa (Me.at_ 13 _ rfl), zoa (Me.at_ 11 _ rfl), trivial⟩)
  exact ⟨KO, fun o2 => ⟨_, _, Me.putObj CM (by omega) (fun o3 h3 => by rw [KO.same l o hLo hoc] at h3; cases h3; exact hoc) o2⟩⟩
 ·rintro l D o W a37 hD hL ⟨ev, vs, M37⟩ hnc hdd F37
  have hwle := M28.le
  have CM : CellsA W [(10, rowR 22 1 (3 + 2) vs ev), (14, valsR (shL x 2) vs), (0, bytR x.lp (.slice Ap x.lp.length cp)), (1, bytR x.ls (.slice As x.ls.length cs)), (2, blkR g2 37 (zk ⟨x.k, x.P, x.Q, x.g, x.s, x.lp, x.A, x.B, x.O, x.ls, x.V, (outF S), x.Pr⟩ ⟨.slice Ap x.lp.length cp, .slice As x.ls.length cs⟩)), (4, blkR g4 37 (zSA)), (12, blkR g26 27 (nn2 x.A x.B)), (13, blkR g27 137 (#[.slice (some ⟨g26, 0, none⟩) 2 2])), (11, blkR g21 54 (#[ev]))] := ⟨cells_row (M37.at_ 10 _ rfl), cells_vals (M37.at_ 14 _ rfl), zab (M37.at_ 0 _ rfl), zab (M37.at_ 1 _ rfl), zoa (M37.at_ 2 _ rfl), zoa (M37.at_ 4 _ rfl), zoa (M37.at_ 12 _ rfl), zoa (M37.at_ 13 _ rfl), zoa (M37.at_ 11 _ rfl), trivial⟩
  replace M37 := M37.putObj CM (by omega) hnc o
  clear CM
  have CM : CellsA (W.putObj l o) [(10, rowR 22 1 (3 + 2) vs ev), (14, valsR (shL x 2) vs), (0, bytR x.lp (.slice Ap x.lp.length cp)), (1, bytR x.ls (.slice As x.ls.length cs)), (2, blkR g2 37 (zk ⟨x.k, x.P, x.Q, x.g, x.s, x.lp, x.A, x.B, x.O, x.ls, x.V, (outF S), x.Pr⟩ ⟨.slice Ap x.lp.length cp, .slice As x.ls.length cs⟩)), (4, blkR g4 37 (zSA)), (12, blkR g26 27 (nn2 x.A x.B)), (13, blkR g27 137 (#[.slice (some ⟨g26, 0, none⟩) 2 2])), (11, blkR g21 54 (#[ev]))] := ⟨cells_row (M37.at_ 10 _ rfl), cells_vals (M37.at_ 14 _ rfl), zab (M37.at_ 0 _ rfl), zab (M37.at_ 1 _ rfl), zoa (M37.at_ 2 _ rfl), zoa (M37.at_ 4 _ rfl), zoa (M37.at_ 12 _ rfl), zoa (M37.at_ 13 _ rfl), zoa (M37.at_ 11 _ rfl), trivial⟩
  replace M37 := M37.obj CM 17 D _ hdd rfl
  clear CM
  have hDge : w.heap.size ≤ D := by omega
  clear hdd hnc hL hD
  obtain ⟨w37, hw37⟩ : ∃ x, x = W.putObj l o := ⟨_, rfl⟩
  rw [← hw37] at M37 ⊢
  clear hw37 F27 M28
  refine hK23 _ _ (zSk fun _ hK38 => ?_)
  refine z4a F37 [fun vE => vE = .pointer (some ⟨g2, 60, none⟩), fun vE => vE = .slice (some ⟨g2, 60, none⟩) 16 16, fun vE => vE = ev] (JM none w fun SV pV => [(17, objR D (.deferred (some []))), (10, rowR 22 1 (3 + 2) vs ev), (14, valsR (shL x 2) vs), (0, bytR x.lp (.slice Ap x.lp.length cp)), (1, bytR x.ls (.slice As x.ls.length cs)), (2, blkR g2 37 (zk ⟨x.k, x.P, x.Q, x.g, x.s, x.lp, x.A, x.B, x.O, x.ls, x.V, (outF S), x.Pr⟩ ⟨.slice Ap x.lp.length cp, .slice As x.ls.length cs⟩)), (4, blkR g4 37 (zSA)), (12, blkR g26 27 (nn2 x.A x.B)), (13, blkR g27 137 (#[.slice (some ⟨g26, 0, none⟩) 2 2])), (11, blkR g21 54 (#[ev]))]) 3 rfl (by kernel_rfl) rfl ⟨trivial, trivial, trivial, trivial⟩ (fun p => (M37.step (zta _)).sub ⟨rfl, rfl, rfl, rfl, rfl, rfl, rfl, rfl, rfl, rfl, trivial⟩) ⟨?_, ?_, ?_, trivial⟩ ?_
  ·intro ua uw SV pV (M : Mx none w uw _) hk hn hd
   have e2 : ua.eval (.tmp 2) = .pointer (some ⟨g2, 0, none⟩) := (show ua.eval (.tmp 2) = _ from hd 2 (by decide)).trans (F37.get (t := 2) rfl)
   exact zra (zc rfl) (.pointer (some ⟨g2, 60, none⟩)) (y_fa (off := 60) rfl e2 (by kernel_rfl) rfl) rfl (M.sub ⟨rfl, rfl, rfl, rfl, rfl, rfl, rfl, rfl, rfl, rfl, trivial⟩)
  ·intro ua uw SV pV (M : Mx none w uw _) hk hn hd
   have e33 : ua.eval (.tmp 33) = .pointer (some ⟨g2, 60, none⟩) := zQ1 (hd 33 (by decide))
   exact zra (zc rfl) (.slice (some ⟨g2, 60, none⟩) 16 16) (y_sliceSumO _ rfl e33) rfl (M.sub ⟨rfl, rfl, rfl, rfl, rfl, rfl, rfl, rfl, rfl, rfl, trivial⟩)
  ·intro ua uw SV pV (M : Mx none w uw _) hk hn hd
   have e5 : ua.eval (.tmp 5) = .pointer (some ⟨g21, 0, none⟩) := (show ua.eval (.tmp 5) = _ from hd 5 (by decide)).trans (F37.get (t := 5) rfl)
   exact zra (zc rfl) (ev) (zkb _ _ rfl e5 (M.blk (k := 11) rfl) rfl Tryz.underlying54 rfl) rfl (M.sub ⟨rfl, rfl, rfl, rfl, rfl, rfl, rfl, rfl, rfl, rfl, trivial⟩)
  intro p39 a39 w39 M39 G39 y39
  obtain ⟨-, q1, q2, -⟩ := y39
  have r1 : p39 1 = .slice (some ⟨g2, 60, none⟩) 16 16 := q1
  have r2 : p39 2 = ev := q2
  replace M39 : Mx _ _ w39 [(17, objR D (.deferred (some []))), (10, rowR 22 1 (3 + 2) vs ev), (14, valsR (shL x 2) vs), (0, bytR x.lp (.slice Ap x.lp.length cp)), (1, bytR x.ls (.slice As x.ls.length cs)), (2, blkR g2 37 (zk ⟨x.k, x.P, x.Q, x.g, x.s, x.lp, x.A, x.B, x.O, x.ls, x.V, (outF S), x.Pr⟩ ⟨.slice Ap x.lp.length cp, .slice As x.ls.length cs⟩)), (4, blkR g4 37 (zSA)), (12, blkR g26 27 (nn2 x.A x.B)), (13, blkR g27 137 (#[.slice (some ⟨g26, 0, none⟩) 2 2])), (11, blkR g21 54 (#[ev]))] := M39
  simp only [List.take, layV, Nat.zero_add, Nat.reduceAdd, r1, r2] at G39
  refine zaa (zc rfl) rfl G39 rfl rfl (zE Tryz.func76 rfl) #[.slice (some ⟨g2, 60, none⟩) 16 16, ev] (z3a (G39.get (t := 34) rfl) (G39.get (t := 35) rfl)) (zca ((kM _ _ _ (isb_sumO hbd (M39.blk (k := 2) rfl) (side_Ky (SideN.mk x.k x.P x.Q x.g x.s x.lp x.A x.B x.O x.ls x.V (outF S) x.Pr) _)) (M39.rowP (k := 10) (k2 := 14) rfl rfl rfl)))) ?_
  rintro _ w40 a40 ⟨rfl, b40⟩ F40
  have M40 := M39.step b40
  refine zj (w' := w40) (zc rfl) rfl F40 rfl (.pointer (some ⟨g2, 76, none⟩)) (y_fa (off := 76) rfl (F40.get (t := 2) rfl) (by kernel_rfl) rfl) fun _ F41 => ?_
  refine zr (zc rfl) rfl F41 M40 (k := 2) rfl _ _ _ rfl (F41.get (t := 37) rfl) (F41.get (t := 36) rfl) (zi (outF U)) (zk ⟨x.k, x.P, x.Q, x.g, x.s, x.lp, x.A, x.B, x.O, x.ls, x.V, (outF S), (outF U)⟩ ⟨.slice Ap x.lp.length cp, .slice As x.ls.length cs⟩) rfl (zL rfl) (zda _) (by kernel_rfl) (by kernel_rfl) ?_
  intro w42 M42
  refine hK38 _ _ (zT fun _ hK43 => zj (w' := w42) (zc rfl) rfl F41 rfl _ (zxa _ _ rfl (F41.get (t := 2) rfl) (M42.blk (k := 2) rfl) (zk ⟨x.k, x.P, x.Q, x.g, x.s, x.lp, x.A, x.B, x.O, x.ls, x.V, (outF S), (outF U)⟩ ⟨.slice Ap x.lp.length cp, .slice As x.ls.length cs⟩) (z1a rfl) Tryz.underlying37 rfl (by kernel_rfl)) fun _ F44 => ?_)
  refine zr (zc rfl) rfl F44 M42 (k := 4) rfl _ _ _ rfl (F44.get (t := 4) rfl) (F44.get (t := 38) rfl) (zk ⟨x.k, x.P, x.Q, x.g, x.s, x.lp, x.A, x.B, x.O, x.ls, x.V, (outF S), (outF U)⟩ ⟨.slice Ap x.lp.length cp, .slice As x.ls.length cs⟩) _ rfl (zL rfl) (zpa (w := w42) ⟨(M42.isb (k := 0) rfl), (M42.isb (k := 1) rfl)⟩) (zo rfl) (by kernel_rfl) ?_
  intro w45 M45
  refine hK43 _ _ (wp_ret ?_)
  try simp only [Exit.then, Exit.inBlock, Exit.jump]
  have hDD := M45.anObj (i := 17) rfl
  have M9 : Mx none w w45 [(4, blkR g4 37 (zk ⟨x.k, x.P, x.Q, x.g, x.s, x.lp, x.A, x.B, x.O, x.ls, x.V, (outF S), (outF U)⟩ ⟨.slice Ap x.lp.length cp, .slice As x.ls.length cs⟩))] := M45.sub ⟨rfl, trivial⟩
  have Mz := M9.putObj (show CellsA w45 [(4, blkR g4 37 (zk ⟨x.k, x.P, x.Q, x.g, x.s, x.lp, x.A, x.B, x.O, x.ls, x.V, (outF S), (outF U)⟩ ⟨.slice Ap x.lp.length cp, .slice As x.ls.length cs⟩))] from ⟨zoa (M9.at_ 4 _ rfl), trivial⟩) hDge (fun o3 h3 => by rw [hDD] at h3; cases h3; rfl) (.deferred none)
  exact bodyM_ret1 F44.defers hDD (results_cell_row rfl _ _ _ _ _ (0, 0) _ (F44.get (t := 4) rfl) (Mz.blk (k := 4) rfl) Tryz.underlying37 rfl (by kernel_rfl)) ⟨rfl, Mz.below⟩
 ·rintro l D o c W aq hD hL hff
  exact hff.elim
theorem hello_any (k : Int) (P Q g : Nat) (ho : P % 2 = 1) (h1 : 1 < P) (hP : P < 4294967296 ^ 8) (h2 : 2 < Q) (hQ : Q < 4294967296 ^ 8) (hg : g < 4294967296 ^ 8) (t : ByteArray) (lp ld : List UInt8) (vp vd : Value) (hpl : lp.length ≤ 100000) (w : World) (hp : IsB w lp vp) (hd : IsB w ld vd) :
  Calls Tryz.prog 13 #[.agg (zg k P Q g), .string t, vp, vd] w fun e w' => ∃ vc, e = .returned (.tuple #[.agg (zk ⟨k, P, Q, g, t, lp, g ^ texN Q [97] [ld] % P, 0, texN Q [97] [ld], [], 0, fun _ => 0, fun _ => 0⟩ ⟨vc, zN⟩), numV (g ^ texN Q [97] [ld] % P)]) ∧ SideIs w' ⟨k, P, Q, g, t, lp, g ^ texN Q [97] [ld] % P, 0, texN Q [97] [ld], [], 0, fun _ => 0, fun _ => 0⟩ ⟨vc, zN⟩ ∧ (∀ b, bfp vc b → w.heap.size ≤ b) ∧ Below w.heap.size w w' := by
 obtain ⟨O, hO⟩ : ∃ O, texN Q [97] [ld] = O := ⟨_, rfl⟩
 have hOl : O < 4294967296 ^ 8 := by rw [← hO]; exact Nat.lt_trans (z8b h2 _).2 hQ
 have kE := fun (w : World) (u : Value) (h : IsP w [ld] u) => texp_any k P Q g h2 hQ ({ data := #[97] } : ByteArray) (by decide) [ld] u (show 1 ≤ 90 by decide) w h
 rw [show texN Q (sBy ({ data := #[97] } : ByteArray)) [ld] = O from hO] at kE
 have kR := fun w => zoc k P Q g ho h1 hP g O hg hOl w
 rw [hO]
 obtain ⟨N, hN⟩ : ∃ N, g ^ O % P = N := ⟨_, rfl⟩
 rw [hN] at kR ⊢
 clear hN hO
 obtain ⟨Ap, cp, rfl⟩ := id hp.shape
 obtain ⟨As, cs, rfl⟩ := id hd.shape
 refine zea (args := [.agg (zg k P Q g), .string t, .slice Ap lp.length cp, .slice As ld.length cs]) 29 Tryz.func13 rfl rfl rfl ?_
 intro fa F
 have M := Mx.start w
 replace M := M.argB 0 hp (fun g e => by cases e)
 replace M := M.argB 1 hd (fun g e => by cases e)
 refine zT fun _ hK1 => zh (zc rfl) rfl F rfl M 2 (t := 29) (c := zg k P Q g) (by unfold execOp; simp only [(F.get (t := 0) rfl)]; kernel_rfl) ?_
 intro g2 a2 w2 F2 M2
 refine zh (zc rfl) rfl F2 rfl M2 3 (t := 37) (c := zSA) (by unfold execOp; kernel_rfl) ?_
 intro g3 a3 w3 F3 M3
 refine zh (zc rfl) rfl F3 rfl M3 4 (t := 27) (c := numA 0) (zu rfl) ?_
 intro g4 a4 w4 F4 M4
 refine hK1 _ _ (zT fun _ hK5 => zj (w' := w4) (zc rfl) rfl F4 rfl _ (zxa _ _ rfl (F4.get (t := 4) rfl) (M4.blk (k := 2) rfl) (zg k P Q g) (z1a rfl) Tryz.underlying29 rfl (by kernel_rfl)) fun _ F6 => ?_)
 refine rm rfl F6 fun _ F7 => zhc (zc rfl) rfl F7 rfl M4 5 (t := 22) (c := #[.slice As ld.length cs]) (k := 1) (m := 1) (y_litG 54 22 (s := 1) (zv := zN) Tryz.underlying54 (by kernel_rfl) (by kernel_rfl) rfl (#[.slice As ld.length cs]) (by decide) (by decide) (by simp only [List.map_toArray, List.map_cons, List.map_nil, (F7.get (t := 13) rfl)]; kernel_rfl)) ?_
 intro g8 a8 w8 F8 M8
 refine zaa (zc rfl) rfl F8 rfl rfl (zE Tryz.func35 rfl) #[.agg (zg k P Q g), .string ({ data := #[97] }), .slice (some ⟨g8, 0, none⟩) 1 1] (args3 (F8.get (t := 12) rfl) rfl (F8.get (t := 14) rfl)) (zca ((kE w8 _ (isP_blk (M8.blk (k := 5) rfl) rfl rfl (by decide) (fun j l hj => by
   match j, hj with
   | 0, hj => obtain rfl : ld = l := Option.some.inj hj; exact ⟨_, rfl, (M8.isb (k := 1) rfl)⟩
   | n + 1, hj => cases hj))))) ?_
 rintro _ w9 a9 ⟨rfl, b9⟩ F9
 have M9 := M8.step b9
 refine zh (zc rfl) rfl F9 rfl M9 6 (t := 27) (c := numA 0) (zu rfl) ?_
 intro g10 a10 w10 F10 M10
 refine zr (zc rfl) rfl F10 M10 (k := 6) rfl _ _ _ rfl (F10.get (t := 10) rfl) (F10.get (t := 15) rfl) (numA O) _ rfl (zL rfl) (zy _) (zo rfl) zd ?_
 intro w11 M11
 refine hK5 _ _ (zT fun _ hK12 => zAx 4 [(16, .agg (zg k P Q g)), (17, .pointer (some ⟨g2, 17, none⟩)), (18, numV g), (19, numV O)] [0, 0, 1] (zp (M11.blk (k := 2) rfl) (zp (M11.blk (k := 6) rfl) dnil)) [g2, g2, g10] F10 fun _ F13 => ?_)
 refine zaa (zc rfl) rfl F13 rfl rfl (zE Tryz.func33 rfl) #[.agg (zg k P Q g), numV g, numV O] (args3 (F13.get (t := 16) rfl) (F13.get (t := 18) rfl) (F13.get (t := 19) rfl)) (zca (kR w11)) ?_
 rintro _ w14 a14 ⟨rfl, b14⟩ F14
 have M14 := M11.step b14
 refine zh (zc rfl) rfl F14 rfl M14 7 (t := 27) (c := numA 0) (zu rfl) ?_
 intro g15 a15 w15 F15 M15
 refine zr (zc rfl) rfl F15 M15 (k := 7) rfl _ _ _ rfl (F15.get (t := 11) rfl) (F15.get (t := 20) rfl) (numA N) _ rfl (zL rfl) (zy _) (zo rfl) zd ?_
 intro w16 M16
 refine hK12 _ _ (zSk fun _ hK17 => ?_)
 refine z4a F15 [fun vE => vE = .agg (zg k P Q g), fun vE => vE = .string t, fun vE => vE = .slice Ap lp.length cp, fun _ => True, fun vE => vE = numV N, fun vE => vE = numV O, fun _ => True, fun vE => vE = numV N, fun vE => vE = undef] (JQ none w (fun SV => SV 6 = true → SV 3 = true) (fun (xJ : Unit) SV pV => [(0, bytR lp (.slice Ap lp.length cp)), (1, bytR ld (.slice As ld.length cs)), (2, blkR g2 29 (zg k P Q g)), (3, blkR g3 37 (zk (cond (SV 8) (⟨k, P, Q, g, t, lp, N, 0, O, [], 0, (fun _ => 0), (fun _ => 0)⟩ : SideN) ⟨0, 0, 0, 0, "".toUTF8, [], 0, 0, 0, [], 0, (fun _ => 0), (fun _ => 0)⟩) (cond (SV 8) (⟨(pV 3), zN⟩ : SideV) ⟨zN, zN⟩))), (4, blkR g4 27 (numA 0)), (5, blkR g8 22 (#[.slice As ld.length cs])), (6, blkR g10 27 (numA O)), (7, blkR g15 27 (numA N)), (8, z7b (SV 3) (ownR lp (pV 3))), (9, z7b (SV 6) (prR (pV 6 = .agg (zk ⟨k, P, Q, g, t, lp, N, 0, O, [], 0, (fun _ => 0), (fun _ => 0)⟩ ⟨(pV 3), zN⟩))))])) 9 rfl (by kernel_rfl) rfl ⟨trivial, trivial, trivial, trivial, trivial, trivial, trivial, trivial, fun _ => Iff.rfl, trivial⟩ (fun p => JQ.mk (fun h => absurd h (by decide)) () ((((M16.step (zta _)).triv 8).triv 9).sub ⟨rfl, rfl, rfl, rfl, rfl, rfl, rfl, rfl, rfl, rfl, trivial⟩)) ⟨?_, ?_, ?_, ?_, ?_, ?_, ?_, ?_, ?_, trivial⟩ ?_
 ·intro ua uw SV pV M0 hk hn hd
  obtain ⟨HP, xJ, M⟩ := M0
  replace M : Mx none w uw _ := M
  have e4 : ua.eval (.tmp 4) = .pointer (some ⟨g2, 0, none⟩) := (show ua.eval (.tmp 4) = _ from hd 4 (by decide)).trans (F15.get (t := 4) rfl)
  exact zra (zc rfl) _ (zxa _ _ rfl e4 (M.blk (k := 2) rfl) (zg k P Q g) (z1a rfl) Tryz.underlying29 rfl (by kernel_rfl)) rfl ((JQ.mk HP () (M.sub ⟨rfl, rfl, rfl, rfl, rfl, rfl, rfl, rfl, rfl, rfl, trivial⟩)))
 ·intro ua uw SV pV M0 hk hn hd
  obtain ⟨HP, xJ, M⟩ := M0
  replace M : Mx none w uw _ := M
  have e1 : ua.eval (.tmp 1) = .string t := (show ua.eval (.tmp 1) = _ from hd 1 (by decide)).trans (F15.get (t := 1) rfl)
  exact zra (zc rfl) (.string t) (run_mv _ (.inl rfl) e1) rfl ((JQ.mk HP () (M.sub ⟨rfl, rfl, rfl, rfl, rfl, rfl, rfl, rfl, rfl, rfl, trivial⟩)))
 ·intro ua uw SV pV M0 hk hn hd
  obtain ⟨HP, xJ, M⟩ := M0
  replace M : Mx none w uw _ := M
  have e2 : ua.eval (.tmp 2) = .slice Ap lp.length cp := (show ua.eval (.tmp 2) = _ from hd 2 (by decide)).trans (F15.get (t := 2) rfl)
  exact zra (zc rfl) (.slice Ap lp.length cp) (run_mv _ (.inl rfl) e2) rfl ((JQ.mk HP () (M.sub ⟨rfl, rfl, rfl, rfl, rfl, rfl, rfl, rfl, rfl, rfl, trivial⟩)))
 ·intro ua uw SV pV M0 hk hn hd
  obtain ⟨HP, xJ, M⟩ := M0
  replace M : Mx none w uw _ := M
  have e23 : ua.eval (.tmp 23) = .slice Ap lp.length cp := zQ1 (hd 23 (by decide))
  exact zza (zc rfl) rfl #[.slice Ap lp.length cp] (zwa e23) (zE Tryz.func36 rfl) (((clone_r lp (.slice Ap lp.length cp) (by omega) uw (M.isb (k := 0) rfl))).mono fun e w2 h => (by obtain ⟨u, h1, h2, h3⟩ := h; exact ⟨u, h1, trivial, (JQ.mk (fun _ => rfl) () ((M.newO h3 8 h2).sub ⟨rfl, rfl, rfl, (side_off (hn 8 (by kernel_rfl)) rfl), rfl, rfl, rfl, rfl, rfl, (condR_off (hn 6 (by kernel_rfl)) rfl), trivial⟩))⟩))
 ·intro ua uw SV pV M0 hk hn hd
  obtain ⟨HP, xJ, M⟩ := M0
  replace M : Mx none w uw _ := M
  have e11 : ua.eval (.tmp 11) = .pointer (some ⟨g15, 0, none⟩) := (show ua.eval (.tmp 11) = _ from hd 11 (by decide)).trans (F15.get (t := 11) rfl)
  exact zra (zc rfl) (numV N) (zxa _ _ rfl e11 (M.blk (k := 7) rfl) (numA N) (z1a rfl) Tryz.underlying27 rfl zd) rfl ((JQ.mk HP () (M.sub ⟨rfl, rfl, rfl, rfl, rfl, rfl, rfl, rfl, rfl, rfl, trivial⟩)))
 ·intro ua uw SV pV M0 hk hn hd
  obtain ⟨HP, xJ, M⟩ := M0
  replace M : Mx none w uw _ := M
  have e10 : ua.eval (.tmp 10) = .pointer (some ⟨g10, 0, none⟩) := (show ua.eval (.tmp 10) = _ from hd 10 (by decide)).trans (F15.get (t := 10) rfl)
  exact zra (zc rfl) (numV O) (zxa _ _ rfl e10 (M.blk (k := 6) rfl) (numA O) (z1a rfl) Tryz.underlying27 rfl zd) rfl ((JQ.mk HP () (M.sub ⟨rfl, rfl, rfl, rfl, rfl, rfl, rfl, rfl, rfl, rfl, trivial⟩)))
 ·intro ua uw SV pV M0 hk hn hd
  obtain ⟨HP, xJ, M⟩ := M0
  replace M : Mx none w uw _ := M
  have e21 : ua.eval (.tmp 21) = .agg (zg k P Q g) := zQ1 (hd 21 (by decide))
  have e22 : ua.eval (.tmp 22) = .string t := zQ1 (hd 22 (by decide))
  obtain ⟨s3, f24, q24⟩ := (show SV 3 = true ∧ ua.eval (.tmp 24) = pV 3 ∧ stE _ 3 (pV 3) from hd 24 (by decide))
  have e24 : ua.eval (.tmp 24) = (pV 3) := f24
  have e25 : ua.eval (.tmp 25) = numV N := zQ1 (hd 25 (by decide))
  have e26 : ua.eval (.tmp 26) = numV O := zQ1 (hd 26 (by decide))
  obtain ⟨A0_, c0_, h0_⟩ := (M.isO (k := 8) (condR_look s3 rfl)).shape
  exact zra (zc rfl) (.agg (zk ⟨k, P, Q, g, t, lp, N, 0, O, [], 0, (fun _ => 0), (fun _ => 0)⟩ ⟨(pV 3), zN⟩)) (by unfold execOp; simp only [List.map_toArray, List.map_cons, List.map_nil, e21, e22, e24, e25, e26, h0_]; kernel_rfl) trivial ((JQ.mk (fun _ => s3) () ((M.prP 9 rfl).sub ⟨rfl, rfl, rfl, rfl, rfl, rfl, rfl, rfl, rfl, rfl, trivial⟩)))
 ·intro ua uw SV pV M0 hk hn hd
  obtain ⟨HP, xJ, M⟩ := M0
  replace M : Mx none w uw _ := M
  have e11 : ua.eval (.tmp 11) = .pointer (some ⟨g15, 0, none⟩) := (show ua.eval (.tmp 11) = _ from hd 11 (by decide)).trans (F15.get (t := 11) rfl)
  exact zra (zc rfl) (numV N) (zxa _ _ rfl e11 (M.blk (k := 7) rfl) (numA N) (z1a rfl) Tryz.underlying27 rfl zd) rfl ((JQ.mk HP () (M.sub ⟨rfl, rfl, rfl, rfl, rfl, rfl, rfl, rfl, rfl, rfl, trivial⟩)))
 ·intro ua uw SV pV M0 hk hn hd
  obtain ⟨HP, xJ, M⟩ := M0
  replace M : Mx none w uw _ := M
  have e8 : ua.eval (.tmp 8) = .pointer (some ⟨g3, 0, none⟩) := (show ua.eval (.tmp 8) = _ from hd 8 (by decide)).trans (F15.get (t := 8) rfl)
  obtain ⟨s6, f27, q27⟩ := (show SV 6 = true ∧ ua.eval (.tmp 27) = pV 6 ∧ stE _ 6 (pV 6) from hd 27 (by decide))
  have e27 : ua.eval (.tmp 27) = (pV 6) := f27
  have hpu_ : pV 6 = .agg (zk ⟨k, P, Q, g, t, lp, N, 0, O, [], 0, (fun _ => 0), (fun _ => 0)⟩ ⟨(pV 3), zN⟩) := (show (prR (pV 6 = .agg (zk ⟨k, P, Q, g, t, lp, N, 0, O, [], 0, (fun _ => 0), (fun _ => 0)⟩ ⟨(pV 3), zN⟩))).F uw from M.at_ 9 _ (condR_look s6 rfl))
  have s3 : SV 3 = true := HP s6
  exact hopM_doM (zc rfl) rfl (run_st M (k := 3) rfl _ _ _ rfl e8 (e27.trans hpu_) (zk ⟨k, P, Q, g, t, lp, N, 0, O, [], 0, (fun _ => 0), (fun _ => 0)⟩ ⟨(pV 3), zN⟩) _ rfl (zL rfl) (zpa (w := uw) ⟨M.isO (k := 8) (condR_look s3 rfl), zfa _⟩) (zo rfl) (by kernel_rfl)) (fun w2 h2 => (JQ.mk HP () (h2.sub ⟨rfl, rfl, rfl, rfl, rfl, rfl, rfl, rfl, rfl, rfl, trivial⟩))) rfl
 intro p18 a18 w18 M18 G18 y18
 obtain ⟨-, -, -, -, -, -, -, q7, -, -⟩ := y18
 have r7 : p18 7 = numV N := q7
 obtain ⟨-, xJ18, M18⟩ := M18
 replace M18 : Mx _ _ w18 [(0, bytR lp (.slice Ap lp.length cp)), (1, bytR ld (.slice As ld.length cs)), (2, blkR g2 29 (zg k P Q g)), (3, blkR g3 37 (zk ⟨k, P, Q, g, t, lp, N, 0, O, [], 0, (fun _ => 0), (fun _ => 0)⟩ ⟨(p18 3), zN⟩)), (4, blkR g4 27 (numA 0)), (5, blkR g8 22 (#[.slice As ld.length cs])), (6, blkR g10 27 (numA O)), (7, blkR g15 27 (numA N)), (8, z7b true (ownR lp (p18 3))), (9, z7b true (prR (p18 6 = .agg (zk ⟨k, P, Q, g, t, lp, N, 0, O, [], 0, (fun _ => 0), (fun _ => 0)⟩ ⟨(p18 3), zN⟩))))] := M18
 simp only [List.take, layV, Nat.zero_add, Nat.reduceAdd, r7] at G18
 refine zr (zc rfl) rfl G18 M18 (k := 4) rfl _ _ _ rfl (G18.get (t := 9) rfl) (G18.get (t := 28) rfl) (numA N) _ rfl (zL rfl) (zy _) (zo rfl) zd ?_
 intro w19 M19
 refine hK17 _ _ (wp_ret ?_)
 try simp only [Exit.then, Exit.inBlock, Exit.jump]
 exact bodyPost_ret (res2c rfl (G18.get (t := 8) rfl) (M19.blk (k := 3) rfl) (G18.get (t := 9) rfl) (M19.blk (k := 4) rfl) Tryz.underlying37 rfl (by kernel_rfl) Tryz.underlying27 rfl zd) G18.defers ⟨_, rfl, ⟨(M19.isO (k := 8) rfl), zfa _⟩, fun g hg => (M19.owns (k := 8) rfl g (bfp_ofp hg)), M19.below⟩
structure RecN where
 p : Int
 s : ByteArray
 l2 : List UInt8
 a : Nat
 b : Nat
 l5 : List UInt8
 t : Int
 c : Int
 z : Int
structure RecV where
 v2 : Value
 v5 : Value
def recA (r : RecN) (V : RecV) : Array Value := #[.int .i64 r.p, .string r.s, V.v2, numF r.a 0, numF r.a 1, numF r.a 2, numF r.a 3, numF r.a 4, numF r.a 5, numF r.a 6, numF r.a 7, numF r.b 0, numF r.b 1, numF r.b 2, numF r.b 3, numF r.b 4, numF r.b 5, numF r.b 6, numF r.b 7, V.v5, .int .i64 r.t, .int .i64 r.c, .int .i64 r.z]
structure RecIs (w : World) (r : RecN) (V : RecV) : Prop where
 h2 : IsB w r.l2 V.v2
 h5 : IsB w r.l5 V.v5
theorem recA_one {w : World} {r : RecN} {V : RecV} (h : RecIs w r V) : (recA r V).all (·.oneCell') = true := by
 obtain ⟨v2, v5⟩ := V
 obtain ⟨A2, c2, rfl⟩ := h.h2.shape
 obtain ⟨A5, c5, rfl⟩ := h.h5.shape
 simp [recA, numF, Value.oneCell']
theorem zgc (g : Nat) : ¬ bfp (zN) g := fun ⟨o, s, n, c, e, _⟩ => by cases e
theorem eqn_is {x : Nat} (h : x = 0) (w : World) : (Op.equalIn 10000 27 (.agg (numA x)) (.agg (numA 0))).run Tryz.prog w = .ok true w := by
 rw [h]; exact eqn_same 0 w
theorem eqn_no {x : Nat} (hx : x < 4294967296 ^ 8) (h : ¬ x = 0) (w : World) : (Op.equalIn 10000 27 (.agg (numA x)) (.agg (numA 0))).run Tryz.prog w = .ok false w := by
 rw [eq_num_run 9998 x 0 hx (by decide), decide_eq_false h]
noncomputable def offB (P Q g v o : Nat) : Nat := (kN Q * v % P + g ^ o % P) % P
noncomputable def offS (k : Int) (P Q g : Nat) (s : ByteArray) (l : List UInt8) (v a o : Nat) : SideN := ⟨k, P, Q, g, s, [], a, offB P Q g v o, o, l, v, fun _ => 0, fun _ => 0⟩
noncomputable def offN (P Q g v a o : Nat) : Nat := (a * (v ^ uN Q a (offB P Q g v o) % P) % P) ^ o % P
def zeroS : SideN := ⟨0, 0, 0, 0, "".toUTF8, [], 0, 0, 0, [], 0, fun _ => 0, fun _ => 0⟩
noncomputable def offOk (P Q g v a o : Nat) : Bool := hasB a P Q && hasB v P Q && !decide (offB P Q g v o = 0)
abbrev zOS (k : Int) (P Q g : Nat) (r : RecN) (a B O : Nat) : SideN := ⟨k, P, Q, g, r.s, [], a, B, O, r.l2, r.a, (fun _ => 0), (fun _ => 0)⟩
theorem offer_any (k : Int) (P Q g : Nat) (ho : P % 2 = 1) (h1 : 1 < P) (hP : P < 4294967296 ^ 8) (h2 : 2 < Q) (hQ : Q < 4294967296 ^ 8) (hP4 : P ≤ 4294967296) (hg : g < 4294967296 ^ 8) (r : RecN) (V : RecV) (hr : r.a < 4294967296 ^ 8) (hs : r.s.size ≤ 1000) (hrl : r.l2.length ≤ 100000) (a : Nat) (ha : a < 4294967296 ^ 8) (ld : List UInt8) (vd : Value) (w : World) (hm2 : RecIs w r V) (hd : IsB w ld vd) :
  Calls Tryz.prog 14 #[.agg (zg k P Q g), .agg (recA r V), numV a, vd] w fun e w' => ∃ vc, e = .returned (.tuple #[.agg (zk (cond (offOk P Q g r.a a (texN Q [98] [ld])) (zja (offS k P Q g r.s r.l2 r.a a (texN Q [98] [ld])) (offN P Q g r.a a (texN Q [98] [ld]))) zeroS) ⟨zN, vc⟩), numV (cond (offOk P Q g r.a a (texN Q [98] [ld])) (offB P Q g r.a (texN Q [98] [ld])) 0), .bool (offOk P Q g r.a a (texN Q [98] [ld]))]) ∧ SideIs w' (cond (offOk P Q g r.a a (texN Q [98] [ld])) (zja (offS k P Q g r.s r.l2 r.a a (texN Q [98] [ld])) (offN P Q g r.a a (texN Q [98] [ld]))) zeroS) ⟨zN, vc⟩ ∧ (∀ b, bfp vc b → w.heap.size ≤ b) ∧ Below w.heap.size w w' := by
 obtain ⟨O, hO⟩ : ∃ O, texN Q [98] [ld] = O := ⟨_, rfl⟩
 have hOl : O < 4294967296 ^ 8 := by rw [← hO]; exact Nat.lt_trans (z8b h2 _).2 hQ
 have kE := fun (w : World) (u : Value) (h : IsP w [ld] u) => texp_any k P Q g h2 hQ ({ data := #[98] } : ByteArray) (by decide) [ld] u (show 1 ≤ 90 by decide) w h
 rw [show texN Q (sBy ({ data := #[98] } : ByteArray)) [ld] = O from hO] at kE
 rw [hO]
 clear hO
 have hP0 : 0 < P := by omega
 have hm : ∀ x, x % P < 4294967296 ^ 8 := fun x => Nat.lt_trans (Nat.mod_lt _ hP0) hP
 have hm4 : ∀ x, x % P < 4294967296 := fun x => Nat.lt_of_lt_of_le (Nat.mod_lt _ hP0) hP4
 obtain ⟨b1, hb1⟩ : ∃ q, hasB a P Q = q := ⟨_, rfl⟩
 obtain ⟨b2, hb2⟩ : ∃ q, hasB r.a P Q = q := ⟨_, rfl⟩
 have kH1 := fun w => ghas_any k P Q g ho h1 hP a ha hQ w
 have kH2 := fun w => ghas_any k P Q g ho h1 hP r.a hr hQ w
 rw [hb1] at kH1
 rw [hb2] at kH2
 have kC := fun w => cover_any k P Q g ho h1 hP h2 hQ r.a hr w
 have kR1 := fun w => zoc k P Q g ho h1 hP g O hg hOl w
 have kT := fun w => together_any (kN Q * r.a % P) (g ^ O % P) P (hm4 _) (hm4 _) hP0 hP w
 obtain ⟨B, hB⟩ : ∃ B, offB P Q g r.a O = B := ⟨_, rfl⟩
 rw [show (kN Q * r.a % P + g ^ O % P) % P = B from hB] at kT
 have hBl : B < 4294967296 ^ 8 := by rw [← hB]; exact hm _
 obtain ⟨C, hC⟩ : ∃ C, kN Q * r.a % P = C := ⟨_, rfl⟩
 obtain ⟨G1, hG1⟩ : ∃ G1, g ^ O % P = G1 := ⟨_, rfl⟩
 rw [hC] at kC kT
 rw [hG1] at kR1 kT
 clear hC hG1
 obtain ⟨U, hU⟩ : ∃ U, uN Q a B = U := ⟨_, rfl⟩
 have hUl : U < 4294967296 ^ 8 := by rw [← hU]; exact Nat.lt_trans (z8b h2 _).2 hQ
 have kR2 := fun w => zoc k P Q g ho h1 hP r.a U hr hUl w
 obtain ⟨T1, hT1⟩ : ∃ T1, r.a ^ U % P = T1 := ⟨_, rfl⟩
 have hT1l : T1 < 4294967296 ^ 8 := by rw [← hT1]; exact hm _
 have kM := fun w => gtimes_any k P Q g ho h1 hP a T1 ha hT1l w
 obtain ⟨T2, hT2⟩ : ∃ T2, a * T1 % P = T2 := ⟨_, rfl⟩
 have hT2l : T2 < 4294967296 ^ 8 := by rw [← hT2]; exact hm _
 have kR3 := fun w => zoc k P Q g ho h1 hP T2 O hT2l hOl w
 obtain ⟨N, hN⟩ : ∃ N, T2 ^ O % P = N := ⟨_, rfl⟩
 have hoN : offN P Q g r.a a O = N := by unfold offN; rw [hB, hU, hT1, hT2, hN]
 have hoS : offS k P Q g r.s r.l2 r.a a O = ⟨k, P, Q, g, r.s, [], a, B, O, r.l2, r.a, fun _ => 0, fun _ => 0⟩ := by unfold offS; rw [hB]
 have hoK : offOk P Q g r.a a O = (b1 && b2 && !decide (B = 0)) := by unfold offOk; rw [hB, hb1, hb2]
 rw [hoN, hoS, hoK, hB]
 rw [hT1] at kR2
 rw [hT2] at kM
 rw [hN] at kR3
 clear hoN hoS hoK hN hT2 hT1 hB hb1 hb2
 obtain ⟨vr, v5⟩ := V
 obtain ⟨Ar, cr, rfl⟩ := id hm2.h2.shape
 obtain ⟨A5, c5, rfl⟩ := id hm2.h5.shape
 obtain ⟨As, cs, rfl⟩ := id hd.shape
 refine zea (args := [.agg (zg k P Q g), .agg (recA r ⟨.slice Ar r.l2.length cr, .slice A5 r.l5.length c5⟩), numV a, .slice As ld.length cs]) 77 Tryz.func14 rfl rfl rfl ?_
 intro fa F
 have M := Mx.start w
 replace M := M.argB 0 hm2.h2 (fun g e => by cases e)
 replace M := M.argB 1 hm2.h5 (fun g e => by cases e)
 replace M := M.argB 2 hd (fun g e => by cases e)
 refine zT fun _ hK1 => zh (zc rfl) rfl F rfl M 3 (t := 29) (c := zg k P Q g) (by unfold execOp; simp only [(F.get (t := 0) rfl)]; kernel_rfl) ?_
 intro g2 a2 w2 F2 M2
 refine zh (zc rfl) rfl F2 rfl M2 4 (t := 33) (c := recA r ⟨.slice Ar r.l2.length cr, .slice A5 r.l5.length c5⟩) (by unfold execOp; simp only [(F2.get (t := 1) rfl)]; kernel_rfl) ?_
 intro g3 a3 w3 F3 M3
 refine zh (zc rfl) rfl F3 rfl M3 5 (t := 27) (c := numA a) (by unfold execOp; simp only [(F3.get (t := 2) rfl)]; kernel_rfl) ?_
 intro g4 a4 w4 F4 M4
 refine zh (zc rfl) rfl F4 rfl M4 6 (t := 37) (c := zSA) (by unfold execOp; kernel_rfl) ?_
 intro g5 a5 w5 F5 M5
 refine zh (zc rfl) rfl F5 rfl M5 7 (t := 27) (c := numA 0) (zu rfl) ?_
 intro g6 a6 w6 F6 M6
 refine rm rfl F6 fun _ F7 => hK1 _ _ (zSk fun _ hK8 => zT fun _ hK9 => zAx 2 [(15, .agg (zg k P Q g)), (16, numV a)] [0, 1] (zp (M6.blk (k := 3) rfl) (zp (M6.blk (k := 5) rfl) dnil)) [g2, g4] F7 fun _ F10 => ?_)
 refine zaa (zc rfl) rfl F10 rfl rfl (zE Tryz.func37 rfl) #[.agg (zg k P Q g), numV a] (z3a (F10.get (t := 15) rfl) (F10.get (t := 16) rfl)) (zca (kH1 w6)) ?_
 rintro _ w11 a11 ⟨rfl, b11⟩ F11
 have M11 := M6.step b11
 cases b1
 ·refine zAx 8 [(18, .bool true), (19, .bool true), (20, undef), (21, undef), (22, undef), (23, undef), (24, undef), (25, .bool true)] [] dnil [] F11 fun _ F12 => ?_
  refine hK9 _ _ (wp_cond_true (F12.get (t := 25) rfl) (zT fun _ hK13 => zj (w' := w11) (zc rfl) rfl F12 rfl (.agg (zSA)) (by unfold execOp; kernel_rfl) fun _ F14 => ?_))
  refine zj (w' := w11) (zc rfl) rfl F14 rfl (numV 0) (zlc rfl) fun _ F15 => ?_
  refine zr (zc rfl) rfl F15 M11 (k := 6) rfl _ _ _ rfl (F15.get (t := 8) rfl) (F15.get (t := 26) rfl) (zSA) _ rfl (zL rfl) (zpa (w := w11) ⟨(zfa _), (zfa _)⟩) (zo rfl) (by kernel_rfl) ?_
  intro w16 M16
  refine zr (zc rfl) rfl F15 M16 (k := 7) rfl _ _ _ rfl (F15.get (t := 9) rfl) (F15.get (t := 27) rfl) (numA 0) _ rfl (zL rfl) (zy _) (zo rfl) zd ?_
  intro w17 M17
  refine rm rfl F15 fun _ F18 => hK13 _ _ (wp_ret ?_)
  try simp only [Exit.then, Exit.inBlock, Exit.jump]
  exact bodyPost_ret (res2ct rfl (F18.get rfl) (M17.blk (k := 6) rfl) (F18.get rfl) (M17.blk (k := 7) rfl) (F18.get rfl) Tryz.underlying37 rfl (by kernel_rfl) Tryz.underlying27 rfl zd) F18.defers (by simp only [Bool.false_and, Bool.true_and, Bool.and_false, Bool.and_true, Bool.not_true, Bool.not_false, cond_true, cond_false]; exact ⟨zN, rfl, ⟨zfa _, zfa _⟩, fun b hb => absurd hb (zgc b), M17.below⟩)
 ·refine zAx 5 [(18, .bool false), (19, .bool false), (20, .agg (zg k P Q g)), (21, .pointer (some ⟨g3, 3, none⟩)), (22, numV r.a)] [0, 1] (zp (M11.blk (k := 3) rfl) (zp (M11.blk (k := 4) rfl) dnil)) [g2, g3] F11 fun _ F19 => ?_
  refine zaa (zob rfl rfl rfl (F19.get (t := 19) rfl)) rfl F19 rfl rfl (zE Tryz.func37 rfl) #[.agg (zg k P Q g), numV r.a] (z3a (F19.get (t := 20) rfl) (F19.get (t := 22) rfl)) (zca (kH2 w11)) ?_
  rintro _ w20 a20 ⟨rfl, b20⟩ F20
  have M20 := M11.step b20
  cases b2
  ·refine zAx 2 [(24, .bool true), (25, .bool true)] [] dnil [] F20 fun _ F21 => ?_
   refine hK9 _ _ (wp_cond_true (F21.get (t := 25) rfl) (zT fun _ hK22 => zj (w' := w20) (zc rfl) rfl F21 rfl (.agg (zSA)) (by unfold execOp; kernel_rfl) fun _ F23 => ?_))
   refine zj (w' := w20) (zc rfl) rfl F23 rfl (numV 0) (zlc rfl) fun _ F24 => ?_
   refine zr (zc rfl) rfl F24 M20 (k := 6) rfl _ _ _ rfl (F24.get (t := 8) rfl) (F24.get (t := 26) rfl) (zSA) _ rfl (zL rfl) (zpa (w := w20) ⟨(zfa _), (zfa _)⟩) (zo rfl) (by kernel_rfl) ?_
   intro w25 M25
   refine zr (zc rfl) rfl F24 M25 (k := 7) rfl _ _ _ rfl (F24.get (t := 9) rfl) (F24.get (t := 27) rfl) (numA 0) _ rfl (zL rfl) (zy _) (zo rfl) zd ?_
   intro w26 M26
   refine rm rfl F24 fun _ F27 => hK22 _ _ (wp_ret ?_)
   try simp only [Exit.then, Exit.inBlock, Exit.jump]
   exact bodyPost_ret (res2ct rfl (F27.get rfl) (M26.blk (k := 6) rfl) (F27.get rfl) (M26.blk (k := 7) rfl) (F27.get rfl) Tryz.underlying37 rfl (by kernel_rfl) Tryz.underlying27 rfl zd) F27.defers (by simp only [Bool.false_and, Bool.true_and, Bool.and_false, Bool.and_true, Bool.not_true, Bool.not_false, cond_true, cond_false]; exact ⟨zN, rfl, ⟨zfa _, zfa _⟩, fun b hb => absurd hb (zgc b), M26.below⟩)
  ·refine zAx 2 [(24, .bool false), (25, .bool false)] [] dnil [] F20 fun _ F28 => ?_
   refine hK9 _ _ (wp_cond_false (F28.get (t := 25) rfl) (wp_skip (hK8 _ _ (zT fun _ hK29 => zj (w' := w20) (zc rfl) rfl F28 rfl _ (zxa _ _ rfl (F28.get (t := 4) rfl) (M20.blk (k := 3) rfl) (zg k P Q g) (z1a rfl) Tryz.underlying29 rfl (by kernel_rfl)) fun _ F30 => ?_))))
   refine rm rfl F30 fun _ F31 => zhc (zc rfl) rfl F31 rfl M20 8 (t := 22) (c := #[.slice As ld.length cs]) (k := 1) (m := 1) (y_litG 54 22 (s := 1) (zv := zN) Tryz.underlying54 (by kernel_rfl) (by kernel_rfl) rfl (#[.slice As ld.length cs]) (by decide) (by decide) (by simp only [List.map_toArray, List.map_cons, List.map_nil, (F31.get (t := 29) rfl)]; kernel_rfl)) ?_
   intro g32 a32 w32 F32 M32
   refine zaa (zc rfl) rfl F32 rfl rfl (zE Tryz.func35 rfl) #[.agg (zg k P Q g), .string ({ data := #[98] }), .slice (some ⟨g32, 0, none⟩) 1 1] (args3 (F32.get (t := 28) rfl) rfl (F32.get (t := 30) rfl)) (zca ((kE w32 _ (isP_blk (M32.blk (k := 8) rfl) rfl rfl (by decide) (fun j l hj => by
     match j, hj with
     | 0, hj => obtain rfl : ld = l := Option.some.inj hj; exact ⟨_, rfl, (M32.isb (k := 2) rfl)⟩
     | n + 1, hj => cases hj))))) ?_
   rintro _ w33 a33 ⟨rfl, b33⟩ F33
   have M33 := M32.step b33
   refine zh (zc rfl) rfl F33 rfl M33 9 (t := 27) (c := numA 0) (zu rfl) ?_
   intro g34 a34 w34 F34 M34
   refine zr (zc rfl) rfl F34 M34 (k := 9) rfl _ _ _ rfl (F34.get (t := 11) rfl) (F34.get (t := 31) rfl) (numA O) _ rfl (zL rfl) (zy _) (zo rfl) zd ?_
   intro w35 M35
   refine hK29 _ _ (zSk fun _ hK36 => ?_)
   refine z4a F34 (SE [.inl (.agg (zg k P Q g)), .inl (.pointer (some ⟨g3, 3, none⟩)), .inl (numV r.a), .inl (numV C), .inl (.agg (zg k P Q g)), .inl (.pointer (some ⟨g2, 17, none⟩)), .inl (numV g), .inl (numV O), .inl (numV G1), .inl (.pointer (some ⟨g2, 1, none⟩)), .inl (numV P), .inl (numV B), .inr (fun vE => ∃ g, vE = .pointer (some ⟨g, 0, none⟩))]) (JM none w fun SV pV => [(0, bytR r.l2 (.slice Ar r.l2.length cr)), (1, bytR r.l5 (.slice A5 r.l5.length c5)), (2, bytR ld (.slice As ld.length cs)), (3, blkR g2 29 (zg k P Q g)), (4, blkR g3 33 (recA r ⟨.slice Ar r.l2.length cr, .slice A5 r.l5.length c5⟩)), (5, blkR g4 27 (numA a)), (6, blkR g5 37 (zSA)), (7, blkR g6 27 (numA 0)), (8, blkR g32 22 (#[.slice As ld.length cs])), (9, blkR g34 27 (numA O)), (10, z7b (SV 12) (ptrR 27 (numA 0) (pV 12)))]) 13 rfl (by kernel_rfl) rfl ⟨trivial, trivial, trivial, trivial, trivial, trivial, trivial, trivial, trivial, trivial, trivial, trivial, trivial, trivial⟩ (fun p => ((M35.step (zta _)).triv 10).sub ⟨rfl, rfl, rfl, rfl, rfl, rfl, rfl, rfl, rfl, rfl, rfl, trivial⟩) ⟨z0a F34 (fun _ _ _ M => zp (Mx.blk (k := 3) M rfl) dnil) (some g2) (by kernel_rfl), zeb F34 (by kernel_rfl), z0a F34 (fun _ _ _ M => zp (Mx.blk (k := 4) M rfl) dnil) (some g3) (by kernel_rfl), ?_, z0a F34 (fun _ _ _ M => zp (Mx.blk (k := 3) M rfl) dnil) (some g2) (by kernel_rfl), zeb F34 (by kernel_rfl), z0a F34 (fun _ _ _ M => zp (Mx.blk (k := 3) M rfl) dnil) (some g2) (by kernel_rfl), z0a F34 (fun _ _ _ M => zp (Mx.blk (k := 9) M rfl) dnil) (some g34) (by kernel_rfl), ?_, zeb F34 (by kernel_rfl), z0a F34 (fun _ _ _ M => zp (Mx.blk (k := 3) M rfl) dnil) (some g2) (by kernel_rfl), ?_, ?_, trivial⟩ ?_
   ·intro ua uw SV pV (M : Mx none w uw _) hk hn hd
    have e32 : ua.eval (.tmp 32) = .agg (zg k P Q g) := zQ1 (hd 32 (by decide))
    have e34 : ua.eval (.tmp 34) = numV r.a := zQ1 (hd 34 (by decide))
    exact zza (zc rfl) rfl #[.agg (zg k P Q g), numV r.a] (z3a e32 e34) (zE Tryz.func39 rfl) ((kC uw).mono fun e w2 h => ⟨_, h.1, rfl, (M.step h.2).sub ⟨rfl, rfl, rfl, rfl, rfl, rfl, rfl, rfl, rfl, rfl, rfl, trivial⟩⟩)
   ·intro ua uw SV pV (M : Mx none w uw _) hk hn hd
    have e36 : ua.eval (.tmp 36) = .agg (zg k P Q g) := zQ1 (hd 36 (by decide))
    have e38 : ua.eval (.tmp 38) = numV g := zQ1 (hd 38 (by decide))
    have e39 : ua.eval (.tmp 39) = numV O := zQ1 (hd 39 (by decide))
    exact zza (zc rfl) rfl #[.agg (zg k P Q g), numV g, numV O] (args3 e36 e38 e39) (zE Tryz.func33 rfl) ((kR1 uw).mono fun e w2 h => ⟨_, h.1, rfl, (M.step h.2).sub ⟨rfl, rfl, rfl, rfl, rfl, rfl, rfl, rfl, rfl, rfl, rfl, trivial⟩⟩)
   ·intro ua uw SV pV (M : Mx none w uw _) hk hn hd
    have e35 : ua.eval (.tmp 35) = numV C := zQ1 (hd 35 (by decide))
    have e40 : ua.eval (.tmp 40) = numV G1 := zQ1 (hd 40 (by decide))
    have e42 : ua.eval (.tmp 42) = numV P := zQ1 (hd 42 (by decide))
    exact zza (zc rfl) rfl #[numV C, numV G1, numV P] (args3 e35 e40 e42) (zE Tryz.func38 rfl) ((kT uw).mono fun e w2 h => ⟨_, h.1, rfl, (M.step h.2).sub ⟨rfl, rfl, rfl, rfl, rfl, rfl, rfl, rfl, rfl, rfl, rfl, trivial⟩⟩)
   ·intro ua uw SV pV (M : Mx none w uw _) hk hn hd
    exact zra (zc rfl) _ (zu rfl) ⟨_, rfl⟩ ((M.allocP 10 27 (numA 0)).sub ⟨rfl, rfl, rfl, rfl, rfl, rfl, rfl, rfl, rfl, rfl, rfl, trivial⟩)
   intro p37 a37 w37 M37 G37 y37
   obtain ⟨-, -, -, -, -, -, -, -, -, -, -, q11, q12, -⟩ := y37
   obtain ⟨gp12x36, r12⟩ := (show ∃ g, p37 12 = .pointer (some ⟨g, 0, none⟩) from q12)
   have r11 : p37 11 = numV B := q11
   replace M37 : Mx _ _ w37 [(0, bytR r.l2 (.slice Ar r.l2.length cr)), (1, bytR r.l5 (.slice A5 r.l5.length c5)), (2, bytR ld (.slice As ld.length cs)), (3, blkR g2 29 (zg k P Q g)), (4, blkR g3 33 (recA r ⟨.slice Ar r.l2.length cr, .slice A5 r.l5.length c5⟩)), (5, blkR g4 27 (numA a)), (6, blkR g5 37 (zSA)), (7, blkR g6 27 (numA 0)), (8, blkR g32 22 (#[.slice As ld.length cs])), (9, blkR g34 27 (numA O)), (10, z7b true (ptrR 27 (numA 0) (p37 12)))] := M37
   simp only [List.take, layV, Nat.zero_add, Nat.reduceAdd, r11, r12] at G37
   rw [r12] at M37
   have M37_10 := M37.ptr (k := 10) (g := gp12x36) rfl
   refine zr (zc rfl) rfl G37 M37_10 (k := 10) rfl _ _ _ rfl (G37.get (t := 12) rfl) (G37.get (t := 43) rfl) (numA B) _ rfl (zL rfl) (zy _) (zo rfl) zd ?_
   intro w38 M38
   clear M37_10
   refine hK36 _ _ (zSk fun _ hK39 => zT fun _ hK40 => zj (w' := w38) (zc rfl) rfl G37 rfl (numV B) (zxa _ _ rfl (G37.get (t := 12) rfl) (M38.blk (k := 10) rfl) (numA B) (z1a rfl) Tryz.underlying27 rfl zd) fun _ F41 => ?_)
   clear G37
   refine zj (w' := w38) (zc rfl) rfl F41 rfl (numV 0) (zlc rfl) fun _ F42 => ?_
   by_cases h43 : B = 0
   ·refine zj (w' := w38) (zc rfl) rfl F42 rfl (.bool true) (y_eqA _ _ _ _ rfl (F42.get (t := 44) rfl) (F42.get (t := 45) rfl) (by kernel_rfl) (eqn_is h43 _)) fun _ F44 => ?_
    refine hK40 _ _ (wp_cond_true (F44.get (t := 46) rfl) (zT fun _ hK45 => zj (w' := w38) (zc rfl) rfl F44 rfl (.agg (zSA)) (by unfold execOp; kernel_rfl) fun _ F46 => ?_))
    refine zj (w' := w38) (zc rfl) rfl F46 rfl (numV 0) (zlc rfl) fun _ F47 => ?_
    refine zr (zc rfl) rfl F47 M38 (k := 6) rfl _ _ _ rfl (F47.get (t := 8) rfl) (F47.get (t := 47) rfl) (zSA) _ rfl (zL rfl) (zpa (w := w38) ⟨(zfa _), (zfa _)⟩) (zo rfl) (by kernel_rfl) ?_
    intro w48 M48
    refine zr (zc rfl) rfl F47 M48 (k := 7) rfl _ _ _ rfl (F47.get (t := 9) rfl) (F47.get (t := 48) rfl) (numA 0) _ rfl (zL rfl) (zy _) (zo rfl) zd ?_
    intro w49 M49
    refine rm rfl F47 fun _ F50 => hK45 _ _ (wp_ret ?_)
    try simp only [Exit.then, Exit.inBlock, Exit.jump]
    exact bodyPost_ret (res2ct rfl (F50.get rfl) (M49.blk (k := 6) rfl) (F50.get rfl) (M49.blk (k := 7) rfl) (F50.get rfl) Tryz.underlying37 rfl (by kernel_rfl) Tryz.underlying27 rfl zd) F50.defers (by simp only [Bool.false_and, Bool.true_and, Bool.and_false, Bool.and_true, Bool.not_true, Bool.not_false, cond_true, cond_false, decide_eq_true h43]; exact ⟨zN, rfl, ⟨zfa _, zfa _⟩, fun b hb => absurd hb (zgc b), M49.below⟩)
   ·refine zj (w' := w38) (zc rfl) rfl F42 rfl (.bool false) (y_eqA _ _ _ _ rfl (F42.get (t := 44) rfl) (F42.get (t := 45) rfl) (by kernel_rfl) (eqn_no hBl h43 _)) fun _ F51 => ?_
    refine hK40 _ _ (wp_cond_false (F51.get (t := 46) rfl) (wp_skip (hK39 _ _ (zSk fun _ hK52 => ?_))))
    refine z4a F51 (SE [.inl (.agg (zg k P Q g)), .inl (.pointer (some ⟨g3, 1, none⟩)), .inl (.string r.s), .inl (numV a), .inl (numV B), .inl (numV O), .inl (.pointer (some ⟨g3, 2, none⟩)), .inl (.slice Ar r.l2.length cr), .inr (fun _ => True), .inl (.pointer (some ⟨g3, 3, none⟩)), .inl (numV r.a), .inr (fun _ => True), .inr (fun vE => ∃ g, vE = .pointer (some ⟨g, 0, none⟩))]) (JM none w fun SV pV => [(0, bytR r.l2 (.slice Ar r.l2.length cr)), (1, bytR r.l5 (.slice A5 r.l5.length c5)), (2, bytR ld (.slice As ld.length cs)), (3, blkR g2 29 (zg k P Q g)), (4, blkR g3 33 (recA r ⟨.slice Ar r.l2.length cr, .slice A5 r.l5.length c5⟩)), (5, blkR g4 27 (numA a)), (6, blkR g5 37 (zSA)), (7, blkR g6 27 (numA 0)), (8, blkR g32 22 (#[.slice As ld.length cs])), (9, blkR g34 27 (numA O)), (10, blkR gp12x36 27 (numA B)), (11, z7b (SV 8) (ownR r.l2 (pV 8))), (12, z7b (SV 11) (prR (pV 11 = .agg (zk (zOS k P Q g r a B O) ⟨zN, (pV 8)⟩)))), (13, z7b (SV 12) (ptrR 37 (zSA) (pV 12)))]) 13 rfl (by kernel_rfl) rfl ⟨trivial, trivial, trivial, trivial, trivial, trivial, trivial, trivial, trivial, trivial, trivial, trivial, trivial, trivial⟩ (fun p => ((((M38.step (zta _)).triv 11).triv 12).triv 13).sub ⟨rfl, rfl, rfl, rfl, rfl, rfl, rfl, rfl, rfl, rfl, rfl, rfl, rfl, rfl, trivial⟩) ⟨z0a F51 (fun _ _ _ M => zp (Mx.blk (k := 3) M rfl) dnil) (some g2) (by kernel_rfl), zeb F51 (by kernel_rfl), z0a F51 (fun _ _ _ M => zp (Mx.blk (k := 4) M rfl) dnil) (some g3) (by kernel_rfl), z0a F51 (fun _ _ _ M => zp (Mx.blk (k := 5) M rfl) dnil) (some g4) (by kernel_rfl), z0a F51 (fun _ _ _ M => zp (Mx.blk (k := 10) M rfl) dnil) (some gp12x36) (by kernel_rfl), z0a F51 (fun _ _ _ M => zp (Mx.blk (k := 9) M rfl) dnil) (some g34) (by kernel_rfl), zeb F51 (by kernel_rfl), z0a F51 (fun _ _ _ M => zp (Mx.blk (k := 4) M rfl) dnil) (some g3) (by kernel_rfl), ?_, zeb F51 (by kernel_rfl), z0a F51 (fun _ _ _ M => zp (Mx.blk (k := 4) M rfl) dnil) (some g3) (by kernel_rfl), ?_, ?_, trivial⟩ ?_
    ·intro ua uw SV pV (M : Mx none w uw _) hk hn hd
     have e56 : ua.eval (.tmp 56) = .slice Ar r.l2.length cr := zQ1 (hd 56 (by decide))
     exact zza (zc rfl) rfl #[.slice Ar r.l2.length cr] (zwa e56) (zE Tryz.func36 rfl) (((clone_r r.l2 (.slice Ar r.l2.length cr) (by omega) uw (M.isb (k := 0) rfl))).mono fun e w2 h => (by obtain ⟨u, h1, h2, h3⟩ := h; exact ⟨u, h1, trivial, (M.newO h3 11 h2).sub ⟨rfl, rfl, rfl, rfl, rfl, rfl, rfl, rfl, rfl, rfl, rfl, rfl, (condR_off (hn 11 (by kernel_rfl)) rfl), rfl, trivial⟩⟩))
    ·intro ua uw SV pV (M : Mx none w uw _) hk hn hd
     have e49 : ua.eval (.tmp 49) = .agg (zg k P Q g) := zQ1 (hd 49 (by decide))
     have e51 : ua.eval (.tmp 51) = .string r.s := zQ1 (hd 51 (by decide))
     have e52 : ua.eval (.tmp 52) = numV a := zQ1 (hd 52 (by decide))
     have e53 : ua.eval (.tmp 53) = numV B := zQ1 (hd 53 (by decide))
     have e54 : ua.eval (.tmp 54) = numV O := zQ1 (hd 54 (by decide))
     obtain ⟨s8, f57, q57⟩ := (show SV 8 = true ∧ ua.eval (.tmp 57) = pV 8 ∧ stE _ 8 (pV 8) from hd 57 (by decide))
     have e57 : ua.eval (.tmp 57) = (pV 8) := f57
     have e59 : ua.eval (.tmp 59) = numV r.a := zQ1 (hd 59 (by decide))
     obtain ⟨A0_, c0_, h0_⟩ := (M.isO (k := 11) (condR_look s8 rfl)).shape
     exact zra (zc rfl) (.agg (zk (zOS k P Q g r a B O) ⟨zN, (pV 8)⟩)) (by unfold execOp; simp only [List.map_toArray, List.map_cons, List.map_nil, e49, e51, e52, e53, e54, e57, e59, h0_]; kernel_rfl) trivial ((M.prP 12 rfl).sub ⟨rfl, rfl, rfl, rfl, rfl, rfl, rfl, rfl, rfl, rfl, rfl, rfl, rfl, rfl, trivial⟩)
    ·intro ua uw SV pV (M : Mx none w uw _) hk hn hd
     exact zra (zc rfl) _ (by unfold execOp; kernel_rfl) ⟨_, rfl⟩ ((M.allocP 13 37 (zSA)).sub ⟨rfl, rfl, rfl, rfl, rfl, rfl, rfl, rfl, rfl, rfl, rfl, rfl, rfl, rfl, trivial⟩)
    intro p53 a53 w53 M53 G53 y53
    obtain ⟨-, -, -, -, -, -, -, -, -, -, -, q11, q12, -⟩ := y53
    obtain ⟨gp12x52, r12⟩ := (show ∃ g, p53 12 = .pointer (some ⟨g, 0, none⟩) from q12)
    have r11 : p53 11 = .agg (zk (zOS k P Q g r a B O) ⟨zN, (p53 8)⟩) := (show (prR (p53 11 = .agg (zk (zOS k P Q g r a B O) ⟨zN, (p53 8)⟩))).F _ from Mx.at_ (show Mx _ _ _ _ from M53) 12 _ rfl)
    replace M53 : Mx _ _ w53 [(0, bytR r.l2 (.slice Ar r.l2.length cr)), (1, bytR r.l5 (.slice A5 r.l5.length c5)), (2, bytR ld (.slice As ld.length cs)), (3, blkR g2 29 (zg k P Q g)), (4, blkR g3 33 (recA r ⟨.slice Ar r.l2.length cr, .slice A5 r.l5.length c5⟩)), (5, blkR g4 27 (numA a)), (6, blkR g5 37 (zSA)), (7, blkR g6 27 (numA 0)), (8, blkR g32 22 (#[.slice As ld.length cs])), (9, blkR g34 27 (numA O)), (10, blkR gp12x36 27 (numA B)), (11, z7b true (ownR r.l2 (p53 8))), (12, z7b true (prR (p53 11 = .agg (zk (zOS k P Q g r a B O) ⟨zN, (p53 8)⟩)))), (13, z7b true (ptrR 37 (zSA) (p53 12)))] := M53
    simp only [List.take, layV, Nat.zero_add, Nat.reduceAdd, r11, r12] at G53
    rw [r12] at M53
    have M53_13 := M53.ptr (k := 13) (g := gp12x52) rfl
    obtain ⟨Ap53_11, cp53_11, hp53_11⟩ := (M53_13.isO (k := 11) rfl).shape
    rw [hp53_11] at M53_13
    try rw [hp53_11] at G53
    refine zr (zc rfl) rfl G53 M53_13 (k := 13) rfl _ _ _ rfl (G53.get (t := 13) rfl) (G53.get (t := 60) rfl) (zk (zOS k P Q g r a B O) ⟨zN, (.slice Ap53_11 (r.l2).length cp53_11)⟩) _ rfl (zL rfl) (zpa (w := w53) ⟨(zfa _), (M53_13.isO (k := 11) rfl)⟩) (zo rfl) (by kernel_rfl) ?_
    intro w54 M54
    clear M53_13
    refine hK52 _ _ (zSk fun _ hK55 => ?_)
    refine z4a G53 (SE [.inl (.agg (zg k P Q g)), .inl (numV a), .inl (.agg (zg k P Q g)), .inl (.pointer (some ⟨g3, 3, none⟩)), .inl (numV r.a), .inl (.agg (zk (zOS k P Q g r a B O) ⟨zN, (.slice Ap53_11 (r.l2).length cp53_11)⟩)), .inl (numV U), .inl (numV T1), .inl (numV T2), .inr (fun vE => ∃ g, vE = .pointer (some ⟨g, 0, none⟩))]) (JM none w fun SV pV => [(0, bytR r.l2 (.slice Ar r.l2.length cr)), (1, bytR r.l5 (.slice A5 r.l5.length c5)), (2, bytR ld (.slice As ld.length cs)), (3, blkR g2 29 (zg k P Q g)), (4, blkR g3 33 (recA r ⟨.slice Ar r.l2.length cr, .slice A5 r.l5.length c5⟩)), (5, blkR g4 27 (numA a)), (6, blkR g5 37 (zSA)), (7, blkR g6 27 (numA 0)), (8, blkR g32 22 (#[.slice As ld.length cs])), (9, blkR g34 27 (numA O)), (10, blkR gp12x36 27 (numA B)), (11, ownR r.l2 (.slice Ap53_11 (r.l2).length cp53_11)), (12, prR (p53 11 = .agg (zk (zOS k P Q g r a B O) ⟨zN, (.slice Ap53_11 (r.l2).length cp53_11)⟩))), (13, blkR gp12x52 37 (zk (zOS k P Q g r a B O) ⟨zN, (.slice Ap53_11 (r.l2).length cp53_11)⟩)), (14, z7b (SV 9) (ptrR 27 (numA 0) (pV 9)))]) 10 rfl (by kernel_rfl) rfl ⟨trivial, trivial, trivial, trivial, trivial, trivial, trivial, trivial, trivial, trivial, trivial⟩ (fun p => ((M54.step (zta _)).triv 14).sub ⟨rfl, rfl, rfl, rfl, rfl, rfl, rfl, rfl, rfl, rfl, rfl, rfl, rfl, rfl, rfl, trivial⟩) ⟨z0a G53 (fun _ _ _ M => zp (Mx.blk (k := 3) M rfl) dnil) (some g2) (by kernel_rfl), z0a G53 (fun _ _ _ M => zp (Mx.blk (k := 5) M rfl) dnil) (some g4) (by kernel_rfl), z0a G53 (fun _ _ _ M => zp (Mx.blk (k := 3) M rfl) dnil) (some g2) (by kernel_rfl), zeb G53 (by kernel_rfl), z0a G53 (fun _ _ _ M => zp (Mx.blk (k := 4) M rfl) dnil) (some g3) (by kernel_rfl), z0a G53 (fun _ _ _ M => zp (Mx.blk (k := 13) M rfl) dnil) (some gp12x52) (by kernel_rfl), ?_, ?_, ?_, ?_, trivial⟩ ?_
    ·intro ua uw SV pV (M : Mx none w uw _) hk hn hd
     have e66 : ua.eval (.tmp 66) = .agg (zk (zOS k P Q g r a B O) ⟨zN, (.slice Ap53_11 (r.l2).length cp53_11)⟩) := zQ1 (hd 66 (by decide))
     exact zza (zc rfl) rfl #[.agg (zk (zOS k P Q g r a B O) ⟨zN, (.slice Ap53_11 (r.l2).length cp53_11)⟩)] (zwa e66) (zE Tryz.func41 rfl) (((hU ▸ scramble_any (zOS k P Q g r a B O) ⟨zN, (.slice Ap53_11 (r.l2).length cp53_11)⟩ h2 hQ uw ⟨(zfa _), (M.isO (k := 11) rfl)⟩)).mono fun e w2 h => ⟨_, h.1, rfl, (M.step h.2).sub ⟨rfl, rfl, rfl, rfl, rfl, rfl, rfl, rfl, rfl, rfl, rfl, rfl, rfl, rfl, rfl, trivial⟩⟩)
    ·intro ua uw SV pV (M : Mx none w uw _) hk hn hd
     have e63 : ua.eval (.tmp 63) = .agg (zg k P Q g) := zQ1 (hd 63 (by decide))
     have e65 : ua.eval (.tmp 65) = numV r.a := zQ1 (hd 65 (by decide))
     have e67 : ua.eval (.tmp 67) = numV U := zQ1 (hd 67 (by decide))
     exact zza (zc rfl) rfl #[.agg (zg k P Q g), numV r.a, numV U] (args3 e63 e65 e67) (zE Tryz.func33 rfl) ((kR2 uw).mono fun e w2 h => ⟨_, h.1, rfl, (M.step h.2).sub ⟨rfl, rfl, rfl, rfl, rfl, rfl, rfl, rfl, rfl, rfl, rfl, rfl, rfl, rfl, rfl, trivial⟩⟩)
    ·intro ua uw SV pV (M : Mx none w uw _) hk hn hd
     have e61 : ua.eval (.tmp 61) = .agg (zg k P Q g) := zQ1 (hd 61 (by decide))
     have e62 : ua.eval (.tmp 62) = numV a := zQ1 (hd 62 (by decide))
     have e68 : ua.eval (.tmp 68) = numV T1 := zQ1 (hd 68 (by decide))
     exact zza (zc rfl) rfl #[.agg (zg k P Q g), numV a, numV T1] (args3 e61 e62 e68) (zE Tryz.func40 rfl) ((kM uw).mono fun e w2 h => ⟨_, h.1, rfl, (M.step h.2).sub ⟨rfl, rfl, rfl, rfl, rfl, rfl, rfl, rfl, rfl, rfl, rfl, rfl, rfl, rfl, rfl, trivial⟩⟩)
    ·intro ua uw SV pV (M : Mx none w uw _) hk hn hd
     exact zra (zc rfl) _ (zu rfl) ⟨_, rfl⟩ ((M.allocP 14 27 (numA 0)).sub ⟨rfl, rfl, rfl, rfl, rfl, rfl, rfl, rfl, rfl, rfl, rfl, rfl, rfl, rfl, rfl, trivial⟩)
    intro p56 a56 w56 M56 G56 y56
    obtain ⟨-, -, -, -, -, -, -, -, q8, q9, -⟩ := y56
    obtain ⟨gp9x55, r9⟩ := (show ∃ g, p56 9 = .pointer (some ⟨g, 0, none⟩) from q9)
    have r8 : p56 8 = numV T2 := q8
    replace M56 : Mx _ _ w56 [(0, bytR r.l2 (.slice Ar r.l2.length cr)), (1, bytR r.l5 (.slice A5 r.l5.length c5)), (2, bytR ld (.slice As ld.length cs)), (3, blkR g2 29 (zg k P Q g)), (4, blkR g3 33 (recA r ⟨.slice Ar r.l2.length cr, .slice A5 r.l5.length c5⟩)), (5, blkR g4 27 (numA a)), (6, blkR g5 37 (zSA)), (7, blkR g6 27 (numA 0)), (8, blkR g32 22 (#[.slice As ld.length cs])), (9, blkR g34 27 (numA O)), (10, blkR gp12x36 27 (numA B)), (11, ownR r.l2 (.slice Ap53_11 (r.l2).length cp53_11)), (12, prR (p53 11 = .agg (zk (zOS k P Q g r a B O) ⟨zN, (.slice Ap53_11 (r.l2).length cp53_11)⟩))), (13, blkR gp12x52 37 (zk (zOS k P Q g r a B O) ⟨zN, (.slice Ap53_11 (r.l2).length cp53_11)⟩)), (14, z7b true (ptrR 27 (numA 0) (p56 9)))] := M56
    simp only [List.take, layV, Nat.zero_add, Nat.reduceAdd, r8, r9] at G56
    rw [r9] at M56
    have M56_14 := M56.ptr (k := 14) (g := gp9x55) rfl
    refine zr (zc rfl) rfl G56 M56_14 (k := 14) rfl _ _ _ rfl (G56.get (t := 14) rfl) (G56.get (t := 69) rfl) (numA T2) _ rfl (zL rfl) (zy _) (zo rfl) zd ?_
    intro w57 M57
    clear M56_14
    refine hK55 _ _ (zSk fun _ hK58 => ?_)
    refine z4a G56 (SE [.inl (.agg (zk (zOS k P Q g r a B O) ⟨zN, (.slice Ap53_11 (r.l2).length cp53_11)⟩)), .inl (.agg (zg k P Q g)), .inl (numV T2), .inl (numV O), .inl (numV N), .inl (.agg (zk (zja (zOS k P Q g r a B O) N) ⟨zN, (.slice Ap53_11 (r.l2).length cp53_11)⟩)), .inl (numV B), .inl (undef)]) (JM none w fun SV pV => [(0, bytR r.l2 (.slice Ar r.l2.length cr)), (1, bytR r.l5 (.slice A5 r.l5.length c5)), (2, bytR ld (.slice As ld.length cs)), (3, blkR g2 29 (zg k P Q g)), (4, blkR g3 33 (recA r ⟨.slice Ar r.l2.length cr, .slice A5 r.l5.length c5⟩)), (5, blkR g4 27 (numA a)), (6, blkR g5 37 (zk (cond (SV 7) ((zja (zOS k P Q g r a B O) N) : SideN) ⟨0, 0, 0, 0, "".toUTF8, [], 0, 0, 0, [], 0, (fun _ => 0), (fun _ => 0)⟩) (cond (SV 7) (⟨zN, (.slice Ap53_11 (r.l2).length cp53_11)⟩ : SideV) ⟨zN, zN⟩))), (7, blkR g6 27 (numA 0)), (8, blkR g32 22 (#[.slice As ld.length cs])), (9, blkR g34 27 (numA O)), (10, blkR gp12x36 27 (numA B)), (11, ownR r.l2 (.slice Ap53_11 (r.l2).length cp53_11)), (12, prR (p53 11 = .agg (zk (zOS k P Q g r a B O) ⟨zN, (.slice Ap53_11 (r.l2).length cp53_11)⟩))), (13, blkR gp12x52 37 (zk (zOS k P Q g r a B O) ⟨zN, (.slice Ap53_11 (r.l2).length cp53_11)⟩)), (14, blkR gp9x55 27 (numA T2))]) 8 rfl (by kernel_rfl) rfl ⟨trivial, trivial, trivial, trivial, trivial, trivial, trivial, fun _ => Iff.rfl, trivial⟩ (fun p => (M57.step (zta _)).sub ⟨rfl, rfl, rfl, rfl, rfl, rfl, rfl, rfl, rfl, rfl, rfl, rfl, rfl, rfl, rfl, trivial⟩) ⟨z0a G56 (fun _ _ _ M => zp (Mx.blk (k := 13) M rfl) dnil) (some gp12x52) (by kernel_rfl), z0a G56 (fun _ _ _ M => zp (Mx.blk (k := 3) M rfl) dnil) (some g2) (by kernel_rfl), z0a G56 (fun _ _ _ M => zp (Mx.blk (k := 14) M rfl) dnil) (some gp9x55) (by kernel_rfl), z0a G56 (fun _ _ _ M => zp (Mx.blk (k := 9) M rfl) dnil) (some g34) (by kernel_rfl), ?_, ?_, z0a G56 (fun _ _ _ M => zp (Mx.blk (k := 10) M rfl) dnil) (some gp12x36) (by kernel_rfl), ?_, trivial⟩ ?_
    ·intro ua uw SV pV (M : Mx none w uw _) hk hn hd
     have e71 : ua.eval (.tmp 71) = .agg (zg k P Q g) := zQ1 (hd 71 (by decide))
     have e72 : ua.eval (.tmp 72) = numV T2 := zQ1 (hd 72 (by decide))
     have e73 : ua.eval (.tmp 73) = numV O := zQ1 (hd 73 (by decide))
     exact zza (zc rfl) rfl #[.agg (zg k P Q g), numV T2, numV O] (args3 e71 e72 e73) (zE Tryz.func33 rfl) ((kR3 uw).mono fun e w2 h => ⟨_, h.1, rfl, (M.step h.2).sub ⟨rfl, rfl, rfl, rfl, rfl, rfl, rfl, rfl, rfl, rfl, rfl, rfl, rfl, rfl, rfl, trivial⟩⟩)
    ·intro ua uw SV pV (M : Mx none w uw _) hk hn hd
     have e70 : ua.eval (.tmp 70) = .agg (zk (zOS k P Q g r a B O) ⟨zN, (.slice Ap53_11 (r.l2).length cp53_11)⟩) := zQ1 (hd 70 (by decide))
     have e74 : ua.eval (.tmp 74) = numV N := zQ1 (hd 74 (by decide))
     exact zza (zc rfl) rfl #[.agg (zk (zOS k P Q g r a B O) ⟨zN, (.slice Ap53_11 (r.l2).length cp53_11)⟩), numV N] (z3a e70 e74) (zE Tryz.func42 rfl) (((sharing_any (zOS k P Q g r a B O) ⟨zN, (.slice Ap53_11 (r.l2).length cp53_11)⟩ N hs uw ⟨(zfa _), (M.isO (k := 11) rfl)⟩)).mono fun e w2 h => ⟨_, h.1, rfl, (M.step h.2).sub ⟨rfl, rfl, rfl, rfl, rfl, rfl, rfl, rfl, rfl, rfl, rfl, rfl, rfl, rfl, rfl, trivial⟩⟩)
    ·intro ua uw SV pV (M : Mx none w uw _) hk hn hd
     have e8 : ua.eval (.tmp 8) = .pointer (some ⟨g5, 0, none⟩) := (show ua.eval (.tmp 8) = _ from hd 8 (by decide)).trans (G56.get (t := 8) rfl)
     have e75 : ua.eval (.tmp 75) = .agg (zk (zja (zOS k P Q g r a B O) N) ⟨zN, (.slice Ap53_11 (r.l2).length cp53_11)⟩) := zQ1 (hd 75 (by decide))
     exact hopM_doM (zc rfl) rfl (run_st M (k := 6) rfl _ _ _ rfl e8 e75 (zk (zja (zOS k P Q g r a B O) N) ⟨zN, (.slice Ap53_11 (r.l2).length cp53_11)⟩) _ rfl (zL rfl) (zpa (w := w57) ⟨(zfa _), (M57.isO (k := 11) rfl)⟩) (zo rfl) (by kernel_rfl)) (fun w2 h2 => h2.sub ⟨rfl, rfl, rfl, rfl, rfl, rfl, rfl, rfl, rfl, rfl, rfl, rfl, rfl, rfl, rfl, trivial⟩) rfl
    intro p59 a59 w59 M59 G59 y59
    obtain ⟨-, -, -, -, -, -, q6, -, -⟩ := y59
    have r6 : p59 6 = numV B := q6
    replace M59 : Mx _ _ w59 [(0, bytR r.l2 (.slice Ar r.l2.length cr)), (1, bytR r.l5 (.slice A5 r.l5.length c5)), (2, bytR ld (.slice As ld.length cs)), (3, blkR g2 29 (zg k P Q g)), (4, blkR g3 33 (recA r ⟨.slice Ar r.l2.length cr, .slice A5 r.l5.length c5⟩)), (5, blkR g4 27 (numA a)), (6, blkR g5 37 (zk (zja (zOS k P Q g r a B O) N) ⟨zN, (.slice Ap53_11 (r.l2).length cp53_11)⟩)), (7, blkR g6 27 (numA 0)), (8, blkR g32 22 (#[.slice As ld.length cs])), (9, blkR g34 27 (numA O)), (10, blkR gp12x36 27 (numA B)), (11, ownR r.l2 (.slice Ap53_11 (r.l2).length cp53_11)), (12, prR (p53 11 = .agg (zk (zOS k P Q g r a B O) ⟨zN, (.slice Ap53_11 (r.l2).length cp53_11)⟩))), (13, blkR gp12x52 37 (zk (zOS k P Q g r a B O) ⟨zN, (.slice Ap53_11 (r.l2).length cp53_11)⟩)), (14, blkR gp9x55 27 (numA T2))] := M59
    simp only [List.take, layV, Nat.zero_add, Nat.reduceAdd, r6] at G59
    refine zr (zc rfl) rfl G59 M59 (k := 7) rfl _ _ _ rfl (G59.get (t := 9) rfl) (G59.get (t := 76) rfl) (numA B) _ rfl (zL rfl) (zy _) (zo rfl) zd ?_
    intro w60 M60
    refine rm rfl G59 fun _ F61 => hK58 _ _ (wp_ret ?_)
    try simp only [Exit.then, Exit.inBlock, Exit.jump]
    exact bodyPost_ret (res2ct rfl (F61.get rfl) (M60.blk (k := 6) rfl) (F61.get rfl) (M60.blk (k := 7) rfl) (F61.get rfl) Tryz.underlying37 rfl (by kernel_rfl) Tryz.underlying27 rfl zd) F61.defers (by simp only [Bool.false_and, Bool.true_and, Bool.and_false, Bool.and_true, Bool.not_true, Bool.not_false, cond_true, cond_false, decide_eq_false h43]; exact ⟨_, rfl, ⟨zfa _, (M60.isO (k := 11) rfl)⟩, fun b hb => (M60.owns (k := 11) rfl b (bfp_ofp hb)), M60.below⟩)
end Go.Proofs.YtcfepoopkfhojaaGreat
