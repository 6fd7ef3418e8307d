/- What SrpWrong stands on, part 3. -/
import Derived.Great.BuildSlice
import Derived.Deep.Upon
import Derived.Deep.LoopGhost
import Derived.Deep.CutRange
import Derived.Laws.CopyRow
import Derived.Test.YtcfepoopkfhojaaGreatSrpWrongP1
import Derived.Test.YtcfepoopkfhojaaGreatSrpWrongP2
set_option maxRecDepth 100000
set_option maxHeartbeats 8000000
set_option linter.unusedVariables false
set_option linter.unusedSimpArgs false
namespace Go.Proofs.YtcfepoopkfhojaaGreat
open Go.ChangeShapes Go.WideShapes Go.ChangeAt Go.RowKit Go.Shelf
variable {ds : List Deferred}
section
variable {a : Act} {w : World} {o : Oper}
theorem y_ixI (x k : Operand) (ho : o.op = .indexAddr 71 x k) {b q n c i : Nat} {z : Int} (hx : a.eval x = .slice (some ⟨b, q, none⟩) n c) (hk : a.eval k = .int .i64 z) (hz : z = (i : Int)) (hi : i < n) {j : Nat} (hj : q + i = j) : (execOp a.eval o).run Tryz.prog w = .ok (.value (.pointer (some ⟨b, j, none⟩))) w := by
 subst hz hj
 unfold execOp
 simp only [ho, hx, hk]
 have h0 : ¬ ((i : Int) < 0) := by omega
 have h1 : (i : Int) < (n : Int) := by omega
 simp [go_sem, h0, h1, hi]
end
theorem infoInt : ∃ i, Tryz.prog.info? 3 = some i ∧ i.zero = some (.int .i64 0) ∧ i.size = 1 := by
 have h0 : (Tryz.prog.info? 3).isSome = true := by kernel_rfl
 have h1 : (Tryz.prog.info? 3).map (·.size) = some 1 := by kernel_rfl
 have h2 : (Tryz.prog.info? 3).bind (·.zero) = some (.int .i64 0) := by kernel_rfl
 cases h : Tryz.prog.info? 3 with
 | none => rw [h] at h0; cases h0
 | some i =>
  rw [h] at h1 h2
  exact ⟨i, rfl, h2, Option.some.inj h1⟩
theorem y_litI {a : Act} {w : World} {o : Oper} {n : Nat} {ps : Array (Nat × Operand)} (ho : o.op = .buildSlice 71 n ps) (vs : Array Value) (hn : vs.size = n) (h0 : 0 < n) (hm : n ≤ 1000)
  (hf : Instr.fill (fun i => some (i * 1, 1)) ((Array.range (n * 1)).map ((Value.int .i64 0).cells[· % (Value.int .i64 0).cells.size]!)) (ps.map fun (i, x) => (i, a.eval x)).toList = some vs) :
  (execOp a.eval o).run Tryz.prog w = .ok (.value (.slice (some ⟨w.heap.size, 0, none⟩) n n)) (w.alloc (.cells vs 3)) := by
 obtain ⟨i, i1, i2, i3⟩ := infoInt
 unfold execOp
 simp only [ho, Sem.run_bind, run_buildSlice w 71 3 n _ vs i (.int .i64 0) Tryz.underlying71 i1 i2 (by rw [i3]; omega) (by rw [i3]; omega) (by rw [i3]; exact hf), Result.andThen_ok, Sem.run_pure]
section
variable {P : Program} {ops : Array Oper} {Q : Exit → Act → World → Prop} {a : Act} {w w0 : World} {rest : List Oper} {o : Oper} {n : Nat} {G : Option Nat} {V : List (Nat × Value)} {R : List (Nat × Res)}
theorem zhc (hw : Region.wanted o (yielded ops a.tmps) = true) {d : Nat} (hd : o.dst = some d) (F : Fx n a V ds) (hn : Nat.blt d n = true) (M : Mx G w0 w R) (i : Nat) {t : TypeId} {c : Array Value} {k m : Nat} (hr : (execOp a.eval o).run P w = .ok (.value (.slice (some ⟨w.heap.size, 0, none⟩) k m)) (w.alloc (.cells c t)))
  (h : ∀ g a' w', Fx n a' ((d, .slice (some ⟨g, 0, none⟩) k m) :: V) ds → Mx G w0 w' ((i, blkR g t c) :: R) → wpList P ops Q rest a' w') : wpList P ops Q (o :: rest) a w :=
 zj hw hd F hn _ hr fun a' F' => h _ a' _ F' (M.alloc i t c)
end
end Go.Proofs.YtcfepoopkfhojaaGreat
namespace Go.Proofs.YtcfepoopkfhojaaGreat
open Go.ChangeShapes Go.WideShapes Go.ChangeAt Go.RowKit Go.Shelf
variable {ds : List Deferred}
def bfp (v : Value) (g : Nat) : Prop := ∃ o s n c, v = .slice (some ⟨g, o, s⟩) n c ∧ 0 < n
def ofp (v : Value) (g : Nat) : Prop := v.ownBlock = some g
theorem bfp_ofp {v : Value} {g : Nat} (h : bfp v g) : ofp v g := by
 obtain ⟨o, s, n, c, rfl, _⟩ := h
 rfl
theorem IsB.same {l : List UInt8} {v : Value} {u u' : World} (hs : Same (bfp v) u u') (h : IsB u l v) : IsB u' l v := by
 obtain ⟨A, c, rfl, h1, h2, h3, h4⟩ := h
 refine ⟨A, c, rfl, h1, h2, h3, fun hp => ?_⟩
 obtain ⟨b, o, e, hb, hc⟩ := h4.at hp
 subst e
 have hw : u.heap[b]? = some u.heap[b] := Array.getElem?_eq_getElem hb
 have h5 := hs b _ ⟨o, none, _, _, rfl, hp⟩ hw
 refine ⟨_, rfl, (Array.getElem?_eq_some_iff.1 h5).1, fun j x hx => ?_⟩
 rw [zva]
 exact (World.cell?_of_block (a := ⟨b, o + j, none⟩) (h5.trans hw.symm)).trans (hc j x hx)
theorem IsB.lt {l : List UInt8} {v : Value} {u : World} (h : IsB u l v) {g : Nat} (hg : bfp v g) : g < u.heap.size := by
 obtain ⟨A, c, rfl, h1, h2, h3, h4⟩ := h
 obtain ⟨o, s, n, c', e, hn⟩ := hg
 injection e with e1 e2 e3
 subst e2
 obtain ⟨b, o', e4, hb, _⟩ := h4.at hn
 rw [e4] at e1
 injection e1 with e1
 injection e1 with e1
 subst e1
 exact hb
theorem Byt.same {l : List UInt8} {v : Value} {b : Nat} {u u' : World} (hs : Same (ofp v) u u') (h : Byt u b v l) : Byt u' b v l := by
 refine ⟨h.1, ?_⟩
 rcases h.2 with hn | ⟨g, c, cur, e, hbg, hg, rest⟩
 ·exact .inl hn
 ·exact .inr ⟨g, c, cur, e, hbg, hs g _ (by rw [ofp, e]; rfl) hg, rest⟩
theorem Byt.rebase {l : List UInt8} {v : Value} {b B : Nat} {u : World} (h : Byt u b v l) (hB : ∀ k, v.ownBlock = some k → B ≤ k) : Byt u B v l := by
 refine ⟨h.1, ?_⟩
 rcases h.2 with hn | ⟨g, c, cur, e, hbg, rest⟩
 ·exact .inl hn
 ·exact .inr ⟨g, c, cur, e, hB g (by rw [e]; rfl), rest⟩
theorem Byt.isb {w : World} {b : Nat} {v : Value} {l : List UInt8} (h : Byt w b v l) : IsB w l v := by
 obtain ⟨A, c, e, h1, h2, h3, h4⟩ := h.slice
 refine ⟨A, c, e, h1, h2, fun hA => ?_, h3⟩
 rcases h.2 with ⟨e2, h0⟩ | ⟨g, c', cur, e2, _⟩
 ·rw [e] at e2; injection e2
 ·rw [e] at e2; injection e2 with e2; rw [hA] at e2; cases e2
theorem zfa (w : World) : IsB w [] (zN) := ⟨none, 0, rfl, Nat.le_refl _, by unfold maxLen; omega, fun _ => rfl, fun h => absurd h (by simp)⟩
def bytR (l : List UInt8) (v : Value) : Res := ⟨false, bfp v, fun w => IsB w l v⟩
def ownR (l : List UInt8) (v : Value) : Res := ⟨true, ofp v, fun w => Byt w 0 v l⟩
section
variable {G : Option Nat} {w0 w w' : World} {R : List (Nat × Res)} {l r : List UInt8} {v u : Value} {i k : Nat}
theorem Mx.isb (M : Mx G w0 w R) (h : look R k = some (bytR l v)) : IsB w l v := M.at_ k _ h
theorem Mx.isO (M : Mx G w0 w R) (h : look R k = some (ownR l v)) : IsB w l v := Byt.isb (M.at_ k _ h)
theorem Mx.byt (M : Mx none w0 w R) (h : look R k = some (ownR l v)) : Byt w w0.heap.size v l :=
 Byt.rebase (b := 0) (M.at_ k _ h) fun g hg => by
  rcases M.own k _ h rfl g hg with h | h
  ·exact h
  ·cases h
theorem bytR_dep : ∀ u u', Same (bytR l v).fp u u' → (bytR l v).F u → (bytR l v).F u' := fun _ _ hs h => IsB.same hs h
theorem ownR_dep : ∀ u u', Same (ownR l v).fp u u' → (ownR l v).F u → (ownR l v).F u' := fun _ _ hs h => Byt.same hs h
theorem Mx.argB (M : Mx G w0 w R) (i : Nat) (h : IsB w0 l v) (hG : ∀ g, G = some g → ¬ bfp v g) : Mx G w0 w ((i, bytR l v) :: R) :=
 M.arg i _ (IsB.same (u := w0) ⟨fun g o hg ho => (M.grown.block g (Array.getElem?_eq_some_iff.1 ho).1 (fun e => hG g e.symm hg)).trans ho, M.grown.size⟩ h) bytR_dep rfl fun g hg => ⟨h.lt hg, fun e => hG g e hg⟩
theorem blkO_dep {g : Nat} {t : TypeId} {c : Array Value} : ∀ u u', Same (blkO g t c).fp u u' → (blkO g t c).F u → (blkO g t c).F u' := fun u u' hs h => hs g _ rfl h
theorem Mx.argO (M : Mx G w0 w R) (i : Nat) {g : Nat} {t : TypeId} {c : Array Value} (h : w0.heap[g]? = some (.cells c t (0, 0))) (hG : ∀ b, G = some b → ¬ g = b) : Mx G w0 w ((i, blkO g t c) :: R) :=
 M.arg i _ ((M.grown.block g (Array.getElem?_eq_some_iff.1 h).1 (fun e => hG g e.symm rfl)).trans h) blkO_dep rfl fun b hb => ⟨by rw [show b = g from hb]; exact (Array.getElem?_eq_some_iff.1 h).1, fun e => hG b e (show b = g from hb).symm⟩
theorem Mx.partB (M : Mx G w0 w R) (i : Nat) (hk : look R k = some (bytR r u)) (h : IsB w l v) (hlo : ∀ g, bfp v g → bfp u g) : Mx G w0 w ((i, bytR l v) :: R) :=
 M.part i _ h bytR_dep rfl hk rfl hlo
theorem Mx.newO (M : Mx G w0 w R) (h : Below w.heap.size w w') (i : Nat) (hv : Byt w' w.heap.size v l) : Mx G w0 w' ((i, ownR l v) :: R) :=
 M.fresh h i _ (hv.rebase fun _ _ => Nat.zero_le _) ownR_dep fun g hg => hv.lt g hg
theorem Mx.owns (M : Mx none w0 w R) (h : look R k = some (ownR l v)) : ∀ g, ofp v g → w0.heap.size ≤ g := fun g hg => (M.own k _ h rfl g hg).resolve_right fun e => by cases e
end
def ixV (v : Value) (i : Nat) : Value := match v with
 | .slice (some ad) _ _ => .pointer (some (ad.add i))
 | _ => undef
section
variable {a : Act} {w : World} {o : Oper} {l r : List UInt8} {v u : Value}
theorem y_len (x : Operand) (ho : o.op = .call { callee := .builtin .len, args := #[x], argTypes := #[22] }) (hx : a.eval x = v) (hB : IsB w l v) {z : Int} (hz : (l.length : Int) = z) : (execOp a.eval o).run Tryz.prog w = .ok (.value (.int .i64 z)) w := by
 subst hz
 obtain ⟨A, c, h1, _⟩ := hB
 exact run_ln x _ ho (hx.trans h1) Tryz.underlying22
end
section
variable {P : Program} {ops : Array Oper} {Q : Exit → Act → World → Prop} {a : Act} {w w0 : World} {rest : List Oper} {o : Oper} {n : Nat} {G : Option Nat} {V : List (Nat × Value)} {R : List (Nat × Res)}
end
section
variable {P : Program} {ops : Array Oper} {Q : Exit → Act → World → Prop} {a : Act} {w w0 : World} {rest : List Oper} {o : Oper} {n : Nat} {V : List (Nat × Value)}
theorem wl_callV (hw : Region.wanted o (yielded ops a.tmps) = true) {d : Nat} (hd : o.dst = some d) (F : Fx n a V ds) (hn : Nat.blt d n = true) {f : FuncId} {args : Array Operand} {ts : Array TypeId} {t : Tmp} (ho : o.op = .call { callee := .value (.tmp t), args := args, argTypes := ts }) {lb : Array Value} (hf : a.eval (.tmp t) = .func (.func f) #[] lb)
  (hr : ∀ args w, (callFunc f args).run P w = .ok (.enter f args) w) (vals : Array Value) (hv : args.map a.eval ++ lb = vals) {Z : Value → World → Prop}
  (hc : Calls P f vals w fun e w' => ∃ v, e = .returned v ∧ Z v w')
  (h : ∀ v w' a', Z v w' → Fx n a' ((d, v) :: V) ds → wpList P ops Q rest a' w') : wpList P ops Q (o :: rest) a w :=
 zbc hw fun K hK => by
  subst hv
  unfold Oper.wp
  have : (execOp a.eval o).run P w = .ok (.enter f (args.map a.eval ++ lb)) w := by
   unfold execOp
   simp only [ho, resolve, hf]
   simp [invoke, go_sem, hr]
  rw [this]
  refine hc.mono fun e w' ⟨v, he, hb⟩ => ?_
  subst he
  have := F.put d v hn
  rw [← hd] at this
  exact hK _ _ (h _ _ _ hb this)
end
section
variable {ops : Array Oper} {Q : Exit → Act → World → Prop} {a : Act} {w w0 : World} {rest : List Oper} {o : Oper} {n : Nat} {G : Option Nat} {V : List (Nat × Value)} {R : List (Nat × Res)}
theorem run_app (M : Mx G w0 w R) {k : Nat} {l r : List UInt8} {v u : Value} (hk : look R k = some (ownR l v)) (s x : Operand)
  (ho : o.op = .call { callee := .builtin .append, args := #[s, x], argTypes := #[22, 22] }) (hs : a.eval s = v) (hx : a.eval x = u) (hu : IsB w r u) (hle : l.length + r.length ≤ 1000000) :
  ∃ v' w', (execOp a.eval o).run Tryz.prog w = .ok (.value v') w' ∧ Mx G w0 w' ((k, ownR (l ++ r) v') :: R) := by
 have hown : Byt w 0 v l := M.at_ k _ hk
 obtain ⟨v', w', hrun, hM⟩ : ∃ v' w', (Builtin.append_ #[22, 22] o.type #[v, u]).run Tryz.prog w = .ok v' w' ∧ Mx G w0 w' ((k, ownR (l ++ r) v') :: R) := by
  obtain ⟨i, hi1, hi2, hi3, hi4⟩ := info_u8
  obtain ⟨A, c, rfl, h1, h2, h3, hR⟩ := hu
  by_cases hm : 0 < r.length
  ·cases A with
   | none => obtain ⟨ad, e, _⟩ := hR hm; cases e
   | some ad =>
    obtain ⟨g, cap, w', q1, q2, q3, q4, q5⟩ := run_append_lies (P := Tryz.prog) w 22 o.type 0 5 i (.int .u8 0) 1 1 Tryz.underlying22 hi1 hi2 hi3 hi4 rfl (by decide) v l.length (l.map bv) hown ad r.length c (r.map bv) (by simp) (fun j u hj => by
     rw [List.getElem?_map] at hj
     cases hb : r[j]? with
     | none => rw [hb] at hj; cases hj
     | some b =>
      rw [hb] at hj
      obtain rfl := Option.some.inj hj
      obtain ⟨ad', e, _, hcl⟩ := hR hm
      cases e
      exact hcl j b hb) (fun u hu => by obtain ⟨b, _, rfl⟩ := List.mem_map.1 hu; rfl) hm (by unfold maxLen; omega) (by omega) (Nat.zero_le _) _ rfl
    refine ⟨_, w', q1, M.write hk rfl q3 (fun _ e => e) _ ?_ ownR_dep fun b hb => ?_⟩
    ·show Byt _ _ _ _
     unfold Byt
     rw [List.length_append, List.map_append]
     exact q2
    ·obtain rfl : g = b := by simpa [ownR, ofp, Value.ownBlock] using hb
     exact ⟨q5, q4.imp id fun e => by rw [e]; exact Nat.le_refl _⟩
  ·obtain rfl : r = [] := List.eq_nil_of_length_eq_zero (by omega)
   obtain ⟨A2, c2, e2, k1, k2, _⟩ := id hown.slice
   have hsrc : Go.Src Tryz.prog i.size 22 (.slice A 0 c) 0 [] w := by
    cases A with
    | none => exact Go.Src.ofNil w Tryz.underlying22 c
    | some ad => exact Go.Src.ofSlice w Tryz.underlying22 ad 0 c [] (by simp) (fun j u hu => by simp at hu) (fun u hu => by cases hu)
   have hrun := run_append_nothing (P := Tryz.prog) w 22 22 o.type 5 i Tryz.underlying22 hi1 A2 l.length c2 k1 (.slice A 0 c) hsrc
   refine ⟨v, w, by rw [e2]; exact hrun, ?_⟩
   rw [List.append_nil]
   exact M.drop fun j t e => by
    rw [z5a] at e; split at e
    ·rename_i hj; cases e; subst hj; exact hk
    ·exact e
 refine ⟨v', w', ?_, hM⟩
 unfold execOp
 simp only [ho, resolve, invoke, builtin, Sem.run_bind, Sem.run_pure, Result.andThen_ok, List.map_toArray, List.map_cons, List.map_nil, hs, hx, hrun]
theorem run_litO (M : Mx G w0 w R) (i : Nat) (zs : List UInt8) (m : Nat) (hm : zs.length = m) (h00 : 0 < m) (h1 : m ≤ 1000) {ps : Array (Nat × Operand)} (ho : o.op = .buildSlice 22 m ps)
  (hf : Instr.fill (fun i => some (i * 1, 1)) ((Array.range (m * 1)).map ((Value.int .u8 0).cells[· % (Value.int .u8 0).cells.size]!)) (ps.map fun (i, x) => (i, a.eval x)).toList = some (bvs zs)) :
  ∃ v w', (execOp a.eval o).run Tryz.prog w = .ok (.value v) w' ∧ Mx G w0 w' ((i, ownR zs v) :: R) := by
 obtain ⟨f, f1, f2, f3, _⟩ := info_u8
 subst hm
 have h0 : ¬ zs.length * f.size = 0 := by rw [f3]; omega
 refine ⟨.slice (some ⟨w.heap.size, 0, none⟩) zs.length zs.length, w.alloc (.cells (bvs zs) 5), ?_, M.newO (zga w _) i ?_⟩
 ·unfold execOp
  simp only [ho, Sem.run_bind, run_buildSlice w 22 5 zs.length _ (bvs zs) f (.int .u8 0) Tryz.underlying22 f1 f2 (by rw [f3]; omega) h0 (by rw [f3]; exact hf), Result.andThen_ok, Sem.run_pure]
 ·refine ⟨by simp, .inr ⟨w.heap.size, zs.length, bvs zs, rfl, Nat.le_refl _, heap_alloc_new w _, Nat.le_refl _, by unfold maxLen; omega, by simp [bvs], ?_⟩⟩
  simp only [bvs, Nat.mul_one]
  exact List.take_of_length_le (by simp)
theorem run_lit0 (M : Mx G w0 w R) (i : Nat) (ho : o.op = .buildSlice 22 0 #[]) :
  ∃ v w', (execOp a.eval o).run Tryz.prog w = .ok (.value v) w' ∧ Mx G w0 w' ((i, ownR [] v) :: R) := by
 refine ⟨.slice (some ⟨w.heap.size, 0, none⟩) 0 0, w.alloc (.cells #[] 5), ?_, M.newO (zga w _) i ⟨by simp, .inr ⟨w.heap.size, 0, #[], rfl, Nat.le_refl _, heap_alloc_new w _, Nat.le_refl _, by unfold maxLen; omega, by simp, by simp⟩⟩⟩
 unfold execOp
 simp only [ho, List.map_toArray, List.map_nil]
 kernel_rfl
end
theorem resCT {P : Program} {fn : Func} {p q : Tmp} {ty : TypeId} (h : fn.results = #[.cell p ty, .tmp q]) {a : Act} {w : World} {g : Nat} {t : TypeId} {c : Array Value} {x : Value} {d : TypeDesc}
  (hp : a.eval (.tmp p) = .pointer (some ⟨g, 0, none⟩)) (hg : w.heap[g]? = some (.cells c t (0, 0))) (hq : a.eval (.tmp q) = x) (hu : P.underlying ty = some d) (hd : yPlain d = false) (hi : (P.info? ty).map (·.size) = some c.size) : (results fn a.tmps).run P w = .ok (.tuple #[.agg c, x]) w := by
 have hp' : a.tmps[p]?.getD undef = .pointer (some ⟨g, 0, none⟩) := by simpa [Act.eval] using hp
 have hq' : a.tmps[q]?.getD undef = x := by simpa [Act.eval] using hq
 cases d with
 | struct fs => simp [results, h, hp', hq', asAddr, run_loadVar_row w g t ty c (0, 0) _ hg hu rfl hi]
 | array n e => simp [results, h, hp', hq', asAddr, run_loadVar_row w g t ty c (0, 0) _ hg hu rfl hi]
 | _ => cases hd
end Go.Proofs.YtcfepoopkfhojaaGreat
namespace Go.Proofs.YtcfepoopkfhojaaGreat
open Go.ChangeShapes Go.WideShapes Go.ChangeAt Go.RowKit Go.Shelf
variable {ds : List Deferred}
def AllIn {α : Type} (V : List (Nat × α)) : List (Nat × α) → Prop
 | [] => True
 | p :: L => look V p.1 = some p.2 ∧ AllIn V L
theorem AllIn.look {α : Type} {V : List (Nat × α)} : ∀ {L : List (Nat × α)}, AllIn V L → ∀ t v, look L t = some v → look V t = some v
 | [], _, t, v, e => by cases e
 | (k, x) :: L, h, t, v, e => by
  rw [z5a] at e
  by_cases c : k = t
  ·rw [if_pos c] at e
   subst c
   exact h.1.trans e
  ·rw [if_neg c] at e
   exact AllIn.look h.2 t v e
theorem Fx.sub {n : Nat} {a : Act} {V V' : List (Nat × Value)} (F : Fx n a V ds) (h : AllIn V V') : Fx n a V' ds := F.eq h.look
theorem Mx.sub {G : Option Nat} {w0 w : World} {R R' : List (Nat × Res)} (M : Mx G w0 w R) (h : AllIn R R') : Mx G w0 w R' := M.drop h.look
theorem loop_fx {α : Type} {P : Program} {Q : Exit → Act → World → Prop} {a : Act} {w w0 : World} {c : Code} {n : Nat} {G : Option Nat} (V : α → List (Nat × Value)) (R : α → List (Nat × Res)) (X : Nat → α → Prop) (k0 : Nat) (x0 : α) (h0 : X k0 x0) (F : Fx n a (V x0) ds) (M : Mx G w0 w (R x0))
  (round : ∀ k x a w (K : Act → World → Prop), X k x → Fx n a (V x) ds → Mx G w0 w (R x) → (∀ k' x' a' w', k' < k → X k' x' → Fx n a' (V x') ds → Mx G w0 w' (R x') → K a' w') → c.wp P (Exit.then K Q) a w) : (Code.loop c).wp P Q a w :=
 wp_loop_ghost (fun k a w => ∃ x, X k x ∧ Fx n a (V x) ds ∧ Mx G w0 w (R x)) k0 ⟨x0, h0, F, M⟩ fun k a w ⟨x, hx, F, M⟩ =>
  round k x a w _ hx F M fun k' x' a' w' hk hx' F' M' => ⟨k', hk, x', hx', F', M'⟩
end Go.Proofs.YtcfepoopkfhojaaGreat
namespace Go.Proofs.YtcfepoopkfhojaaGreat
open Go.ChangeShapes Go.WideShapes Go.ChangeAt Go.RowKit Go.Shelf
def updB (S : Nat → Bool) (k : Nat) (j : Nat) : Bool := match Nat.beq j k with
 | true => true
 | false => S j
def updV (p : Nat → Value) (k : Nat) (v : Value) (j : Nat) : Value := match Nat.beq j k with
 | true => v
 | false => p j
theorem updB_at (S : Nat → Bool) (k j : Nat) : updB S k j = if j = k then true else S j := by
 unfold updB
 by_cases h : j = k
 ·subst h; rw [if_pos rfl, Nat.beq_refl]
 ·rw [if_neg h, show Nat.beq j k = false by cases hb : Nat.beq j k with
   | false => rfl
   | true => exact absurd (Nat.eq_of_beq_eq_true hb) h]
theorem updV_at (p : Nat → Value) (k : Nat) (v : Value) (j : Nat) : updV p k v j = if j = k then v else p j := by
 unfold updV
 by_cases h : j = k
 ·subst h; rw [if_pos rfl, Nat.beq_refl]
 ·rw [if_neg h, show Nat.beq j k = false by cases hb : Nat.beq j k with
   | false => rfl
   | true => exact absurd (Nat.eq_of_beq_eq_true hb) h]
def SlotM (L : List Oper) (E : Nat → Value → Prop) (a0 a : Act) (S : Nat → Bool) (p : Nat → Value) (t : Tmp) : Prop := match zpb L t with
 | none => a.eval (.tmp t) = a0.eval (.tmp t)
 | some j => S j = true ∧ a.eval (.tmp t) = p j ∧ E j (p j)
def needs (L : List Oper) (m j k : Nat) : Bool := match (L.take m)[j]? with
 | some o => o.after.any fun e => Region.binds .any e && e.on == k
 | none => false
def HopM (P : Program) (L : List Oper) (m : Nat) (Q : Exit → Act → World → Prop) (E : Nat → Value → Prop) (J : (Nat → Bool) → (Nat → Value) → World → Prop) (a0 : Act) (k : Nat) (o : Oper) : Prop :=
 ∀ (a : Act) (w : World) (S : Nat → Bool) (p : Nat → Value), J S p w → S k = false → (∀ j, needs L m j k = true → S j = false) → (∀ t ∈ o.looksAt L.toArray, SlotM (L.take m) E a0 a S p t) →
  if Region.wanted o (yielded L.toArray a.tmps) = true then o.wp P a w (fun a' w' => ∃ v, a' = a.put o.dst v ∧ E k v ∧ J (updB S k) (updV p k v) w') Q else E k undef ∧ J (updB S k) (updV p k undef) w
def HopAllM (P : Program) (L : List Oper) (m : Nat) (Q : Exit → Act → World → Prop) (E : Nat → Value → Prop) (J : (Nat → Bool) → (Nat → Value) → World → Prop) (a0 : Act) : List Oper → Nat → Prop
 | [], _ => True
 | o :: l, k => HopM P L m Q E J a0 k o ∧ HopAllM P L m Q E J a0 l (k + 1)
theorem hop_atM {P : Program} {L : List Oper} {m : Nat} {Q : Exit → Act → World → Prop} {E : Nat → Value → Prop} {J : (Nat → Bool) → (Nat → Value) → World → Prop} {a0 : Act} : ∀ (l : List Oper) (k : Nat), HopAllM P L m Q E J a0 l k → ∀ (i : Nat) (o : Oper), l[i]? = some o → HopM P L m Q E J a0 (k + i) o
 | [], _, _, i, o, ho => by cases ho
 | q :: l, k, h, 0, o, ho => by
  simp only [List.getElem?_cons_zero, Option.some.injEq] at ho
  subst ho; exact h.1
 | q :: l, k, h, i + 1, o, ho => by
  have := hop_atM l (k + 1) h.2 i o (by simpa using ho)
  rwa [show k + 1 + i = k + (i + 1) by omega] at this
theorem wp_region_relMC {P : Program} {Q : Exit → Act → World → Prop} {a0 : Act} {W : World} {L : List Oper} {C : Prop} (hC : RegInv P L Q a0 W C) (m n : Nat) (hn : a0.tmps.size = n) (hok : relOkC L m n = true) (hml : Nat.ble m L.length = true) (E : Nat → Value → Prop) (hds : ∀ (j : Nat) (o : Oper), (L.take m)[j]? = some o → o.dst = none → ∀ v, E j v ↔ v = undef) (J : (Nat → Bool) → (Nat → Value) → World → Prop)
  (h0 : ∀ p, J (fun j => Nat.ble m j) p W.drew) (hop : HopAllM P L m Q E J a0 (L.take m) 0)
  (hend : ∀ (p : Nat → Value) (w : World), J (fun _ => true) p w → (∀ (j : Nat) (o : Oper), (L.take m)[j]? = some o → E j (p j)) → wpList P L.toArray Q (L.drop m) (zqb p (L.take m) 0 a0) w) : C := by
 have hW := zta W
 unfold relOkC at hok
 simp only [Bool.and_eq_true, List.all_eq_true, Option.isNone_iff_eq_none, Bool.or_eq_true, decide_eq_true_eq] at hok
 obtain ⟨⟨⟨⟨hsel, hE⟩, hall⟩, hT1⟩, hT2⟩ := hok
 have htake : ∀ (i : Nat) (o : Oper), (L.take m)[i]? = some o → i < m ∧ L[i]? = some o := fun i o h => by
  rw [List.getElem?_take] at h
  split at h
  ·exact ⟨by assumption, h⟩
  ·cases h
 have hintake : ∀ (i : Nat) (o : Oper), i < m → L[i]? = some o → (L.take m)[i]? = some o := fun i o h1 h2 => by
  rw [List.getElem?_take, if_pos h1]; exact h2
 have hdst : ∀ (i : Nat) (o : Oper) (d : Tmp), (L.take m)[i]? = some o → o.dst = some d → d < n ∧ zpb (L.take m) d = some i := fun i o d ho hd => by
  have h1 := hall i (List.mem_range.2 (htake i o ho).1)
  simp only [ho, hd, Bool.and_eq_true, decide_eq_true_eq, beq_iff_eq] at h1
  exact h1.1
 have hread : ∀ (i : Nat) (o : Oper) (t : Tmp) (j : Nat), (L.take m)[i]? = some o → t ∈ o.looksAt L.toArray → zpb (L.take m) t = some j → ∃ e ∈ o.after, Region.binds .any e = true ∧ e.on = j := fun i o t j ho ht hj => by
  have h1 := hall i (List.mem_range.2 (htake i o ho).1)
  simp only [ho, Bool.and_eq_true, List.all_eq_true] at h1
  have h2 := h1.2 t ht
  simp only [hj, Array.any_eq_true, Bool.and_eq_true, beq_iff_eq] at h2
  obtain ⟨x, hx, hb, he⟩ := h2
  exact ⟨_, Array.getElem_mem hx, hb, he⟩
 have hdis : ∀ (i j : Nat) (oi oj : Oper) (d : Tmp), (L.take m)[i]? = some oi → (L.take m)[j]? = some oj → j ≠ i → oi.dst = some d → oj.dst ≠ some d := fun i j oi oj d hi hj hne hd e => by
  have h1 := (hdst i oi d hi hd).2
  have h2 := (hdst j oj d hj e).2
  rw [h1] at h2
  exact hne (Option.some.inj h2).symm
 -- a tail operation that is ready: all ahead of it is listed
 have htail : ∀ (listed : Array Bool) (i : Nat), listed.size = L.toArray.size → (∀ (j : Nat) (oj : Oper), L[j]? = some oj → listed.getD j true = true → ∀ e ∈ oj.after, Region.binds .any e = true → listed.getD e.on true = true) → i ∈ Region.ready .any L.toArray listed → m ≤ i → ∀ j, j < i → listed.getD j true = true := by
  intro listed i hs hcl hi hmi j hj
  obtain ⟨hiu, o, ho, hwait⟩ := mem_ready.1 hi
  have ho' : L[i]? = some o := by simpa using ho
  have hil := (List.getElem?_eq_some_iff.1 ho').1
  rcases hT2 i (List.mem_range.2 hil) with h3 | h3
  ·omega
  have h4 := h3 j (List.mem_range.2 hj)
  unfold aftB at h4
  simp only [ho', Array.any_eq_true, Bool.and_eq_true, Bool.or_eq_true, beq_iff_eq] at h4
  obtain ⟨x, hx, hb, h4⟩ := h4
  have h5 : listed.getD (o.after[x]).on true = true := by
   have h1 := hwait _ (Array.getElem_mem hx) hb
   by_cases hlt : (o.after[x]).on < listed.size
   ·simpa [hlt] using h1
   ·rw [Array.getD_eq_getD_getElem?, Array.getElem?_eq_none (by omega)]; rfl
  rcases h4 with h4 | h4
  ·rw [h4] at h5; exact h5
  ·cases hq : L[(o.after[x]).on]? with
   | none => unfold aftB at h4; rw [hq] at h4; cases h4
   | some oq => exact aft_listed hcl 39 _ oq j hq h5 h4
 have hI : ∀ (listed : Array Bool) (a : Act) (w : World), (J (fun j => Nat.ble m j || listed.getD j true) (fun j => a.eval (match ((L.take m)[j]?).bind (·.dst) with | some d => .tmp d | none => .const undef)) w ∧ a.tmps.size = n ∧ a.defers = a0.defers ∧
   (∀ t : Tmp, (∀ (j : Nat) (oj : Oper), (L.take m)[j]? = some oj → listed.getD j true = true → oj.dst ≠ some t) → a.eval (.tmp t) = a0.eval (.tmp t)) ∧
   (∀ (j : Nat) (oj : Oper) (d : Tmp), (L.take m)[j]? = some oj → listed.getD j true = true → oj.dst = some d → E j (a.eval (.tmp d)))) → listed.size = L.length → (∀ j, j < m → j < L.length → listed.getD j true = true) → wpList P L.toArray Q (L.drop m) a w := by
  rintro listed a w ⟨hB, hz, hd, hbase, hYs⟩ hls hl
  have hlisted : ∀ (j : Nat) (oj : Oper), (L.take m)[j]? = some oj → listed.getD j true = true := fun j oj hoj => by
   obtain ⟨h1, h2⟩ := htake j oj hoj
   exact hl j h1 (List.getElem?_eq_some_iff.1 h2).1
  have hp : a = zqb (fun j => a.eval (match ((L.take m)[j]?).bind (·.dst) with | some d => .tmp d | none => .const undef)) (L.take m) 0 a0 := by
   obtain ⟨z1, z2⟩ := lay_size (fun j => a.eval (match ((L.take m)[j]?).bind (·.dst) with | some d => .tmp d | none => .const undef)) (L.take m) 0 a0
   refine act_ext (by rw [z1, hz, hn]) (by rw [z2, hd]) fun t ht => ?_
   cases hj : zpb (L.take m) t with
   | none => rw [lay_base _ (L.take m) 0 a0 (z0b hj)]; exact hbase t fun j oj hoj _ => z0b hj j oj hoj
   | some j =>
    obtain ⟨oj, hoj, hdj⟩ := zjc hj
    rw [lay_at _ (L.take m) 0 j a0 oj hoj hdj (by rw [hn, ← hz]; exact ht) fun i oi hi hne => hdis j i oj oi t hoj hi hne hdj]
    rw [Nat.zero_add]
    simp only [hoj, hdj, Option.bind_some]
  rw [hp]
  have hS : (fun j => Nat.ble m j || listed.getD j true) = fun _ => true := funext fun j => by
   by_cases hj : m ≤ j
   ·rw [Nat.ble_eq_true_of_le hj]; rfl
   ·by_cases hjl : j < L.length
    ·rw [hl j (by omega) hjl]; simp
    ·have hnone : listed[j]? = none ∨ True := .inr trivial
     have : (L.take m)[j]? = none := by rw [List.getElem?_eq_none_iff]; simp; omega
     have hsz := hls
     rw [Array.getD_eq_getD_getElem?, Array.getElem?_eq_none (by omega)]; simp
  rw [hS] at hB
  refine hend _ w hB fun i o ho => ?_
  cases hdo : o.dst with
  | some d =>
   simp only [ho, hdo, Option.bind_some]
   exact hYs i o d ho (hlisted i o ho) hdo
  | none =>
   simp only [ho, hdo, Option.bind_some]
   exact (hds i o ho hdo _).2 rfl
 refine hC (fun listed a w => (∀ (j : Nat) (oj : Oper), L[j]? = some oj → listed.getD j true = true → ∀ e ∈ oj.after, Region.binds .any e = true → listed.getD e.on true = true) ∧ (((∀ j, m ≤ j → j < L.length → listed.getD j true = false) ∧ J (fun j => Nat.ble m j || listed.getD j true) (fun j => a.eval (match ((L.take m)[j]?).bind (·.dst) with | some d => .tmp d | none => .const undef)) w ∧ a.tmps.size = n ∧ a.defers = a0.defers ∧
  (∀ t : Tmp, (∀ (j : Nat) (oj : Oper), (L.take m)[j]? = some oj → listed.getD j true = true → oj.dst ≠ some t) → a.eval (.tmp t) = a0.eval (.tmp t)) ∧
  (∀ (j : Nat) (oj : Oper) (d : Tmp), (L.take m)[j]? = some oj → listed.getD j true = true → oj.dst = some d → E j (a.eval (.tmp d)))) ∨
  (∃ k, m ≤ k ∧ (∀ j, j < L.length → (listed.getD j true = true ↔ j < k)) ∧ wpList P L.toArray Q (L.drop k) a w))) ?_ ?_ ?_
 ·refine ⟨fun j oj hj hl => ?_, .inl ⟨fun j _ hj => by simp [hj], ?_, hn, rfl, fun _ _ => rfl, fun j oj d hj hl _ => ?_⟩⟩
  ·have hjl := (List.getElem?_eq_some_iff.1 hj).1
   simp [hjl] at hl
  ·have hml' := Nat.le_of_ble_eq_true hml
   refine (congrArg (fun S => J S _ W.drew) (funext fun j => ?_)).mp (h0 _)
   by_cases hj : m ≤ j
   ·rw [Nat.ble_eq_true_of_le hj]; rfl
   ·have : j < L.length := by omega
    simp [this]
  ·have hjl := (List.getElem?_eq_some_iff.1 (htake j oj hj).2).1
   simp [hjl] at hl
 ·rintro listed a w i hs ⟨hcl, hinv⟩ hi
  obtain ⟨hiu, o, ho, hwait⟩ := mem_ready.1 hi
  have ho' : L[i]? = some o := by simpa using ho
  have hil := (List.getElem?_eq_some_iff.1 ho').1
  have hsl : listed.size = L.length := by simpa using hs
  have hcl2 : (∀ (j : Nat) (oj : Oper), L[j]? = some oj → (listed.setIfInBounds i true).getD j true = true → ∀ e ∈ oj.after, Region.binds .any e = true → (listed.setIfInBounds i true).getD e.on true = true) := fun j oj hoj hl e he hbd => by
   by_cases ei : i = e.on
   ·rw [← ei, Array.getD_eq_getD_getElem?, Array.getElem?_setIfInBounds_self]; simp [hsl, hil]
   ·rw [getD_set_ne true ei]
    by_cases ej : i = j
    ·subst ej
     obtain rfl : o = oj := Option.some.inj (ho'.symm.trans hoj)
     have h1 := hwait e he hbd
     by_cases hlt : e.on < listed.size
     ·simpa [hlt] using h1
     ·rw [Array.getD_eq_getD_getElem?, Array.getElem?_eq_none (by omega)]; rfl
    ·rw [getD_set_ne true ej] at hl
     exact hcl j oj hoj hl e he hbd
  by_cases him : i < m
  ·rcases hinv with ⟨htl, hB, hz, hd, hbase, hYs⟩ | ⟨k, hmk, hlk, _⟩
   ·have ht' := hintake i o him ho'
    have hh := hop_atM (L.take m) 0 hop i o ht'
    rw [Nat.zero_add] at hh
    have hslots : ∀ t ∈ o.looksAt L.toArray, SlotM (L.take m) E a0 a (fun j => Nat.ble m j || listed.getD j true) (fun j => a.eval (match ((L.take m)[j]?).bind (·.dst) with | some d => .tmp d | none => .const undef)) t := fun t ht => by
     unfold SlotM
     cases hj : zpb (L.take m) t with
     | none => exact hbase t fun j oj hoj _ => z0b hj j oj hoj
     | some j =>
      obtain ⟨oj, hoj, hdj⟩ := zjc hj
      obtain ⟨e, he, hb, hon⟩ := hread i o t j ht' ht hj
      have h1 := hwait e he hb
      rw [hon] at h1
      have hjl : j < listed.size := by rw [hsl]; exact (List.getElem?_eq_some_iff.1 (htake j oj hoj).2).1
      have hl1 : listed.getD j true = true := by simpa [hjl] using h1
      have hjm : j < m := (htake j oj hoj).1
      refine ⟨by simp only [hl1, Bool.or_true], ?_, ?_⟩
      ·simp only [hoj, hdj, Option.bind_some]
      ·simp only [hoj, hdj, Option.bind_some]
       exact hYs j oj t hoj hl1 hdj
    have hSi : (Nat.ble m i || listed.getD i true) = false := by
     rw [show Nat.ble m i = false by cases hb : Nat.ble m i with
      | false => rfl
      | true => exact absurd (Nat.le_of_ble_eq_true hb) (by omega)]
     rw [Bool.false_or]; simpa using hiu
    have hnd : ∀ j, needs L m j i = true → (Nat.ble m j || listed.getD j true) = false := fun j hj => by
     unfold needs at hj
     cases hoj : (L.take m)[j]? with
     | none => rw [hoj] at hj; cases hj
     | some oj =>
      rw [hoj] at hj
      simp only [Array.any_eq_true, Bool.and_eq_true, beq_iff_eq] at hj
      obtain ⟨x, hx, hb, he⟩ := hj
      have hjm := (htake j oj hoj).1
      rw [show Nat.ble m j = false by cases hb2 : Nat.ble m j with
       | false => rfl
       | true => exact absurd (Nat.le_of_ble_eq_true hb2) (by omega), Bool.false_or]
      cases hlj : listed.getD j true with
      | false => rfl
      | true =>
       have := hcl j oj (htake j oj hoj).2 hlj _ (Array.getElem_mem hx) hb
       rw [he] at this
       have h2 : listed.getD i true = false := by simpa using hiu
       rw [h2] at this; cases this
    have hh := hh a w _ _ hB hSi hnd hslots
    have hset : ∀ (v : Value) (w' : World), E i v → J (updB (fun j => Nat.ble m j || listed.getD j true) i) (updV (fun j => a.eval (match ((L.take m)[j]?).bind (·.dst) with | some d => .tmp d | none => .const undef)) i v) w' → ((∀ j, m ≤ j → j < L.length → (listed.setIfInBounds i true).getD j true = false) ∧ J (fun j => Nat.ble m j || (listed.setIfInBounds i true).getD j true) (fun j => (a.put o.dst v).eval (match ((L.take m)[j]?).bind (·.dst) with | some d => .tmp d | none => .const undef)) w' ∧ (a.put o.dst v).tmps.size = n ∧ (a.put o.dst v).defers = a0.defers ∧
      (∀ t : Tmp, (∀ (j : Nat) (oj : Oper), (L.take m)[j]? = some oj → (listed.setIfInBounds i true).getD j true = true → oj.dst ≠ some t) → (a.put o.dst v).eval (.tmp t) = a0.eval (.tmp t)) ∧
      (∀ (j : Nat) (oj : Oper) (d : Tmp), (L.take m)[j]? = some oj → (listed.setIfInBounds i true).getD j true = true → oj.dst = some d → E j ((a.put o.dst v).eval (.tmp d)))) := fun v w' hy hb => by
     refine ⟨fun j h1 h2 => by rw [getD_set_ne true (show i ≠ j by omega)]; exact htl j h1 h2, ?_, by rw [put_size]; exact hz, by rw [zpc]; exact hd, fun t ht => ?_, fun j oj d hoj hl hdj => ?_⟩
     ·have e1 : (fun j => Nat.ble m j || (listed.setIfInBounds i true).getD j true) = updB (fun j => Nat.ble m j || listed.getD j true) i := funext fun j => by
       rw [updB_at]
       by_cases e : i = j
       ·subst e; rw [if_pos rfl, Array.getD_eq_getD_getElem?, Array.getElem?_setIfInBounds_self]; simp [hsl, hil]
       ·rw [if_neg (fun e2 => e e2.symm), getD_set_ne true e]
      have e2 : (fun j => (a.put o.dst v).eval (match ((L.take m)[j]?).bind (·.dst) with | some d => .tmp d | none => .const undef)) = updV (fun j => a.eval (match ((L.take m)[j]?).bind (·.dst) with | some d => .tmp d | none => .const undef)) i v := funext fun j => by
       rw [updV_at]
       by_cases e : i = j
       ·subst e; rw [if_pos rfl]
        cases hdd : o.dst with
        | some dd =>
         simp only [ht', hdd, Option.bind_some]
         exact z4b (by rw [hz]; exact (hdst i o dd ht' hdd).1)
        | none =>
         simp only [ht', hdd, Option.bind_some]
         exact ((hds i o ht' hdd v).1 hy).symm
       ·rw [if_neg (fun e2 => e e2.symm)]
        cases hoj : (L.take m)[j]? with
        | none => rfl
        | some oj =>
         cases hdj : oj.dst with
         | none => simp only [Option.bind_some, hdj]; rfl
         | some dj =>
          simp only [Option.bind_some, hdj]
          exact zib (hdis j i oj o dj hoj ht' e hdj)
      rw [e1, e2]; exact hb
     ·rw [zib (ht i o ht' (by rw [Array.getD_eq_getD_getElem?, Array.getElem?_setIfInBounds_self]; simp [hsl, hil]))]
      refine hbase t fun j oj hoj hl => ht j oj hoj ?_
      by_cases e : i = j
      ·subst e; rw [hl] at hiu; cases hiu
      ·rw [getD_set_ne true e]; exact hl
     ·by_cases e : i = j
      ·subst e
       obtain rfl : o = oj := Option.some.inj (ht'.symm.trans hoj)
       rw [hdj, z4b (by rw [hz]; exact (hdst i o d ht' hdj).1)]
       exact hy
      ·rw [zib (hdis j i oj o d hoj ht' e hdj)]
       rw [getD_set_ne true e] at hl
       exact hYs j oj d hoj hl hdj
    unfold wpOp
    simp only [ho]
    by_cases hw : Region.wanted o (yielded L.toArray a.tmps) = true
    ·rw [if_pos hw] at hh ⊢
     exact .inl (Oper.wp_mono (fun a' w' ⟨v, e, hy, hb⟩ => by rw [e]; exact ⟨hcl2, .inl (hset v w' hy hb)⟩) hh)
    ·rw [if_neg hw] at hh ⊢
     exact ⟨hcl2, .inl (hset undef w hh.1 hh.2)⟩
   ·have := (hlk i hil).2 (by omega)
    rw [this] at hiu; cases hiu
  ·have hmi : m ≤ i := Nat.le_of_not_lt him
   have hahead := htail listed i hs hcl hi hmi
   have hk : (∀ j, j < L.length → (listed.getD j true = true ↔ j < i)) ∧ wpList P L.toArray Q (L.drop i) a w := by
    rcases hinv with ⟨htl, hrest⟩ | ⟨k, hmk, hlk, hwp⟩
    ·obtain rfl : i = m := by
      refine Nat.le_antisymm (Nat.le_of_not_lt fun hlt => ?_) hmi
      have h1 := hahead m hlt
      rw [htl m (Nat.le_refl _) (by omega)] at h1; cases h1
     refine ⟨fun j hj => ⟨fun h => Nat.lt_of_not_le fun h2 => ?_, hahead j⟩, hI listed a w hrest hsl fun j h1 _ => hahead j h1⟩
     rw [htl j h2 hj] at h; cases h
    ·obtain rfl : k = i := by
      refine Nat.le_antisymm (Nat.le_of_not_lt fun hlt => ?_) (Nat.le_of_not_lt fun hlt => ?_)
      ·have := (hlk i hil).2 hlt
       rw [this] at hiu; cases hiu
      ·have := (hlk k (by omega)).1 (hahead k hlt)
       omega
     exact ⟨hlk, hwp⟩
   obtain ⟨hlk, hwp⟩ := hk
   have hdr : L.drop i = L[i] :: L.drop (i + 1) := List.drop_eq_getElem_cons hil
   have hoe : L[i] = o := by rw [List.getElem?_eq_getElem hil] at ho'; exact Option.some.inj ho'
   rw [hoe] at hdr
   have hg := hT1 o (by
    have h6 : L.drop i = (L.drop m).drop (i - m) := by rw [List.drop_drop]; congr 1; omega
    have h7 : o ∈ L.drop i := by rw [hdr]; exact List.mem_cons_self
    rw [h6] at h7
    exact List.mem_of_mem_drop h7)
   have hset : ∀ j, j < L.length → ((listed.setIfInBounds i true).getD j true = true ↔ j < i + 1) := by
    intro j hj
    by_cases hji : j = i
    ·subst hji; simp [hsl, hj]
    ·rw [getD_set_ne true (fun e => hji e.symm), hlk j hj]; omega
   rw [hdr] at hwp
   unfold wpList at hwp
   unfold wpOp
   simp only [ho]
   have hw' : ∀ g, Region.wanted o g = true := fun g => by simp [Region.wanted, hg]
   simp only [hw', if_true] at hwp ⊢
   exact hwp.imp (Oper.wp_mono fun a' w' h' => ⟨hcl2, .inr ⟨i + 1, by omega, hset, h'⟩⟩) (fun h => h)
 ·rintro listed a w hs ⟨hcl, hinv⟩ hr
  have hsl : listed.size = L.length := by simpa using hs
  have hlisted : ∀ j, j < L.length → listed.getD j true = true := fun j hj => by
   cases h : listed.getD j true with
   | true => rfl
   | false => exact absurd hr (zcb hE hs j (by simpa using hj) h)
  have hwp : ∃ k, L.length ≤ k ∧ wpList P L.toArray Q (L.drop k) a w := by
   rcases hinv with ⟨htl, hrest⟩ | ⟨k, hmk, hlk, hwp⟩
   ·refine ⟨m, Nat.le_of_not_lt fun hlt => ?_, hI listed a w hrest hsl fun j _ hj => hlisted j hj⟩
    have h1 := htl m (Nat.le_refl _) hlt
    rw [hlisted m hlt] at h1; cases h1
   ·refine ⟨k, Nat.le_of_not_lt fun hlt => ?_, hwp⟩
    exact absurd ((hlk k hlt).1 (hlisted k hlt)) (Nat.lt_irrefl _)
  obtain ⟨k, h1, h2⟩ := hwp
  rw [List.drop_eq_nil_of_le h1] at h2
  exact h2
theorem wp_region_relM {P : Program} {id : Nat} {Q : Exit → Act → World → Prop} {a0 : Act} {W : World} {L : List Oper} (m n : Nat) (hn : a0.tmps.size = n) (hm : P.follows .mixedOrders = true) (hok : relOkC L m n = true) (hml : Nat.ble m L.length = true) (E : Nat → Value → Prop) (hds : ∀ (j : Nat) (o : Oper), (L.take m)[j]? = some o → o.dst = none → ∀ v, E j v ↔ v = undef) (J : (Nat → Bool) → (Nat → Value) → World → Prop)
  (h0 : ∀ p, J (fun j => Nat.ble m j) p W.drew) (hop : HopAllM P L m Q E J a0 (L.take m) 0)
  (hend : ∀ (p : Nat → Value) (w : World), J (fun _ => true) p w → (∀ (j : Nat) (o : Oper), (L.take m)[j]? = some o → E j (p j)) → wpList P L.toArray Q (L.drop m) (zqb p (L.take m) 0 a0) w) : (Code.region id L.toArray true).wp P Q a0 W :=
 wp_region_relMC (.wp hm) m n hn hok hml E hds J h0 hop hend
variable {ds : List Deferred}
def trivR : Res := ⟨false, fun _ => False, fun _ => True⟩
def z7b (b : Bool) (r : Res) : Res := match b with
 | true => r
 | false => trivR
theorem condR_look {R : List (Nat × Res)} {i : Nat} {b : Bool} {r : Res} (hb : b = true) (h : look R i = some (z7b b r)) : look R i = some r := by subst hb; exact h
def eitherR (b : Bool) (r s : Res) : Res := match b with
 | true => r
 | false => s
theorem eitherR_at {R : List (Nat × Res)} {i : Nat} {c : Bool} {r s : Res} (hc : c = false) (h : look R i = some s) : look R i = some (eitherR c r s) := by subst hc; exact h
theorem eitherR_r {R : List (Nat × Res)} {i : Nat} {c : Bool} {r s : Res} (hc : c = false) (h : look R i = some (eitherR c r s)) : look R i = some s := by subst hc; exact h
def pfp (v : Value) (g : Nat) : Prop := v = .pointer (some ⟨g, 0, none⟩)
def ptrR (t : TypeId) (c : Array Value) (v : Value) : Res := ⟨true, pfp v, fun w => ∃ g, v = .pointer (some ⟨g, 0, none⟩) ∧ w.heap[g]? = some (.cells c t (0, 0))⟩
section
variable {G : Option Nat} {w0 w w' : World} {R : List (Nat × Res)} {i k : Nat}
theorem Mx.triv (M : Mx G w0 w R) (i : Nat) : Mx G w0 w ((i, trivR) :: R) := M.cons i trivR trivial (fun _ _ _ _ => trivial) (fun _ h => h.elim) (fun e => by cases e) (fun _ _ _ _ _ _ h => h.elim)
theorem ptrR_dep {t : TypeId} {c : Array Value} {v : Value} : ∀ u u', Same (ptrR t c v).fp u u' → (ptrR t c v).F u → (ptrR t c v).F u' := fun u u' hs ⟨g, e, h⟩ => ⟨g, e, hs g _ e h⟩
theorem Mx.allocP (M : Mx G w0 w R) (i : Nat) (t : TypeId) (c : Array Value) : Mx G w0 (w.alloc (.cells c t)) ((i, ptrR t c (.pointer (some ⟨w.heap.size, 0, none⟩))) :: R) :=
 M.fresh (zga w _) i _ ⟨_, rfl, heap_alloc_new _ _⟩ ptrR_dep (fun g hg => by
  have e : w.heap.size = g := by injection hg with hg; injection hg with hg; injection hg
  subst e; exact ⟨Nat.le_refl _, by simp⟩)
theorem Mx.ptr (M : Mx G w0 w R) {k g : Nat} {t : TypeId} {c : Array Value} (hk : look R k = some (ptrR t c (.pointer (some ⟨g, 0, none⟩)))) : Mx G w0 w ((k, blkR g t c) :: R) := by
 obtain ⟨g', e, h⟩ := M.at_ k _ hk
 have e2 : g' = g := by injection e with e; injection e with e; injection e with e; exact e.symm
 subst e2
 exact M.cons k _ h blkR_dep (fun b hb => by cases hb; exact zyb h) (fun _ b hb => M.own k _ hk rfl b (by cases hb; rfl)) fun j s e hj _ b hb => M.dis k j _ s hk e hj rfl b (by cases hb; rfl)
end
theorem relOkC_dst {L : List Oper} {m n : Nat} (hok : relOkC L m n = true) : ∀ (i : Nat) (o : Oper) (d : Nat), (L.take m)[i]? = some o → o.dst = some d → d < n := by
 unfold relOkC at hok
 simp only [Bool.and_eq_true, List.all_eq_true] at hok
 obtain ⟨⟨⟨⟨-, -⟩, hall⟩, -⟩, -⟩ := hok
 intro i o d ho hd
 have hi : i < m := by
  rw [List.getElem?_take] at ho
  split at ho
  ·assumption
  ·cases ho
 have h1 := hall i (List.mem_range.2 hi)
 simp only [ho, hd, Bool.and_eq_true, decide_eq_true_eq] at h1
 exact h1.1.1
def JM (G : Option Nat) (w0 : World) (RL : (Nat → Bool) → (Nat → Value) → List (Nat × Res)) (S : Nat → Bool) (p : Nat → Value) (w : World) : Prop := Mx G w0 w (RL S p)
def stE (E : List (Value → Prop)) (k : Nat) (v : Value) : Prop := ((E[k]?).getD fun _ => True) v
def EAll (E : List (Value → Prop)) (p : Nat → Value) : List Oper → Nat → Prop
 | [], _ => True
 | _ :: l, k => stE E k (p k) ∧ EAll E p l (k + 1)
def EDs (E : List (Value → Prop)) : List Oper → Nat → Prop
 | [], _ => True
 | o :: l, k => (match o.dst with
  | some _ => True
  | none => ∀ v, stE E k v ↔ v = undef) ∧ EDs E l (k + 1)
theorem EDs.at {E : List (Value → Prop)} : ∀ {l : List Oper} {k : Nat}, EDs E l k → ∀ (j : Nat) (o : Oper), l[j]? = some o → o.dst = none → ∀ v, stE E (k + j) v ↔ v = undef
 | [], _, _, j, o, ho, _ => by cases ho
 | q :: l, k, h, 0, o, ho, hn => by
  cases ho
  have := h.1
  rw [hn] at this
  exact this
 | q :: l, k, h, j + 1, o, ho, hn => by
  have := EDs.at h.2 j o (by simpa using ho) hn
  rwa [show k + (j + 1) = k + 1 + j by omega]
theorem eall_of {E : List (Value → Prop)} {p : Nat → Value} : ∀ (l : List Oper) (k : Nat), (∀ (j : Nat) (o : Oper), l[j]? = some o → stE E (k + j) (p (k + j))) → EAll E p l k
 | [], _, _ => trivial
 | o :: l, k, h => ⟨h 0 o rfl, eall_of l (k + 1) fun j o' hj => by
  have := h (j + 1) o' (by simpa using hj)
  rwa [show k + (j + 1) = k + 1 + j by omega] at this⟩
section
variable {P : Program}
theorem z4a {id : Nat} {Q : Exit → Act → World → Prop} {a0 : Act} {W : World} {L : List Oper} {n : Nat} {V : List (Nat × Value)} (F : Fx n a0 V ds) (E : List (Value → Prop)) (J : (Nat → Bool) → (Nat → Value) → World → Prop) (m : Nat) (hm : P.follows .mixedOrders = true) (hok : relOkC L m n = true) (hml : Nat.ble m L.length = true) (hds : EDs E (L.take m) 0)
  (h0 : ∀ p, J (fun j => Nat.ble m j) p W.drew) (hop : HopAllM P L m Q (stE E) J a0 (L.take m) 0)
  (hend : ∀ (p : Nat → Value) (a : Act) (w : World), J (fun _ => true) p w → Fx n a (layV p (L.take m) 0 V) ds → EAll E p (L.take m) 0 → wpList P L.toArray Q (L.drop m) a w) : (Code.region id L.toArray true).wp P Q a0 W :=
 wp_region_relM m n F.size hm hok hml (stE E) (fun j o ho hn => by have := hds.at j o ho hn; rwa [Nat.zero_add] at this) J h0 hop fun p w hj hE => hend p _ w hj (F.lay p (L.take m) 0 a0 V (relOkC_dst hok)) (eall_of _ 0 fun j o ho => by rw [Nat.zero_add]; exact hE j o ho)
variable {ops : Array Oper} {Q : Exit → Act → World → Prop} {a : Act} {w : World} {o : Oper} {E : List (Value → Prop)} {J : (Nat → Bool) → (Nat → Value) → World → Prop} {S : Nat → Bool} {p : Nat → Value} {k : Nat}
theorem zra (hw : Region.wanted o (yielded ops a.tmps) = true) (v : Value) {w' : World} (hr : (execOp a.eval o).run P w = .ok (.value v) w') (hE : stE E k v) (hJ : J (updB S k) (updV p k v) w') :
  if Region.wanted o (yielded ops a.tmps) = true then o.wp P a w (fun a' w' => ∃ v, a' = a.put o.dst v ∧ stE E k v ∧ J (updB S k) (updV p k v) w') Q else stE E k undef ∧ J (updB S k) (updV p k undef) w := by
 rw [if_pos hw]
 unfold Oper.wp
 rw [hr]
 exact ⟨v, rfl, hE, hJ⟩
theorem hopM_do (hw : Region.wanted o (yielded ops a.tmps) = true) (hd : o.dst = none) (hr : ∃ w', (execOp a.eval o).run P w = .ok .skip w' ∧ J (updB S k) (updV p k undef) w') (hE : stE E k undef) :
  if Region.wanted o (yielded ops a.tmps) = true then o.wp P a w (fun a' w' => ∃ v, a' = a.put o.dst v ∧ stE E k v ∧ J (updB S k) (updV p k v) w') Q else stE E k undef ∧ J (updB S k) (updV p k undef) w := by
 obtain ⟨w', h1, h2⟩ := hr
 rw [if_pos hw]
 unfold Oper.wp
 rw [h1]
 exact ⟨undef, rfl, hE, h2⟩
theorem hopM_doM (hw : Region.wanted o (yielded ops a.tmps) = true) (hd : o.dst = none) {G : Option Nat} {w0 : World} {R' : List (Nat × Res)} (hr : ∃ w', (execOp a.eval o).run P w = .ok .skip w' ∧ Mx G w0 w' R') (hJ : ∀ w', Mx G w0 w' R' → J (updB S k) (updV p k undef) w') (hE : stE E k undef) :
  if Region.wanted o (yielded ops a.tmps) = true then o.wp P a w (fun a' w' => ∃ v, a' = a.put o.dst v ∧ stE E k v ∧ J (updB S k) (updV p k v) w') Q else stE E k undef ∧ J (updB S k) (updV p k undef) w :=
 hopM_do hw hd (hr.imp fun w' h => ⟨h.1, hJ w' h.2⟩) hE
theorem zza (hw : Region.wanted o (yielded ops a.tmps) = true) {f : FuncId} {args : Array Operand} {ts : Array TypeId} (ho : o.op = .call { callee := .value (.func f), args := args, argTypes := ts }) (vals : Array Value) (hv : args.map a.eval = vals) (hr : ∀ args w, (callFunc f args).run P w = .ok (.enter f args) w)
  (hc : Calls P f vals w fun e w' => ∃ v, e = .returned v ∧ stE E k v ∧ J (updB S k) (updV p k v) w') :
  if Region.wanted o (yielded ops a.tmps) = true then o.wp P a w (fun a' w' => ∃ v, a' = a.put o.dst v ∧ stE E k v ∧ J (updB S k) (updV p k v) w') Q else stE E k undef ∧ J (updB S k) (updV p k undef) w := by
 rw [if_pos hw]
 subst hv
 unfold Oper.wp
 have : (execOp a.eval o).run P w = .ok (.enter f (args.map a.eval)) w := by
  simp [execOp, ho, resolve, invoke, Act.eval, go_sem, hr]
 rw [this]
 refine hc.mono fun e w' ⟨v, he, h1, h2⟩ => ?_
 subst he
 exact ⟨v, rfl, h1, h2⟩
end
end Go.Proofs.YtcfepoopkfhojaaGreat
namespace Go.Proofs.YtcfepoopkfhojaaGreat
open Go.ChangeShapes Go.WideShapes Go.ChangeAt Go.RowKit Go.Shelf
section
variable {a : Act} {w : World} {o : Oper}
theorem size_of_info {T : TypeId} {s : Nat} (h : (Tryz.prog.info? T).map (·.size) = some s) (w : World) : (sizeOf T).run Tryz.prog w = .ok s w := by
 cases hq : Tryz.prog.info? T with
 | none => simp [hq] at h
 | some i => simp [sizeOf, typeInfo, hq]; simpa [hq] using h
theorem y_ixG (T : TypeId) {s : Nat} (hu : Tryz.prog.underlying T = some (.slice (Tryz.prog.elem T))) (hs : (Tryz.prog.info? (Tryz.prog.elem T)).map (·.size) = some s) (x k : Operand) (ho : o.op = .indexAddr T x k) {b q n c i : Nat} {z : Int} (hx : a.eval x = .slice (some ⟨b, q, none⟩) n c) (hk : a.eval k = .int .i64 z) (hz : z = (i : Int)) (hi : i < n) {j : Nat} (hj : q + i * s = j) : (execOp a.eval o).run Tryz.prog w = .ok (.value (.pointer (some ⟨b, j, none⟩))) w := by
 subst hz hj
 have hrun : (Instr.indexAt T (.slice (some ⟨b, q, none⟩) n c) (.int .i64 (i : Int))).run Tryz.prog w = .ok (.pointer (some ⟨b, q + i * s, none⟩)) w := by
  rw [run_indexAt_slice (h := hu), if_pos ⟨by omega, by omega⟩, size_of_info hs]
  simp only [Result.andThen_ok, Int.toNat_natCast, zva]
 unfold execOp
 simp only [ho, hx, hk, Sem.run_bind, hrun, Result.andThen_ok, Sem.run_pure]
theorem y_lnG (T : TypeId) (hu : Tryz.prog.underlying T = some (.slice (Tryz.prog.elem T))) (x : Operand) (ho : o.op = .call { callee := .builtin .len, args := #[x], argTypes := #[T] }) {A : Option Addr} {n c : Nat} (hx : a.eval x = .slice A n c) {z : Int} (hz : (n : Int) = z) : (execOp a.eval o).run Tryz.prog w = .ok (.value (.int .i64 z)) w := by
 subst hz
 exact run_ln x _ ho hx hu
theorem y_litG (T E : TypeId) {s : Nat} {zv : Value} (hu : Tryz.prog.underlying T = some (.slice E)) (hs : (Tryz.prog.info? E).map (·.size) = some s) (hz : (Tryz.prog.info? E).bind (·.zero) = some zv) {n : Nat} {ps : Array (Nat × Operand)} (ho : o.op = .buildSlice T n ps) (vs : Array Value) (h0 : 0 < n * s) (hm : n * s ≤ 1000000)
  (hf : Instr.fill (fun i => some (i * s, s)) ((Array.range (n * s)).map (zv.cells[· % zv.cells.size]!)) (ps.map fun (i, x) => (i, a.eval x)).toList = some vs) :
  (execOp a.eval o).run Tryz.prog w = .ok (.value (.slice (some ⟨w.heap.size, 0, none⟩) n n)) (w.alloc (.cells vs E)) := by
 obtain ⟨i, hi⟩ : ∃ i, Tryz.prog.info? E = some i := by
  cases hq : Tryz.prog.info? E with
  | none => rw [hq] at hs; cases hs
  | some i => exact ⟨i, rfl⟩
 rw [hi] at hs hz
 have e : i.size = s := Option.some.inj hs
 subst e
 unfold execOp
 simp only [ho, Sem.run_bind, run_buildSlice w T E n _ vs i zv hu hi hz (by omega) (by omega) hf, Result.andThen_ok, Sem.run_pure]
end
def rowR (e : TypeId) (sz n : Nat) (xs : List Value) (v : Value) : Res := ⟨true, ofp v, fun w => w.ownsRow 0 e sz v n xs⟩
theorem row_dep {e : TypeId} {sz n : Nat} {xs : List Value} {v : Value} : ∀ u u', Same (rowR e sz n xs v).fp u u' → (rowR e sz n xs v).F u → (rowR e sz n xs v).F u' := fun u u' hs h => by
 refine ⟨h.1, ?_⟩
 rcases h.2 with hn | ⟨g, c, cur, e, hbg, hg, rest⟩
 ·exact .inl hn
 ·exact .inr ⟨g, c, cur, e, hbg, hs.at_ g _ (by show ofp v g; rw [ofp, e]; rfl) hg, rest⟩
section
variable {G : Option Nat} {w0 w w' : World} {R : List (Nat × Res)} {e : TypeId} {sz n : Nat} {xs : List Value} {v : Value} {i k : Nat} {a : Act} {o : Oper}
theorem Mx.rowF (M : Mx G w0 w R) (h : look R k = some (rowR e sz n xs v)) : w.ownsRow 0 e sz v n xs := M.at_ k _ h
theorem row_slice (h : w.ownsRow 0 e sz v n xs) : ∃ A c, v = .slice A n c ∧ n ≤ c ∧ c ≤ maxLen ∧ (0 < n → ∃ g cur, A = some ⟨g, 0, none⟩ ∧ w.heap[g]? = some (.cells cur e (0, 0)) ∧ cur.toList.take (n * sz) = xs) := by
 rcases h.2 with ⟨rfl, rfl⟩ | ⟨g, c, cur, rfl, hb, hg, h1, h2, h3, h4⟩
 ·exact ⟨none, 0, rfl, Nat.le_refl _, Nat.zero_le _, fun h => absurd h (Nat.lt_irrefl 0)⟩
 ·exact ⟨_, c, rfl, h1, h2, fun _ => ⟨g, cur, rfl, hg, h4⟩⟩
theorem run_appR (M : Mx G w0 w R) {kb g : Nat} {c : Array Value} {t T : TypeId} {by_ cc : Nat} (hk : look R k = some (rowR e sz n xs v)) (hb : look R kb = some (blkR g t c)) (hc : c.size = sz) (h1 : c.all (·.oneCell') = true) (hsz : 0 < sz) (hT : Tryz.prog.underlying T = some (.slice e))
  (hinf : (Tryz.prog.info? e).map (fun i => (i.size, i.bytes, i.zero.map (·.cells.size))) = some (sz, by_, some sz)) (hn : (n + 1) * by_ ≤ 140737488355328) (hm : n + 1 ≤ maxLen) (s x : Operand)
  (ho : o.op = .call { callee := .builtin .append, args := #[s, x], argTypes := #[T, T] }) (hs : a.eval s = v) (hx : a.eval x = .slice (some ⟨g, 0, none⟩) 1 cc) :
  ∃ v' w', (execOp a.eval o).run Tryz.prog w = .ok (.value v') w' ∧ Mx G w0 w' ((k, rowR e sz (n + 1) (xs ++ c.toList) v') :: R) := by
 have hown : w.ownsRow 0 e sz v n xs := M.at_ k _ hk
 obtain ⟨i, hi⟩ : ∃ i, Tryz.prog.info? e = some i := by
  cases hq : Tryz.prog.info? e with
  | none => rw [hq] at hinf; cases hinf
  | some i => exact ⟨i, rfl⟩
 rw [hi] at hinf
 have hinf : (i.size, i.bytes, i.zero.map (·.cells.size)) = (sz, by_, some sz) := Option.some.inj hinf
 obtain ⟨z, hz, hzs⟩ : ∃ z, i.zero = some z ∧ z.cells.size = sz := by
  cases hq : i.zero with
  | none => rw [hq] at hinf; cases hinf
  | some z => rw [hq] at hinf; exact ⟨z, rfl, by injection hinf with _ h; injection h with _ h; exact Option.some.inj h⟩
 have hsize : i.size = sz := by injection hinf
 have hbytes : i.bytes = by_ := by injection hinf with _ h; injection h
 obtain ⟨g', cap, w', q1, q2, q3, q4, q5⟩ := run_append_lies (P := Tryz.prog) w T o.type 0 e i z sz by_ hT hi hz hsize hbytes hzs hsz v n xs hown ⟨g, 0, none⟩ 1 cc c.toList (by rw [Array.length_toList, hc, Nat.one_mul]) (World.news_of_block (M.blk hb)) (fun u hu => by
  have := Array.all_eq_true_iff_forall_mem.1 h1 u (Array.mem_toList_iff.1 hu)
  exact this) (by decide) hm hn (Nat.zero_le _) _ rfl
 refine ⟨_, w', ?_, M.write hk rfl q3 (fun _ e => e) _ q2 row_dep fun b hb => ?_⟩
 ·unfold execOp
  simp only [ho, resolve, invoke, builtin, Sem.run_bind, Sem.run_pure, Result.andThen_ok, List.map_toArray, List.map_cons, List.map_nil, hs, hx, q1]
 ·obtain rfl : g' = b := by simpa [rowR, ofp, Value.ownBlock] using hb
  exact ⟨q5, q4.imp id fun e => by rw [e]; exact Nat.le_refl _⟩
end
end Go.Proofs.YtcfepoopkfhojaaGreat
namespace Go.Proofs.YtcfepoopkfhojaaGreat
open Go.ChangeShapes Go.WideShapes Go.ChangeAt Go.RowKit
theorem rcmp_any (a b : Nat) (ha : a < 4294967296 ^ 8) (hb : b < 4294967296 ^ 8) (w : World) :
  Calls Tryz.prog 55 #[numV a, numV b] w fun e w' => e = .returned (.int .i64 (cmpI a b)) ∧ Below w.heap.size w w' := by
 go_enter Tryz.func55, Tryz.ntmps55
 go_wp2
 have g0 := (Num.new w 27 a).alloc (.cells (numA b) 27)
 have g1 := Num.new (w.alloc (.cells (numA a) 27)) 27 b
 rw [World.size_alloc] at g1
 have gb : Below w.heap.size w ((w.alloc (.cells (numA a) 27)).alloc (.cells (numA b) 27)) := ((Below.refl _ _).alloc (Nat.le_refl _) _).alloc (by simp) _
 generalize hW : World.alloc _ _ = W at *
 clear hW
 go_loopw [5] (fun i wr => ∃ q : Int, -1 ≤ q ∧ q ≤ 7 ∧ i = .int .i64 q ∧ Hid (zub a b (q + 1).toNat) ∧ ∃ n, wr = W.drewN n) (fun i _ => (intOf i + 1).toNat)
 case atStart => exact ⟨7, by omega, by omega, rfl, sameFrom_top ha hb, 0, rfl⟩
 case round =>
  obtain ⟨q, h1, h2, rfl, ht, n0, rfl⟩ := hrel
  by_cases hq : 0 ≤ q
  ·obtain ⟨k, rfl⟩ := Int.eq_ofNat_of_zero_le hq
   have hc := g0.cell (k := k) (by omega)
   have hd := g1.cell (k := k) (by omega)
   have ht' : Hid (zub a b (k + 1)) := ht
   clear ht
   by_cases hlt : digI a k < digI b k
   ·go_wp2
    go_quiet (fail)
    go_wp2
    go_ret
    exact ⟨by rw [cmp_lt ht'.out hlt]; rfl, by first | exact zz gb _ | exact zz (zz gb _) _ | exact zz (zz (zz gb _) _) _⟩
   ·by_cases hgt : digI b k < digI a k
    ·go_wp2
     go_quiet (fail)
     go_wp2
     go_quiet (fail)
     go_wp2
     go_ret
     exact ⟨by rw [cmp_gt ht'.out hgt]; rfl, by first | exact zz gb _ | exact zz (zz gb _) _ | exact zz (zz (zz gb _) _) _⟩
    ·have hs : Hid (zub a b k) := sameFrom_step ht'.out (by unfold digI at hlt hgt; omega)
     go_wp2
     go_quiet (fail)
     go_wp2
     go_quiet (fail)
     go_wp2
     go_roundw
     case rel => exact ⟨(k : Int) - 1, by omega, by omega, rfl, by rw [show ((k : Int) - 1 + 1).toNat = k by omega]; exact hs, _, rfl⟩
     case measure => simp [intOf] <;> omega
  ·have hq' : q = -1 := by omega
   subst hq'
   go_wp2
   go_ret
   exact ⟨by rw [cmp_eq ht.out]; rfl, by first | exact zz gb _ | exact zz (zz gb _) _ | exact zz (zz (zz gb _) _) _⟩
theorem zrow (w : World) (b : Nat) (h : w.heap[b]? = some (.cells #[Value.int .u32 0, .int .u32 0, .int .u32 0, .int .u32 0, .int .u32 0, .int .u32 0, .int .u32 0, .int .u32 0] 27 (0, 0))) : w.rowIs b 27 8 (fun _ => .int .u32 0) := by
 have : Num w b 27 0 := by unfold Num; rw [← zeroA]; exact h
 exact this.row.congr fun j hj => by simp [numF, digI, dig]
theorem heap_lt' {w : World} {b : Nat} {o : Obj} (h : w.heap[b]? = some o) : b < w.heap.size := (Array.getElem?_eq_some_iff.1 h).1
theorem addN_mod (a b : Nat) (ha : a < 4294967296 ^ 8) (hb : b < 4294967296 ^ 8) : addN a b = (a + b) % 4294967296 ^ 8 := by
 unfold addN
 split
 ·exact (Nat.mod_eq_of_lt (by assumption)).symm
 ·omega
theorem drewN_grown {a w : World} {row : Option Nat} (h : a.grownBy w row) (n : Nat) : a.grownBy (w.drewN n) row := ⟨h.os, h.tape, h.output, h.size, h.block⟩
theorem radd_any (a b : Nat) (ha : a < 4294967296 ^ 8) (hb : b < 4294967296 ^ 8) (w : World) :
  Calls Tryz.prog 77 #[numV a, numV b] w fun e w' => e = .returned (.tuple #[numV (addN a b), .int .u32 (overI a b)]) ∧ Below w.heap.size w w' := by
 obtain ⟨hc, hz⟩ := add_digits a b ha hb
 have bd : ∀ n k, 0 ≤ digI n k ∧ digI n k < 4294967296 := fun n k => ⟨zka _ _, zla _ _⟩
 have HZ := hid hz
 have HC := hid hc
 have HB := hid (fun k => cyI_bd (bd a) (bd b) (c := 0) (by omega) k)
 clear hc hz bd
 obtain ⟨x, hx⟩ : ∃ x, x = digI a := ⟨_, rfl⟩
 obtain ⟨y, hy⟩ : ∃ y, y = digI b := ⟨_, rfl⟩
 have q0 := ((((Num.new w 27 a).alloc (.cells (numA b) 27)).alloc (.cells #[Value.int .u32 0, .int .u32 0, .int .u32 0, .int .u32 0, .int .u32 0, .int .u32 0, .int .u32 0, .int .u32 0] 27)).alloc (.cells #[Value.int .u32 0, .int .u32 0, .int .u32 0, .int .u32 0, .int .u32 0, .int .u32 0, .int .u32 0, .int .u32 0] 27))
 have q1 := (((Num.new (w.alloc (.cells (numA a) 27)) 27 b).alloc (.cells #[Value.int .u32 0, .int .u32 0, .int .u32 0, .int .u32 0, .int .u32 0, .int .u32 0, .int .u32 0, .int .u32 0] 27)).alloc (.cells #[Value.int .u32 0, .int .u32 0, .int .u32 0, .int .u32 0, .int .u32 0, .int .u32 0, .int .u32 0, .int .u32 0] 27))
 have q2 := (heap_alloc2_old ((w.alloc (.cells (numA a) 27)).alloc (.cells (numA b) 27)) (.cells #[Value.int .u32 0, .int .u32 0, .int .u32 0, .int .u32 0, .int .u32 0, .int .u32 0, .int .u32 0, .int .u32 0] 27) (.cells #[Value.int .u32 0, .int .u32 0, .int .u32 0, .int .u32 0, .int .u32 0, .int .u32 0, .int .u32 0, .int .u32 0] 27))
 have q3 := (heap_alloc2_new ((w.alloc (.cells (numA a) 27)).alloc (.cells (numA b) 27)) (.cells #[Value.int .u32 0, .int .u32 0, .int .u32 0, .int .u32 0, .int .u32 0, .int .u32 0, .int .u32 0, .int .u32 0] 27) (.cells #[Value.int .u32 0, .int .u32 0, .int .u32 0, .int .u32 0, .int .u32 0, .int .u32 0, .int .u32 0, .int .u32 0] 27))
 have qb : Below w.heap.size w ((((w.alloc (.cells (numA a) 27)).alloc (.cells (numA b) 27)).alloc (.cells #[Value.int .u32 0, .int .u32 0, .int .u32 0, .int .u32 0, .int .u32 0, .int .u32 0, .int .u32 0, .int .u32 0] 27)).alloc (.cells #[Value.int .u32 0, .int .u32 0, .int .u32 0, .int .u32 0, .int .u32 0, .int .u32 0, .int .u32 0, .int .u32 0] 27)) := ((((Below.refl _ _).alloc (Nat.le_refl _) _).alloc (by simp) _).alloc (by simp; omega) _).alloc (by simp; omega) _
 simp only [World.size_alloc] at q1 q2 q3
 go_enter Tryz.func77, Tryz.ntmps77
 go_wp2
 generalize World.alloc (World.alloc (World.alloc (World.alloc _ _) _) _) _ = W at *
 go_loopw [7, 8] (fun cy i wr => ∃ k : Nat, k ≤ 8 ∧ i = .int .i64 k ∧ cy = .int .u64 (cyI (digI a) (digI b) 0 k) ∧ W.grownBy wr (some (w.heap.size + 1 + 1 + 1)) ∧ wr.rowIs (w.heap.size + 1 + 1 + 1) 27 8 (fun j => if j < k then .int .u32 (zI (digI a) (digI b) 0 j) else .int .u32 0)) (fun _ i _ => 8 - (intOf i).toNat)
 case atStart => exact ⟨0, by omega, rfl, rfl, World.grownBy.refl _ _, (zrow _ _ q3).congr fun j hj => by rw [if_neg (by omega)]⟩
 case round =>
  obtain ⟨k, hk, rfl, rfl, hg, hr⟩ := hrel
  by_cases hlt : k < 8
  ·have c0 := ((q0.grown hg (by simp; omega)).cell hlt)
   have c1 := ((q1.grown hg (by simp)).cell hlt)
   have c3 := hr.frozen k
   have c4 := hr.cell hlt
   obtain ⟨hb1, hb2⟩ := HB.out k
   have d1 := zka a k
   have d2 := zla a k
   have d3 := zka b k
   have d4 := zla b k
   have e1 := Go.IntWalk.u64_in (cyI (digI a) (digI b) 0 k + digI a k) (by omega)
   have e2 := Go.IntWalk.u64_in (cyI (digI a) (digI b) 0 k + digI a k + digI b k) (by omega)
   have hne : (w.heap.size + 1 + 1 + 1 : Nat) ≠ w.heap.size + 1 + 1 := by omega
   go_wp2
   go_quiet (fail)
   clear e1 e2 c0 c1
   go_wp2
   go_roundw
   case rel =>
    refine ⟨k + 1, by omega, by go_num, ?_, (drewN_grown (zsa hg rfl _) _), ((hr.set k _).congr fun j hj => ?_)⟩
    ·rw [cyI, show digI a k + digI b k + cyI (digI a) (digI b) 0 k = cyI (digI a) (digI b) 0 k + digI a k + digI b k by omega]
    ·by_cases e : j = k
     ·subst e
      rw [if_pos rfl, if_pos (by omega), zI, show digI a j + digI b j + cyI (digI a) (digI b) 0 j = cyI (digI a) (digI b) 0 j + digI a j + digI b j by omega]
     ·rw [if_neg e]
      by_cases h1 : j < k
      ·rw [if_pos h1, if_pos (by omega)]
      ·rw [if_neg h1, if_neg (by omega)]
   case measure => simp [intOf]; omega
  ·have : k = 8 := by omega
   subst this
   have n3 : Num wr (w.heap.size + 1 + 1 + 1) 27 (addN a b) := zlb hr fun j hj => by rw [if_pos hj, HZ.out j hj, numF, addN_mod a b ha hb]; unfold digI; rw [dig_mod _ hj]
   have q2' := (hg.block _ (heap_lt' q2) (by simp)).trans q2
   have e8 : cyI (digI a) (digI b) 0 8 = overI a b := by rw [HC.out]; unfold overI; split <;> omega
   rw [e8]
   have o1 := overI_ge a b
   have o2 := overI_le a b
   clear e8 hr HZ HC HB q0 q1 q2
   go_wp2_with (first | (refine ze rfl _ _ rfl _ rfl _ _ _ n3 Tryz.underlying27 rfl zd ?_) | (refine zl rfl _ _ _ rfl _ rfl _ rfl _ rfl q2' zd ?_; intro w2 hg2 m2))
   exact bodyPost_ret (z2a rfl rfl m2 Tryz.underlying27 rfl zd) rfl ⟨rfl, zf (zf qb hg qb.size (by omega)) hg2 (zf qb hg qb.size (by omega)).size (by omega)⟩
end Go.Proofs.YtcfepoopkfhojaaGreat
namespace Go.Proofs.YtcfepoopkfhojaaGreat
open Go.ChangeShapes Go.WideShapes Go.ChangeAt Go.RowKit
theorem bwI_lt {x y : Nat → Int} {k : Nat} (h : x k < y k + bwI x y k) (hx : 0 ≤ x k) (hy : y k < 4294967296) (hb : bwI x y k ≤ 1) : bwI x y (k + 1) = 1 ∧ zS x y k = x k + 4294967296 - (y k + bwI x y k) := by
 simp only [bwI, zS]; omega
theorem bwI_ge {x y : Nat → Int} {k : Nat} (h : ¬ x k < y k + bwI x y k) (hx : x k < 4294967296) (hy : 0 ≤ y k) (hb : 0 ≤ bwI x y k) : bwI x y (k + 1) = 0 ∧ zS x y k = x k - (y k + bwI x y k) := by
 simp only [bwI, zS]; omega
theorem rsub_any (a b : Nat) (ha : a < 4294967296 ^ 8) (hb : b < 4294967296 ^ 8) (w : World) :
  Calls Tryz.prog 56 #[numV a, numV b] w fun e w' => e = .returned (.tuple #[numV (subN a b), .int .u32 (lentI a b)]) ∧ Below w.heap.size w w' := by
 obtain ⟨hc, hz⟩ := sub_digits a b ha hb
 have bd : ∀ n k, 0 ≤ digI n k ∧ digI n k < 4294967296 := fun n k => ⟨zka _ _, zla _ _⟩
 have HZ := hid hz
 have HC := hid hc
 have HB := hid (fun k => bwI_bd (bd a) (bd b) k)
 clear hc hz bd
 have q0 := ((((Num.new w 27 a).alloc (.cells (numA b) 27)).alloc (.cells #[Value.int .u32 0, .int .u32 0, .int .u32 0, .int .u32 0, .int .u32 0, .int .u32 0, .int .u32 0, .int .u32 0] 27)).alloc (.cells #[Value.int .u32 0, .int .u32 0, .int .u32 0, .int .u32 0, .int .u32 0, .int .u32 0, .int .u32 0, .int .u32 0] 27))
 have q1 := (((Num.new (w.alloc (.cells (numA a) 27)) 27 b).alloc (.cells #[Value.int .u32 0, .int .u32 0, .int .u32 0, .int .u32 0, .int .u32 0, .int .u32 0, .int .u32 0, .int .u32 0] 27)).alloc (.cells #[Value.int .u32 0, .int .u32 0, .int .u32 0, .int .u32 0, .int .u32 0, .int .u32 0, .int .u32 0, .int .u32 0] 27))
 have q2 := (heap_alloc2_old ((w.alloc (.cells (numA a) 27)).alloc (.cells (numA b) 27)) (.cells #[Value.int .u32 0, .int .u32 0, .int .u32 0, .int .u32 0, .int .u32 0, .int .u32 0, .int .u32 0, .int .u32 0] 27) (.cells #[Value.int .u32 0, .int .u32 0, .int .u32 0, .int .u32 0, .int .u32 0, .int .u32 0, .int .u32 0, .int .u32 0] 27))
 have q3 := (heap_alloc2_new ((w.alloc (.cells (numA a) 27)).alloc (.cells (numA b) 27)) (.cells #[Value.int .u32 0, .int .u32 0, .int .u32 0, .int .u32 0, .int .u32 0, .int .u32 0, .int .u32 0, .int .u32 0] 27) (.cells #[Value.int .u32 0, .int .u32 0, .int .u32 0, .int .u32 0, .int .u32 0, .int .u32 0, .int .u32 0, .int .u32 0] 27))
 have qb : Below w.heap.size w ((((w.alloc (.cells (numA a) 27)).alloc (.cells (numA b) 27)).alloc (.cells #[Value.int .u32 0, .int .u32 0, .int .u32 0, .int .u32 0, .int .u32 0, .int .u32 0, .int .u32 0, .int .u32 0] 27)).alloc (.cells #[Value.int .u32 0, .int .u32 0, .int .u32 0, .int .u32 0, .int .u32 0, .int .u32 0, .int .u32 0, .int .u32 0] 27)) := ((((Below.refl _ _).alloc (Nat.le_refl _) _).alloc (by simp) _).alloc (by simp; omega) _).alloc (by simp; omega) _
 simp only [World.size_alloc] at q1 q2 q3
 go_enter Tryz.func56, Tryz.ntmps56
 go_wp2
 generalize World.alloc (World.alloc (World.alloc (World.alloc _ _) _) _) _ = W at *
 go_loopw [7, 8] (fun cy i wr => ∃ k : Nat, k ≤ 8 ∧ i = .int .i64 k ∧ cy = .int .u64 (bwI (digI a) (digI b) k) ∧ W.grownBy wr (some (w.heap.size + 1 + 1 + 1)) ∧ wr.rowIs (w.heap.size + 1 + 1 + 1) 27 8 (fun j => if j < k then .int .u32 (zS (digI a) (digI b) j) else .int .u32 0)) (fun _ i _ => 8 - (intOf i).toNat)
 case atStart => exact ⟨0, by omega, rfl, rfl, World.grownBy.refl _ _, (zrow _ _ q3).congr fun j hj => by rw [if_neg (by omega)]⟩
 case round =>
  obtain ⟨k, hk, rfl, rfl, hg, hr⟩ := hrel
  by_cases hlt : k < 8
  ·have c0 := ((q0.grown hg (by simp; omega)).cell hlt)
   have c1 := ((q1.grown hg (by simp)).cell hlt)
   have c3 := hr.frozen k
   have c4 := hr.cell hlt
   obtain ⟨hb1, hb2⟩ := HB.out k
   have d1 := zka a k
   have d2 := zla a k
   have d3 := zka b k
   have d4 := zla b k
   have e1 := Go.IntWalk.u64_in (digI b k + bwI (digI a) (digI b) k) (by omega)
   by_cases hl : digI a k < digI b k + bwI (digI a) (digI b) k
   ·obtain ⟨f1, f2⟩ := bwI_lt hl d1 d4 hb2
    have F1 := hid f1
    have F2 := hid f2
    clear f1 f2
    go_wp2
    go_quiet (fail)
    clear e1 c0 c1
    go_wp2
    go_roundw
    case rel =>
     refine ⟨k + 1, by omega, by go_num, by rw [F1.out], (drewN_grown (zsa hg rfl _) _), ((hr.set k _).congr fun j hj => ?_)⟩
     by_cases e : j = k
     ·subst e
      rw [if_pos rfl, if_pos (by omega), F2.out]
     ·rw [if_neg e]
      by_cases h1 : j < k
      ·rw [if_pos h1, if_pos (by omega)]
      ·rw [if_neg h1, if_neg (by omega)]
    case measure => simp [intOf]; omega
   ·obtain ⟨f1, f2⟩ := bwI_ge hl d2 d3 hb1
    have F1 := hid f1
    have F2 := hid f2
    clear f1 f2
    go_wp2
    go_quiet (fail)
    clear e1 c0 c1
    go_wp2
    go_roundw
    case rel =>
     refine ⟨k + 1, by omega, by go_num, by rw [F1.out], (drewN_grown (zsa hg rfl _) _), ((hr.set k _).congr fun j hj => ?_)⟩
     by_cases e : j = k
     ·subst e
      rw [if_pos rfl, if_pos (by omega), F2.out]
     ·rw [if_neg e]
      by_cases h1 : j < k
      ·rw [if_pos h1, if_pos (by omega)]
      ·rw [if_neg h1, if_neg (by omega)]
    case measure => simp [intOf]; omega
  ·have : k = 8 := by omega
   subst this
   have n3 : Num wr (w.heap.size + 1 + 1 + 1) 27 (subN a b) := zlb hr fun j hj => by rw [if_pos hj, HZ.out j hj, numF]
   have q2' := (hg.block _ (heap_lt' q2) (by simp)).trans q2
   have e8 : bwI (digI a) (digI b) 8 = lentI a b := HC.out
   rw [e8]
   have o1 := lentI_ge a b
   have o2 := lentI_le a b
   clear e8 hr HZ HC HB q0 q1 q2
   go_wp2_with (first | (refine ze rfl _ _ rfl _ rfl _ _ _ n3 Tryz.underlying27 rfl zd ?_) | (refine zl rfl _ _ _ rfl _ rfl _ rfl _ rfl q2' zd ?_; intro w2 hg2 m2))
   exact bodyPost_ret (z2a rfl rfl m2 Tryz.underlying27 rfl zd) rfl ⟨rfl, zf (zf qb hg qb.size (by omega)) hg2 (zf qb hg qb.size (by omega)).size (by omega)⟩
def bitI (a : Nat) (i : Nat) : Int := ((a / 2 ^ i % 2 : Nat) : Int)
theorem bitI_bd (a i : Nat) : 0 ≤ bitI a i ∧ bitI a i ≤ 1 := by unfold bitI; omega
theorem testBit_bit (a i : Nat) : a / 2 ^ i % 2 = (a.testBit i).toNat := by
 rw [Nat.testBit_eq_decide_div_mod_eq]
 rcases Nat.mod_two_eq_zero_or_one (a / 2 ^ i) with h | h <;> simp [h]
theorem bit_dig (a i : Nat) : bits BinOp.and IntKind.u32 (digI a (i / 32) / 2 ^ (i % 32)) 1 = bitI a i := by
 have hd : digI a (i / 32) / 2 ^ (i % 32) = ((dig a (i / 32) / 2 ^ (i % 32) : Nat) : Int) := by unfold digI; simp
 have hl : dig a (i / 32) / 2 ^ (i % 32) < 4294967296 := Nat.lt_of_le_of_lt (Nat.div_le_self _ _) (dig_lt _ _)
 have h := bits_mask .u32 32 (by decide) (fun n h0 h1 => by rw [IntKind.wrap_u32]; omega) 1 (by omega) ((dig a (i / 32) / 2 ^ (i % 32) : Nat) : Int) (Int.natCast_nonneg _) (by exact_mod_cast hl)
 rw [hd]
 have h' : bits BinOp.and IntKind.u32 ((dig a (i / 32) / 2 ^ (i % 32) : Nat) : Int) 1 = ((dig a (i / 32) / 2 ^ (i % 32) : Nat) : Int) % 2 := h
 rw [h', bitI]
 have e : dig a (i / 32) / 2 ^ (i % 32) % 2 = a / 2 ^ i % 2 := by
  rw [testBit_bit, testBit_bit, dig, show (4294967296 : Nat) = 2 ^ 32 from rfl, ← Nat.pow_mul, Nat.testBit_mod_two_pow, Nat.testBit_div_two_pow, show i % 32 + 32 * (i / 32) = i by omega]
  simp [Nat.mod_lt]
 rw [← e]; omega
theorem rbit_any (a : Nat) (i : Nat) (hi : i < 256) (w : World) :
  Calls Tryz.prog 92 #[numV a, .int .i64 i] w fun e w' => e = .returned (.int .u32 (bitI a i)) ∧ Below w.heap.size w w' := by
 have g0 := Num.new w 27 a
 have c0 := g0.cell (k := i / 32) (by omega)
 go_enter Tryz.func92, Tryz.ntmps92
 go_wp2
 go_ret
 exact ⟨by rw [← bit_dig]; rfl, (Below.refl _ _).alloc (Nat.le_refl _) _⟩
attribute [irreducible] bitI
theorem even_add {n : Nat} {l : Int} (h : n % 2 = 0) (h0 : 0 ≤ l) (h1 : l ≤ 1) : bits BinOp.or IntKind.u32 (digI n 0) l = digI (n + l.toNat) 0 ∧ ∀ k, 1 ≤ k → digI (n + l.toNat) k = digI n k := by
 have e0 : ∀ n, dig n 0 = n % 4294967296 := fun n => by unfold dig; simp
 constructor
 ·have hx : digI n 0 = ((n % 4294967296 : Nat) : Int) := by unfold digI; rw [e0]
  have hy : digI (n + l.toNat) 0 = (((n + l.toNat) % 4294967296 : Nat) : Int) := by unfold digI; rw [e0]
  rw [hx, hy]
  have := bits_join .u32 32 (by decide) (fun n h0 h1 => by rw [IntKind.wrap_u32]; omega) 1 ((n % 4294967296 : Nat) : Int) l (by omega) (by omega) (by omega) h0 (by omega) (by omega)
  rw [this]; omega
 ·intro k hk
  obtain ⟨j, rfl⟩ := Nat.exists_eq_add_of_le hk
  unfold digI dig
  rw [Nat.pow_add, Nat.pow_one, ← Nat.div_div_eq_div_mul, ← Nat.div_div_eq_div_mul, show (n + l.toNat) / 4294967296 = n / 4294967296 by omega]
theorem addN_even {r : Nat} : addN r r % 2 = 0 := by unfold addN; split <;> omega
theorem rtwice_any (r : Nat) (hr : r < 4294967296 ^ 8) (l : Int) (h0 : 0 ≤ l) (h1 : l ≤ 1) (w : World) :
  Calls Tryz.prog 93 #[numV r, .int .u32 l] w fun e w' => e = .returned (.tuple #[numV (addN r r + l.toNat), .int .u32 (overI r r)]) ∧ Below w.heap.size w w' := by
 obtain ⟨f1, f2⟩ := even_add (n := addN r r) addN_even h0 h1
 have F1 := hid f1
 have F2 := hid f2
 clear f1 f2
 have g0 := (Num.new w 27 r).alloc (.cells #[Value.int .u32 0, .int .u32 0, .int .u32 0, .int .u32 0, .int .u32 0, .int .u32 0, .int .u32 0, .int .u32 0] 27)
 have g1 := heap_alloc_new (w.alloc (.cells (numA r) 27)) (.cells #[Value.int .u32 0, .int .u32 0, .int .u32 0, .int .u32 0, .int .u32 0, .int .u32 0, .int .u32 0, .int .u32 0] 27)
 rw [World.size_alloc] at g1
 have gb : Below w.heap.size w ((w.alloc (.cells (numA r) 27)).alloc (.cells #[Value.int .u32 0, .int .u32 0, .int .u32 0, .int .u32 0, .int .u32 0, .int .u32 0, .int .u32 0, .int .u32 0] 27)) := ((Below.refl _ _).alloc (Nat.le_refl _) _).alloc (by simp) _
 go_enter Tryz.func93, Tryz.ntmps93
 go_wp2_with (refine ze rfl _ _ rfl _ rfl _ _ _ g0 Tryz.underlying27 rfl zd ?_)
 generalize World.alloc (World.alloc _ _) _ = W at *
 refine (radd_any r r hr hr _).mono ?_
 rintro e w1 ⟨rfl, b1⟩
 have p1 := (b1.block _ (heap_lt' g1)).trans g1
 have B1 := gb.trans (b1.mono gb.size)
 have hs := (heap_lt' g1)
 have hs1 := b1.size
 clear g0 g1 gb
 go_upto_region 2 with ((refine zl rfl _ _ _ rfl _ rfl _ rfl _ rfl (heap_alloc_new _ _) zd ?_; intro w2 g2 m2))
 have B2 := zf (B1.alloc B1.size _) g2 (by simp; exact Nat.le_succ_of_le B1.size) B1.size
 have p2 := (g2.block _ (by simp; omega) (by simp; omega)).trans ((Below.heap_alloc w1 _ _ (by omega)).trans p1)
 have c0 := m2.cell (k := 0) (by omega)
 have c1 := m2.frozen 0
 have hs2 := B1.size
 go_upto_region 3 with fail
 rw [F1.out]
 have n3 : Num (w2.setCell ⟨w1.heap.size, 0, none⟩ (.int .u32 (digI (addN r r + l.toNat) 0))) w1.heap.size 27 (addN r r + l.toNat) := zlb (m2.row.set 0 _) fun j hj => by
  by_cases e : j = 0
  ·subst e; rw [if_pos rfl, numF]
  ·rw [if_neg e, numF, numF, F2.out j (by omega)]
 have g3 := zsa (p := ⟨w1.heap.size, 0, none⟩) (World.grownBy.refl w2 (some w1.heap.size)) rfl (.int .u32 (digI (addN r r + l.toNat) 0))
 generalize World.setCell _ _ _ = w3 at *
 have p3 := (g3.block _ (by have := heap_lt' p2; omega) (by simp; omega)).trans p2
 have B3 := zf B2 g3 B2.size hs2
 clear F1 F2 p1 p2 c0 c1 m2 g2 g3 B1 B2
 go_wp2_with (first | (refine ze rfl _ _ rfl _ rfl _ _ _ n3 Tryz.underlying27 rfl zd ?_) | (refine zl rfl _ _ _ rfl _ rfl _ rfl _ rfl p3 zd ?_; intro w4 g4 m4))
 exact bodyPost_ret (z2a rfl rfl m4 Tryz.underlying27 rfl zd) rfl ⟨rfl, zf B3 g4 B3.size (by omega)⟩
end Go.Proofs.YtcfepoopkfhojaaGreat
namespace Go.Proofs.YtcfepoopkfhojaaGreat
open Go.ChangeShapes Go.WideShapes Go.ChangeAt Go.RowKit
/-! The digits of a product's row. -/
def cyM (d : Int) (x y : Nat → Int) : Nat → Int
 | 0 => 0
 | k + 1 => (cyM d x y k + (d * y k + x k)) / 4294967296
def zM (d : Int) (x y : Nat → Int) (k : Nat) : Int := (cyM d x y k + (d * y k + x k)) % 4294967296
theorem zM_bd (d : Int) (x y : Nat → Int) (k : Nat) : 0 ≤ zM d x y k ∧ zM d x y k < 4294967296 := by unfold zM; omega
theorem prod_bd {d y : Int} (hd : 0 ≤ d ∧ d < 4294967296) (hy : 0 ≤ y ∧ y < 4294967296) : 0 ≤ d * y ∧ d * y ≤ 18446744065119617025 := by
 have h1 : 0 ≤ d * y := Int.mul_nonneg hd.1 hy.1
 have h2 : d * y ≤ 4294967295 * y := Int.mul_le_mul_of_nonneg_right (by omega) hy.1
 omega
theorem cyM_bd {d : Int} {x y : Nat → Int} (hd : 0 ≤ d ∧ d < 4294967296) (hx : ∀ k, 0 ≤ x k ∧ x k < 4294967296) (hy : ∀ k, 0 ≤ y k ∧ y k < 4294967296) : ∀ k, 0 ≤ cyM d x y k ∧ cyM d x y k < 4294967296
 | 0 => by simp [cyM]
 | k + 1 => by
  have h1 := cyM_bd hd hx hy k
  have h2 := hx k
  have h3 := prod_bd hd (hy k)
  simp only [cyM]; omega
theorem valM (d : Int) (x y : Nat → Int) : ∀ m, valI (zM d x y) m + cyM d x y m * 4294967296 ^ m = valI x m + d * valI y m
 | 0 => by simp [valI, cyM]
 | m + 1 => by
  have ih := valM d x y m
  have e : zM d x y m + cyM d x y (m + 1) * 4294967296 = cyM d x y m + (d * y m + x m) := by simp only [zM, cyM]; omega
  simp only [valI, Int.pow_succ]
  generalize (4294967296 : Int) ^ m = P at *
  grind
theorem zkc (f : Nat → Int) (p : Nat) : ∀ q, valI f (p + q) = valI f p + 4294967296 ^ p * valI (fun j => f (p + j)) q
 | 0 => by simp [valI]
 | q + 1 => by
  have ih := zkc f p q
  rw [← Nat.add_assoc, valI, ih, valI, Int.pow_add]
  grind
theorem valI_zero {f : Nat → Int} {m : Nat} (h : ∀ k, k < m → f k = 0) : valI f m = 0 := by
 induction m with
 | zero => rfl
 | succ m ih => rw [valI, ih fun k hk => h k (by omega), h m (by omega)]; simp
theorem times_any (d : Int) (w : World) :
  Calls Tryz.prog 82 #[.int .u32 d] w fun e w' => e = .returned (.func (.func 114) #[] #[.pointer (some ⟨w.heap.size, 0, none⟩)]) ∧ w.alloc (.cells #[.int .u32 d] 25) = w' := by
 go_enter Tryz.func82, Tryz.ntmps82
 go_wp2
 go_ret
 exact ⟨rfl, rfl⟩
theorem times1_any (d x y c : Int) (hd : 0 ≤ d ∧ d < 4294967296) (hx : 0 ≤ x ∧ x < 4294967296) (hy : 0 ≤ y ∧ y < 4294967296) (hc : 0 ≤ c ∧ c < 4294967296) (p : Addr) (w : World) (hp : w.cell? p = some (.int .u32 d)) :
  Calls Tryz.prog 114 #[.int .u32 x, .int .u32 y, .int .u64 c, .pointer (some p)] w fun e w' => e = .returned (.tuple #[.int .u32 ((c + (d * y + x)) % 4294967296), .int .u64 ((c + (d * y + x)) / 4294967296)]) ∧ w = w' := by
 obtain ⟨h1, h2⟩ := prod_bd hd hy
 obtain ⟨hd0, hd1⟩ := hd
 obtain ⟨hx0, hx1⟩ := hx
 obtain ⟨hy0, hy1⟩ := hy
 obtain ⟨hc0, hc1⟩ := hc
 go_enter Tryz.func114, Tryz.ntmps114
 go_wp2
 go_ret2
 exact ⟨rfl, rfl⟩
theorem along_mul (b o n cap b2 o2 m cap2 N : Nat) (T : TypeId) (f : Nat → Value) (x y : Nat → Int) (d : Int) (p : Addr) (w : World)
   (hm : m ≤ n) (hn : n ≤ maxLen) (hN : o + n ≤ N) (hb : w.rowIs b T N f) (hf : ∀ k, k < m → f (o + k) = .int .u32 (x k))
   (hy : ∀ k, k < m → w.cell? ⟨b2, o2 + k, none⟩ = some (.int .u32 (y k))) (hne : b2 ≠ b) (hb2 : b2 < w.heap.size) (hp : w.cell? p = some (.int .u32 d)) (hpb : p.block ≠ b)
   (bx : ∀ k, 0 ≤ x k ∧ x k < 4294967296) (by_ : ∀ k, 0 ≤ y k ∧ y k < 4294967296) (hd : 0 ≤ d ∧ d < 4294967296) :
    Calls Tryz.prog 81 #[.slice (some ⟨b, o, none⟩) n cap, .slice (some ⟨b2, o2, none⟩) m cap2, .int .u64 0, .func (.func 114) #[] #[.pointer (some p)]] w fun e w' =>
      e = .returned (.int .u64 (cyM d x y m)) ∧ w.grownBy w' (some b) ∧ w'.rowIs b T N (fun j => if o ≤ j ∧ j < o + m then .int .u32 (zM d x y (j - o)) else f j) := by
  unfold maxLen at hn
  go_enter Tryz.func81, Tryz.ntmps81
  go_wp2
  go_loopw [2, 13] (fun v i wr => ∃ k : Nat, k ≤ m ∧ i = .int .i64 k ∧ v = .int .u64 (cyM d x y k) ∧ w.grownBy wr (some b) ∧ wr.rowIs b T N (fun j => if o ≤ j ∧ j < o + k then .int .u32 (zM d x y (j - o)) else f j)) (fun _ i _ => m - (intOf i).toNat)
  case atStart => exact ⟨0, Nat.zero_le _, rfl, rfl, World.grownBy.refl _ _, hb.congr (fun i _ => by rw [if_neg (by omega)])⟩
  case round =>
    obtain ⟨k, hk, rfl, rfl, hg, hr⟩ := hrel
    have hcy := cyM_bd hd bx by_ k
    have c1 : k < m → wr.cell? ⟨b2, o2 + k, none⟩ = some (.int .u32 (y k)) := fun h => hg.cell (hy k h) (fun e => hne (by simpa using e))
    have c2 : k < m → wr.cell? ⟨b, o + k, none⟩ = some (.int .u32 (x k)) := fun h => by rw [hr.cell (by omega), if_neg (by omega), hf k h]
    have c3 : wr.frozen? ⟨b, o + k, none⟩ = false := hr.frozen _
    have c4 := hg.cell hp (fun e => hpb (by simpa using e))
    have hxk := bx k
    have hyk := by_ k
    have HX := hid hxk
    have HY := hid hyk
    have HC := hid hcy
    have HD := hid hd
    clear hf hy bx by_ hxk hyk hcy hd
    go_wp2_with (go_at_call 114; refine (times1_any d _ _ _ HD.out HX.out HY.out HC.out p _ c4).mono ?_; rintro e w' ⟨rfl, rfl⟩)
    · go_roundw
      case rel =>
        refine ⟨k + 1, by omega, by go_num, ?_, zsa hg rfl _, (hr.set (o + k) _).congr fun j hj => ?_⟩
        · rfl
        · by_cases e : j = o + k
          · subst e
            rw [if_pos rfl, if_pos (by omega), Nat.add_sub_cancel_left, zM]
          · rw [if_neg e]
            by_cases h1 : o ≤ j ∧ j < o + k
            · rw [if_pos h1, if_pos (by omega)]
            · rw [if_neg h1, if_neg (by omega)]
      case measure => simp [intOf]; omega
    · have : k = m := by omega
      subst this
      go_ret
      exact ⟨rfl, hg, hr⟩
/-! The number that stands in the row after k rounds. -/
def rowN (a b k : Nat) : Nat := a % 4294967296 ^ k * b
theorem rowN_lt {a b k : Nat} (hb : b < 4294967296 ^ 8) : rowN a b k < 4294967296 ^ (k + 8) := by
 unfold rowN
 rw [Nat.pow_add]
 have h1 : a % 4294967296 ^ k < 4294967296 ^ k := Nat.mod_lt _ (pow_pos' k)
 exact Nat.mul_lt_mul'' h1 hb
def nextZ (a b k j : Nat) : Int :=
 if k ≤ j ∧ j < k + 8 then zM (digI a k) (fun i => digI (rowN a b k) (k + i)) (digI b) (j - k)
 else if j = k + 8 then cyM (digI a k) (fun i => digI (rowN a b k) (k + i)) (digI b) 8 else digI (rowN a b k) j
theorem digI_high {n m k : Nat} (h : n < 4294967296 ^ m) (hk : m ≤ k) : digI n k = 0 := by unfold digI; rw [dig_of_lt h hk]; rfl
theorem mul_step {a b k : Nat} (hb : b < 4294967296 ^ 8) (hk : k < 8) : ∀ j, j < 16 → nextZ a b k j = digI (rowN a b (k + 1)) j := by
 have hN := rowN_lt (a := a) (b := b) (k := k) hb
 have hdb : ∀ n j, 0 ≤ digI n j ∧ digI n j < 4294967296 := fun n j => ⟨zka _ _, zla _ _⟩
 have hcb := cyM_bd (d := digI a k) (x := fun i => digI (rowN a b k) (k + i)) (y := digI b) (hdb _ _) (fun i => hdb _ _) (fun i => hdb _ _) 8
 have hz := valM (digI a k) (fun i => digI (rowN a b k) (k + i)) (digI b) 8
 have hbd : ∀ j, j < 16 → 0 ≤ nextZ a b k j ∧ nextZ a b k j < 4294967296 := fun j _ => by
  unfold nextZ
  split
  ·exact zM_bd _ _ _ _
  ·split
   ·exact hcb
   ·exact hdb _ _
 have hlt : rowN a b (k + 1) < 4294967296 ^ 16 := Nat.lt_of_lt_of_le (rowN_lt hb) (Nat.pow_le_pow_right (by decide) (by omega))
 refine digI_of hbd hlt ?_
 obtain ⟨r, hr⟩ : ∃ r, 7 - k = r := ⟨_, rfl⟩
 have e16 : 16 = k + (8 + (1 + r)) := by omega
 -- the new row
 have n1 : valI (nextZ a b k) k = valI (digI (rowN a b k)) k := zec fun j hj => by unfold nextZ; rw [if_neg (by omega), if_neg (by omega)]
 have n2 : valI (fun j => nextZ a b k (k + j)) 8 = valI (zM (digI a k) (fun i => digI (rowN a b k) (k + i)) (digI b)) 8 := zec fun j hj => by
  unfold nextZ; rw [if_pos (by omega), Nat.add_sub_cancel_left]
 have n3 : valI (fun j => nextZ a b k (k + (8 + j))) (1 + r) = cyM (digI a k) (fun i => digI (rowN a b k) (k + i)) (digI b) 8 := by
  rw [zkc]
  have : valI (fun j => nextZ a b k (k + (8 + (1 + j)))) r = 0 := valI_zero fun j hj => by
   unfold nextZ; rw [if_neg (by omega), if_neg (by omega)]; exact digI_high hN (by omega)
  rw [this]
  simp only [valI]
  unfold nextZ; rw [if_neg (by omega), if_pos (by omega)]; simp
 have n4 : valI (nextZ a b k) 16 = valI (digI (rowN a b k)) k + 4294967296 ^ k * (valI (zM (digI a k) (fun i => digI (rowN a b k) (k + i)) (digI b)) 8 + 4294967296 ^ 8 * cyM (digI a k) (fun i => digI (rowN a b k) (k + i)) (digI b) 8) := by
  rw [e16, zkc, zkc, n1, n2, n3]
 -- the old one
 have o3 : valI (fun j => digI (rowN a b k) (k + (8 + j))) (1 + r) = 0 := valI_zero fun j hj => digI_high hN (by omega)
 have o4 : valI (digI (rowN a b k)) 16 = valI (digI (rowN a b k)) k + 4294967296 ^ k * (valI (fun i => digI (rowN a b k) (k + i)) 8 + 4294967296 ^ 8 * 0) := by
  rw [e16, zkc, zkc, o3]
 have o5 : valI (digI (rowN a b k)) 16 = (rowN a b k : Int) := by
  rw [valI_dig, Nat.mod_eq_of_lt (Nat.lt_of_lt_of_le hN (Nat.pow_le_pow_right (by decide) (by omega)))]
 have o6 : valI (digI b) 8 = (b : Int) := by rw [valI_dig, Nat.mod_eq_of_lt hb]
 have hs : ((rowN a b (k + 1) : Nat) : Int) = (rowN a b k : Int) + 4294967296 ^ k * (digI a k * b) := by
  unfold rowN digI
  rw [Nat.pow_succ, Nat.mod_mul]
  unfold dig
  simp only [Int.natCast_mul, Int.natCast_add, Int.natCast_pow]
  generalize ((a % 4294967296 ^ k : Nat) : Int) = u
  generalize ((a / 4294967296 ^ k % 4294967296 : Nat) : Int) = v
  have : (((4294967296 : Nat) : Int) ^ k) = 4294967296 ^ k := rfl
  rw [this]
  grind
 rw [n4, hs, ← o5, o4]
 rw [o6] at hz
 generalize (4294967296 : Int) ^ k = P
 grind
theorem rowN_zero (a b : Nat) : rowN a b 0 = 0 := by unfold rowN; simp [Nat.mod_one]
theorem rowN_full {a : Nat} (b : Nat) (ha : a < 4294967296 ^ 8) : rowN a b 8 = a * b := by unfold rowN; rw [Nat.mod_eq_of_lt ha]
theorem digI_zeroN (j : Nat) : digI 0 j = 0 := digI_high (m := 0) (by omega) (by omega)
theorem underlying_16 : Tryz.prog.underlying 113 = some (.array 16 25) := by kernel_rfl
theorem slice_window (g k : Nat) (hk : k < 8) (w : World) : (Instr.sliceAt 113 (.pointer (some ⟨g, 0, none⟩)) (some (.int .i64 (k : Int))) (some (.int .i64 ((k : Int) + 8))) (some (.int .i64 ((k : Int) + 8)))).run Tryz.prog w = .ok (.slice (some ⟨g, k, none⟩) 8 8) w := by
 have hl : Tryz.prog.arrayLen 113 = 16 := by kernel_rfl
 have he : Tryz.prog.elem 113 = 25 := by kernel_rfl
 have hu : Tryz.prog.underlying 113 = some (.array (Tryz.prog.arrayLen 113) (Tryz.prog.elem 113)) := by rw [hl, he]; exact underlying_16
 rw [run_sliceAt_array_lhm w 113 ⟨g, 0, none⟩ hu .i64 .i64 .i64 k (k + 8) (k + 8) (by omega) (by omega) (by omega) (by rw [hl]; omega), he, sizeOf_u32]
 have e1 : ((k : Int) + 8).toNat = k + 8 := by omega
 simp only [Result.andThen_ok, slicedAt, e1, Int.toNat_natCast, zva]
 rw [if_neg (by omega)]
 have e2 : k + 8 - k = 8 := by omega
 rw [e2]
 simp
theorem size_u32 : (Tryz.prog.info? 25).map (·.size) = some 1 := by kernel_rfl
theorem dig_shift (n o k : Nat) : digI (n / 4294967296 ^ o) k = digI n (o + k) := by
 unfold digI dig
 rw [Nat.div_div_eq_div_mul, ← Nat.pow_add]
theorem copy_num (W : World) (g b4 n0 N o scap : Nat) (ho : o + 8 ≤ 16) (hb : Num W b4 27 n0) (hr : W.rowIs g 113 16 (numF N)) :
  ∃ w2, (Builtin.copy_ #[111, 111] 3 #[.slice (some ⟨b4, 0, none⟩) 8 8, .slice (some ⟨g, o, none⟩) 8 scap]).run Tryz.prog W = .ok (.int .i64 8) w2 ∧ Num w2 b4 27 (N / 4294967296 ^ o) ∧ W.grownBy w2 (some b4) := by
 have hrun := run_copy_row (P := Tryz.prog) W 111 111 3 25 b4 0 8 8 ⟨g, o, none⟩ 8 scap (numA n0) 27 (numA (N / 4294967296 ^ o)).toList Tryz.underlying111 size_u32 hb rfl
  (fun j v hj => by
   have hj8 : j < 8 := by
    have := (List.getElem?_eq_some_iff.1 hj).1
    exact this
   rw [zva, hr.cell (by omega)]
   rw [← hj, Array.getElem?_toList, numA_get _ hj8]
   unfold numF
   rw [dig_shift]) (Nat.le_refl _) (fun v hv => by
   have := zy (N / 4294967296 ^ o)
   rw [Array.all_eq_true'] at this
   exact this v (Array.mem_toList_iff.1 hv))
 refine ⟨_, hrun, ?_, zfb _ _ _⟩
 have e : ((numA n0).toList.take 0 ++ (numA (N / 4294967296 ^ o)).toList ++ (numA n0).toList.drop (0 + (numA (N / 4294967296 ^ o)).toList.length)).toArray = numA (N / 4294967296 ^ o) := rfl
 rw [e]
 exact num_setRow _ hb
theorem grown_trans' {a b c : World} {row : Option Nat} (h : a.grownBy b row) (k : b.grownBy c row) : a.grownBy c row :=
 ⟨k.os.trans h.os, k.tape.trans h.tape, k.output.trans h.output, Nat.le_trans h.size k.size, fun i hi hn => (k.block i (Nat.lt_of_lt_of_le hi h.size) hn).trans (h.block i hi hn)⟩
theorem grown_alloc' {a b : World} {row : Option Nat} (h : a.grownBy b row) (o : Obj) : a.grownBy ((b.alloc o).drew) row :=
 ⟨h.os, h.tape, h.output, by simp; have := h.size; omega, fun i hi hn => (Below.heap_alloc b o i (Nat.lt_of_lt_of_le hi h.size)).trans (h.block i hi hn)⟩
theorem zero16 (w : World) : (w.alloc (.cells #[Value.int .u32 0, .int .u32 0, .int .u32 0, .int .u32 0, .int .u32 0, .int .u32 0, .int .u32 0, .int .u32 0, .int .u32 0, .int .u32 0, .int .u32 0, .int .u32 0, .int .u32 0, .int .u32 0, .int .u32 0, .int .u32 0] 113)).rowIs w.heap.size 113 16 (numF 0) := by
 refine World.rowIs_alloc w #[Value.int .u32 0, .int .u32 0, .int .u32 0, .int .u32 0, .int .u32 0, .int .u32 0, .int .u32 0, .int .u32 0, .int .u32 0, .int .u32 0, .int .u32 0, .int .u32 0, .int .u32 0, .int .u32 0, .int .u32 0, .int .u32 0] 113 (numF 0) fun i hi => ?_
 have e : numF 0 i = .int .u32 0 := by unfold numF; rw [digI_zeroN]
 rw [e]
 have hi' : i < 16 := hi
 have : i = 0 ∨ i = 1 ∨ i = 2 ∨ i = 3 ∨ i = 4 ∨ i = 5 ∨ i = 6 ∨ i = 7 ∨ i = 8 ∨ i = 9 ∨ i = 10 ∨ i = 11 ∨ i = 12 ∨ i = 13 ∨ i = 14 ∨ i = 15 := by omega
 rcases this with rfl | rfl | rfl | rfl | rfl | rfl | rfl | rfl | rfl | rfl | rfl | rfl | rfl | rfl | rfl | rfl <;> rfl
theorem mul_any (a b : Nat) (ha : a < 4294967296 ^ 8) (hb : b < 4294967296 ^ 8) (w : World) :
  Calls Tryz.prog 49 #[numV a, numV b] w fun e w' => e = .returned (.tuple #[numV (a * b % 4294967296 ^ 8), numV (a * b / 4294967296 ^ 8)]) ∧ Below w.heap.size w w' := by
 have g0 : Num (((((w.alloc (.cells (numA a) 27)).alloc (.cells (numA b) 27)).alloc (.cells #[Value.int .u32 0, .int .u32 0, .int .u32 0, .int .u32 0, .int .u32 0, .int .u32 0, .int .u32 0, .int .u32 0] 27)).alloc (.cells #[Value.int .u32 0, .int .u32 0, .int .u32 0, .int .u32 0, .int .u32 0, .int .u32 0, .int .u32 0, .int .u32 0] 27)).alloc (.cells #[Value.int .u32 0, .int .u32 0, .int .u32 0, .int .u32 0, .int .u32 0, .int .u32 0, .int .u32 0, .int .u32 0, .int .u32 0, .int .u32 0, .int .u32 0, .int .u32 0, .int .u32 0, .int .u32 0, .int .u32 0, .int .u32 0] 113)) w.heap.size 27 a := ((((Num.new w 27 a).alloc _).alloc _).alloc _).alloc _
 have g1 : Num (((((w.alloc (.cells (numA a) 27)).alloc (.cells (numA b) 27)).alloc (.cells #[Value.int .u32 0, .int .u32 0, .int .u32 0, .int .u32 0, .int .u32 0, .int .u32 0, .int .u32 0, .int .u32 0] 27)).alloc (.cells #[Value.int .u32 0, .int .u32 0, .int .u32 0, .int .u32 0, .int .u32 0, .int .u32 0, .int .u32 0, .int .u32 0] 27)).alloc (.cells #[Value.int .u32 0, .int .u32 0, .int .u32 0, .int .u32 0, .int .u32 0, .int .u32 0, .int .u32 0, .int .u32 0, .int .u32 0, .int .u32 0, .int .u32 0, .int .u32 0, .int .u32 0, .int .u32 0, .int .u32 0, .int .u32 0] 113)) (w.heap.size + 1) 27 b := by
  have := (((Num.new (w.alloc (.cells (numA a) 27)) 27 b).alloc (.cells #[Value.int .u32 0, .int .u32 0, .int .u32 0, .int .u32 0, .int .u32 0, .int .u32 0, .int .u32 0, .int .u32 0] 27)).alloc (.cells #[Value.int .u32 0, .int .u32 0, .int .u32 0, .int .u32 0, .int .u32 0, .int .u32 0, .int .u32 0, .int .u32 0] 27)).alloc (.cells #[Value.int .u32 0, .int .u32 0, .int .u32 0, .int .u32 0, .int .u32 0, .int .u32 0, .int .u32 0, .int .u32 0, .int .u32 0, .int .u32 0, .int .u32 0, .int .u32 0, .int .u32 0, .int .u32 0, .int .u32 0, .int .u32 0] 113)
  rw [World.size_alloc] at this; exact this
 have g2 : Num (((((w.alloc (.cells (numA a) 27)).alloc (.cells (numA b) 27)).alloc (.cells #[Value.int .u32 0, .int .u32 0, .int .u32 0, .int .u32 0, .int .u32 0, .int .u32 0, .int .u32 0, .int .u32 0] 27)).alloc (.cells #[Value.int .u32 0, .int .u32 0, .int .u32 0, .int .u32 0, .int .u32 0, .int .u32 0, .int .u32 0, .int .u32 0] 27)).alloc (.cells #[Value.int .u32 0, .int .u32 0, .int .u32 0, .int .u32 0, .int .u32 0, .int .u32 0, .int .u32 0, .int .u32 0, .int .u32 0, .int .u32 0, .int .u32 0, .int .u32 0, .int .u32 0, .int .u32 0, .int .u32 0, .int .u32 0] 113)) (w.heap.size + 1 + 1) 27 0 := by
  have := ((Num.new ((w.alloc (.cells (numA a) 27)).alloc (.cells (numA b) 27)) 27 0).alloc (.cells #[Value.int .u32 0, .int .u32 0, .int .u32 0, .int .u32 0, .int .u32 0, .int .u32 0, .int .u32 0, .int .u32 0] 27)).alloc (.cells #[Value.int .u32 0, .int .u32 0, .int .u32 0, .int .u32 0, .int .u32 0, .int .u32 0, .int .u32 0, .int .u32 0, .int .u32 0, .int .u32 0, .int .u32 0, .int .u32 0, .int .u32 0, .int .u32 0, .int .u32 0, .int .u32 0] 113)
  rw [← zeroA, World.size_alloc, World.size_alloc] at this; exact this
 have g3 : Num (((((w.alloc (.cells (numA a) 27)).alloc (.cells (numA b) 27)).alloc (.cells #[Value.int .u32 0, .int .u32 0, .int .u32 0, .int .u32 0, .int .u32 0, .int .u32 0, .int .u32 0, .int .u32 0] 27)).alloc (.cells #[Value.int .u32 0, .int .u32 0, .int .u32 0, .int .u32 0, .int .u32 0, .int .u32 0, .int .u32 0, .int .u32 0] 27)).alloc (.cells #[Value.int .u32 0, .int .u32 0, .int .u32 0, .int .u32 0, .int .u32 0, .int .u32 0, .int .u32 0, .int .u32 0, .int .u32 0, .int .u32 0, .int .u32 0, .int .u32 0, .int .u32 0, .int .u32 0, .int .u32 0, .int .u32 0] 113)) (w.heap.size + 1 + 1 + 1) 27 0 := by
  have := (Num.new (((w.alloc (.cells (numA a) 27)).alloc (.cells (numA b) 27)).alloc (.cells #[Value.int .u32 0, .int .u32 0, .int .u32 0, .int .u32 0, .int .u32 0, .int .u32 0, .int .u32 0, .int .u32 0] 27)) 27 0).alloc (.cells #[Value.int .u32 0, .int .u32 0, .int .u32 0, .int .u32 0, .int .u32 0, .int .u32 0, .int .u32 0, .int .u32 0, .int .u32 0, .int .u32 0, .int .u32 0, .int .u32 0, .int .u32 0, .int .u32 0, .int .u32 0, .int .u32 0] 113)
  rw [← zeroA, World.size_alloc, World.size_alloc, World.size_alloc] at this; exact this
 have g4 : (((((w.alloc (.cells (numA a) 27)).alloc (.cells (numA b) 27)).alloc (.cells #[Value.int .u32 0, .int .u32 0, .int .u32 0, .int .u32 0, .int .u32 0, .int .u32 0, .int .u32 0, .int .u32 0] 27)).alloc (.cells #[Value.int .u32 0, .int .u32 0, .int .u32 0, .int .u32 0, .int .u32 0, .int .u32 0, .int .u32 0, .int .u32 0] 27)).alloc (.cells #[Value.int .u32 0, .int .u32 0, .int .u32 0, .int .u32 0, .int .u32 0, .int .u32 0, .int .u32 0, .int .u32 0, .int .u32 0, .int .u32 0, .int .u32 0, .int .u32 0, .int .u32 0, .int .u32 0, .int .u32 0, .int .u32 0] 113)).rowIs (w.heap.size + 1 + 1 + 1 + 1) 113 16 (numF (rowN a b 0)) := by
  have := zero16 ((((w.alloc (.cells (numA a) 27)).alloc (.cells (numA b) 27)).alloc (.cells #[Value.int .u32 0, .int .u32 0, .int .u32 0, .int .u32 0, .int .u32 0, .int .u32 0, .int .u32 0, .int .u32 0] 27)).alloc (.cells #[Value.int .u32 0, .int .u32 0, .int .u32 0, .int .u32 0, .int .u32 0, .int .u32 0, .int .u32 0, .int .u32 0] 27))
  rw [World.size_alloc, World.size_alloc, World.size_alloc, World.size_alloc] at this; rw [rowN_zero]; exact this
 have gb : Below w.heap.size w (((((w.alloc (.cells (numA a) 27)).alloc (.cells (numA b) 27)).alloc (.cells #[Value.int .u32 0, .int .u32 0, .int .u32 0, .int .u32 0, .int .u32 0, .int .u32 0, .int .u32 0, .int .u32 0] 27)).alloc (.cells #[Value.int .u32 0, .int .u32 0, .int .u32 0, .int .u32 0, .int .u32 0, .int .u32 0, .int .u32 0, .int .u32 0] 27)).alloc (.cells #[Value.int .u32 0, .int .u32 0, .int .u32 0, .int .u32 0, .int .u32 0, .int .u32 0, .int .u32 0, .int .u32 0, .int .u32 0, .int .u32 0, .int .u32 0, .int .u32 0, .int .u32 0, .int .u32 0, .int .u32 0, .int .u32 0] 113)) := (((((Below.refl _ _).alloc (Nat.le_refl _) _).alloc (by simp) _).alloc (by simp; omega) _).alloc (by simp; omega) _).alloc (by simp; omega) _
 have gs : w.heap.size + 4 < (((((w.alloc (.cells (numA a) 27)).alloc (.cells (numA b) 27)).alloc (.cells #[Value.int .u32 0, .int .u32 0, .int .u32 0, .int .u32 0, .int .u32 0, .int .u32 0, .int .u32 0, .int .u32 0] 27)).alloc (.cells #[Value.int .u32 0, .int .u32 0, .int .u32 0, .int .u32 0, .int .u32 0, .int .u32 0, .int .u32 0, .int .u32 0] 27)).alloc (.cells #[Value.int .u32 0, .int .u32 0, .int .u32 0, .int .u32 0, .int .u32 0, .int .u32 0, .int .u32 0, .int .u32 0, .int .u32 0, .int .u32 0, .int .u32 0, .int .u32 0, .int .u32 0, .int .u32 0, .int .u32 0, .int .u32 0] 113)).heap.size := by simp
 go_enter Tryz.func49, Tryz.ntmps49
 go_wp2_with (refine ze rfl _ _ rfl _ rfl _ _ _ g0 Tryz.underlying27 rfl zd ?_)
 generalize hW : World.alloc _ _ = W at *
 clear hW
 go_loopw [11] (fun i wr => ∃ k : Nat, k ≤ 8 ∧ i = .int .i64 k ∧ wr.rowIs (w.heap.size + 1 + 1 + 1 + 1) 113 16 (numF (rowN a b k)) ∧ W.grownBy wr (some (w.heap.size + 1 + 1 + 1 + 1))) (fun i _ => 8 - (intOf i).toNat)
 case atStart => exact ⟨0, by omega, rfl, g4, World.grownBy.refl _ _⟩
 case round =>
  obtain ⟨k, hk, rfl, hr, hg⟩ := hrel
  clear g4
  by_cases hlt : k < 8
  ·have hix := fun w => index_num a k hlt w
   have ms := hid (mul_step (a := a) hb hlt)
   have h1 := g1.grown hg (by simp <;> omega)
   have sg := hg.size
   have hd1 : 0 ≤ digI a k ∧ digI a k < 4294967296 := ⟨zka _ _, zla _ _⟩
   have HD := hid hd1
   have hkk : (k : Int) ≤ 7 := by omega
   clear hd1
   have hsl := fun w' => slice_window (w.heap.size + 1 + 1 + 1 + 1) k hlt w'
   go_wp2_with fail
   clear hix
   have r2 := hr.drew.alloc (.cells #[.int .u32 (digI a k)] 25)
   have h2 := (h1.drew).alloc (.cells #[.int .u32 (digI a k)] 25)
   have c2 : (wr.drew.alloc (.cells #[.int .u32 (digI a k)] 25)).cell? ⟨wr.heap.size, 0, none⟩ = some (.int .u32 (digI a k)) := World.cell?_alloc_new wr.drew _ _ 0
   have hs2 : w.heap.size + 1 < (wr.drew.alloc (.cells #[.int .u32 (digI a k)] 25)).heap.size := by simp; omega
   have hcb := cyM_bd (d := digI a k) (x := fun i => digI (rowN a b k) (k + i)) (y := digI b) HD.out (fun i => ⟨zka _ _, zla _ _⟩) (fun i => ⟨zka _ _, zla _ _⟩) 8
   obtain ⟨C, hC⟩ : ∃ C, cyM (digI a k) (fun i => digI (rowN a b k) (k + i)) (digI b) 8 = C := ⟨_, rfl⟩
   rw [hC] at hcb
   obtain ⟨hcb0, hcb1⟩ := hcb
   have HCC := hid hC
   clear hC
   have r3 : ((wr.alloc (.cells #[.int .u32 (digI a k)] 25)).drew).rowIs (w.heap.size + 1 + 1 + 1 + 1) 113 16 (numF (rowN a b k)) := hr.alloc _
   have c3 : ((wr.alloc (.cells #[.int .u32 (digI a k)] 25)).drew).cell? ⟨wr.heap.size, 0, none⟩ = some (.int .u32 (digI a k)) := World.cell?_alloc_new wr _ _ 0
   have h3 : Num ((wr.alloc (.cells #[.int .u32 (digI a k)] 25)).drew) (w.heap.size + 1) 27 b := h1.alloc _
   have hs3 : w.heap.size + 1 < ((wr.alloc (.cells #[.int .u32 (digI a k)] 25)).drew).heap.size := by simp; omega
   have hng : wr.heap.size ≠ w.heap.size + 1 + 1 + 1 + 1 := by omega
   clear r2 c2 h2 hs2
   go_region_with (first | (go_at_call 82; refine (times_any _ _).mono ?_; rintro e w1 ⟨rfl, rfl⟩) | (go_at_call 81; refine (along_mul (w.heap.size + 1 + 1 + 1 + 1) k 8 8 (w.heap.size + 1) 0 8 8 16 113 (numF (rowN a b k)) (fun i => digI (rowN a b k) (k + i)) (digI b) (digI a k) ⟨wr.heap.size, 0, none⟩ _ (by omega) (by unfold maxLen; omega) (by omega) r3 (fun i _ => rfl) (fun i hi => by rw [Nat.zero_add]; exact h3.cell hi) (by omega) hs3 c3 hng (fun i => ⟨zka _ _, zla _ _⟩) (fun i => ⟨zka _ _, zla _ _⟩) HD.out).mono ?_; rw [HCC.out]; rintro e w1 ⟨rfl, hgA, hrA⟩; have hzA := hrA.frozen (k + 8); have hcA := hrA.cell (i := k + 8) (by omega); rw [if_neg (by omega)] at hcA; unfold numF at hcA))
   go_wp2
   go_roundw
   case rel =>
    refine ⟨k + 1, by omega, by go_num, (hrA.set (k + 8) _).congr fun j hj => ?_, ?_⟩
    ·have e := ms.out j hj
     unfold numF
     rw [← e]
     unfold nextZ
     by_cases h8 : j = k + 8
     ·rw [if_pos h8, if_neg (by omega), if_pos h8, HCC.out]
     ·rw [if_neg h8]
      by_cases h9 : k ≤ j ∧ j < k + 8
      ·rw [if_pos h9, if_pos h9]
      ·rw [if_neg h9, if_neg h9, if_neg h8]
    ·exact zsa (grown_trans' (grown_alloc' hg _) hgA) rfl _
   case measure => simp [intOf] <;> omega
  ·obtain rfl : k = 8 := by omega
   have hrN : wr.rowIs (w.heap.size + 1 + 1 + 1 + 1) 113 16 (numF (a * b)) := by rw [← rowN_full b ha]; exact hr
   have k2 := g2.grown hg (by simp <;> omega)
   have k3 := g3.grown hg (by simp <;> omega)
   have bb := zf gb hg (by omega) (by omega)
   have sg := hg.size
   go_wp2_with fail
   go_still_tail 2, (by kernel_rfl)
   change wpList _ _ _ _ _ (World.drew _)
   go_wp2_with fail
   obtain ⟨u1, e1, q2, qg⟩ := copy_num wr.drew _ _ 0 (a * b) 0 16 (by omega) k2 hrN
   rw [e1]
   clear e1
   have q3 := k3.drew.grown qg (by simp <;> omega)
   have rN : u1.rowIs (w.heap.size + 1 + 1 + 1 + 1) 113 16 (numF (a * b)) := World.rowIs.of_block (w := wr.drew) hrN (qg.block _ (by simp; omega) (by simp <;> omega))
   have bq := zf bb.drew qg (by simp; omega) (by omega)
   have sq := qg.size
   simp only [World.size_drew] at sq
   go_wp2_with fail
   go_still_tail 2, (by kernel_rfl)
   change wpList _ _ _ _ _ (World.drew _)
   go_wp2_with fail
   obtain ⟨u2, e2, p3, pg⟩ := copy_num u1.drew _ _ 0 (a * b) 8 8 (by omega) q3 rN
   rw [e2]
   clear e2
   have p2 := q2.drew.grown pg (by simp <;> omega)
   have bp := zf bq.drew pg (by simp; omega) (by omega)
   have sp := pg.size
   simp only [World.size_drew] at sp
   go_wp2_with (first | (refine ze rfl _ (.tmp 4) rfl _ rfl _ _ _ p2 Tryz.underlying27 rfl zd ?_) | (refine ze rfl _ (.tmp 5) rfl _ rfl _ _ _ p3 Tryz.underlying27 rfl zd ?_) | (refine zl rfl _ (.tmp 4) _ rfl _ rfl _ rfl _ rfl p2 zd ?_; intro v1 vg1 vm1; have p3' := p3.grown vg1 (by simp <;> omega)) | (refine zl rfl _ (.tmp 5) _ rfl _ rfl _ rfl _ rfl p3' zd ?_; intro v2 vg2 vm2))
   have r2 := vm1.grown vg2 (by simp <;> omega)
   have sv := vg1.size
   have z1 : numA (a * b / 4294967296 ^ 0) = numA (a * b % 4294967296 ^ 8) := by rw [Nat.pow_zero, Nat.div_one, numA_mod]
   have z2 : numV (a * b % 4294967296 ^ 8) = numV (a * b / 4294967296 ^ 0) := congrArg Value.agg z1.symm
   rw [z2]
   exact bodyPost_ret (results_num2 rfl rfl r2 rfl vm2 Tryz.underlying27 rfl zd) rfl ⟨rfl, zf (zf bp vg1 (by omega) (by omega)) vg2 (by omega) (by omega)⟩
/-! The product that is taken off: its carries and its digits; the difference: its borrows and its digits. -/
def cP (d : Int) (y : Nat → Int) : Nat → Int
 | 0 => 0
 | k + 1 => (cP d y k + d * y k) / 4294967296
def pP (d : Int) (y : Nat → Int) (k : Nat) : Int := (cP d y k + d * y k) % 4294967296
theorem pP_bd (d : Int) (y : Nat → Int) (k : Nat) : 0 ≤ pP d y k ∧ pP d y k < 4294967296 := by unfold pP; omega
theorem cP_bd {d : Int} {y : Nat → Int} (hd : 0 ≤ d ∧ d < 4294967296) (hy : ∀ k, 0 ≤ y k ∧ y k < 4294967296) : ∀ k, 0 ≤ cP d y k ∧ cP d y k < 4294967296
 | 0 => by simp [cP]
 | k + 1 => by
  have h1 := cP_bd hd hy k
  have h3 := prod_bd hd (hy k)
  simp only [cP]; omega
theorem valP (d : Int) (y : Nat → Int) : ∀ m, valI (pP d y) m + cP d y m * 4294967296 ^ m = d * valI y m
 | 0 => by simp [valI, cP]
 | m + 1 => by
  have ih := valP d y m
  have e : pP d y m + cP d y (m + 1) * 4294967296 = cP d y m + d * y m := by simp only [pP, cP]; omega
  simp only [valI, Int.pow_succ]
  generalize (4294967296 : Int) ^ m = P at *
  grind
theorem results_tmp_row {P : Program} {fn : Func} {p q : Tmp} {ty : TypeId} (h : fn.results = #[.tmp q, .cell p ty]) {tmps : Array Value} {w : World} {g : Nat} {t : TypeId} {cs : Array Value} {d : TypeDesc}
  (hp : tmps.getD p undef = .pointer (some ⟨g, 0, none⟩)) (hg : w.heap[g]? = some (.cells cs t (0, 0)))
  (hu : P.underlying ty = some d) (hd : (match d with | .struct _ | .array _ _ => true | _ => false) = true) (hi : (P.info? ty).map (·.size) = some cs.size) :
  (results fn tmps).run P w = .ok (.tuple #[tmps.getD q undef, .agg cs]) w := by
 have hp' : tmps[p]?.getD undef = .pointer (some ⟨g, 0, none⟩) := by simpa using hp
 simp [results, h, hp', asAddr, run_loadVar_row w g t ty cs (0, 0) d hg hu hd hi]
theorem grown_al {a b : World} {row : Option Nat} (h : a.grownBy b row) (o : Obj) : a.grownBy (b.alloc o) row :=
 ⟨h.os, h.tape, h.output, by simp; have := h.size; omega, fun i hi hn => (Below.heap_alloc b o i (Nat.lt_of_lt_of_le hi h.size)).trans (h.block i hi hn)⟩
theorem heap_new2 (w : World) (o o' : Obj) : ((w.alloc o).alloc o').heap[w.heap.size + 1]? = some o' := by
 have := heap_alloc_new (w.alloc o) o'
 rwa [World.size_alloc] at this
theorem heap_new1 (w : World) (o o' : Obj) : ((w.alloc o).alloc o').heap[w.heap.size]? = some o := (Below.heap_alloc (w.alloc o) o' _ (by simp)).trans (heap_alloc_new w o)
theorem less_any (d : Int) (w : World) :
  Calls Tryz.prog 118 #[.int .u32 d] w fun e w' => e = .returned (.func (.func 129) #[] #[.pointer (some ⟨w.heap.size, 0, none⟩)]) ∧ w.alloc (.cells #[.int .u32 d] 25) = w' := by
 go_enter Tryz.func118, Tryz.ntmps118
 go_wp2
 go_ret
 exact ⟨rfl, rfl⟩
theorem less1_any (d x y c l : Int) (hd : 0 ≤ d ∧ d < 4294967296) (hx : 0 ≤ x ∧ x < 4294967296) (hy : 0 ≤ y ∧ y < 4294967296) (hc : 0 ≤ c ∧ c < 4294967296) (hl : 0 ≤ l ∧ l ≤ 1) (p : Addr) (w : World) (hp : w.cell? p = some (.int .u32 d)) :
  Calls Tryz.prog 129 #[.int .u32 x, .int .u32 y, .agg #[.int .u64 c, .int .u32 l], .pointer (some p)] w fun e w' =>
   e = .returned (.tuple #[.int .u32 ((x - (c + d * y) % 4294967296 - l) % 4294967296), .agg #[.int .u64 ((c + d * y) / 4294967296), .int .u32 (-((x - (c + d * y) % 4294967296 - l) / 4294967296))]]) ∧ Below w.heap.size w w' := by
 obtain ⟨h1, h2⟩ := prod_bd hd hy
 have hq : 0 ≤ (c + d * y) % 4294967296 ∧ (c + d * y) % 4294967296 < 4294967296 := by omega
 obtain ⟨hd0, hd1⟩ := hd
 obtain ⟨hx0, hx1⟩ := hx
 obtain ⟨hy0, hy1⟩ := hy
 obtain ⟨hc0, hc1⟩ := hc
 obtain ⟨hl0, hl1⟩ := hl
 have c2 : ((w.alloc (.cells #[.int .u64 c, .int .u32 l] 148)).alloc (.cells #[.int .u64 0, .int .u32 0] 148)).cell? p = some (.int .u32 d) := by
  exact (grown_al (grown_al (World.grownBy.refl w none) _) _).cell hp (by simp)
 go_enter Tryz.func129, Tryz.ntmps129
 go_wp2_with fail
 refine (sub32_any _ _ _ hx0 hx1 (by omega) (by omega) hl0 hl1 _).mono ?_
 rintro e w1 ⟨rfl, rfl⟩
 go_wp2_with fail
 go_region
 go_wp2
 refine bodyPost_ret (results_tmp_row rfl rfl (heap_new2 _ _ _) Tryz.underlying148 rfl (by kernel_rfl)) rfl ⟨rfl, ?_⟩
 exact (((Below.refl _ _).alloc (Nat.le_refl _) _).alloc (by simp) _).drew
theorem cell_heap {w : World} {b k : Nat} {cs : Array Value} {t : TypeId} {v : Value} (h : w.heap[b]? = some (.cells cs t (0, 0))) (e : cs[k]? = some v) : w.cell? ⟨b, k, none⟩ = some v := by
 have : w.rowIs b t cs.size (fun i => cs.getD i undef) := ⟨cs, h, rfl, fun i hi => by simp [hi]⟩
 have hk : k < cs.size := (Array.getElem?_eq_some_iff.1 e).1
 rw [this.cell hk]
 simp [e]
theorem grown_drw {a b : World} {row : Option Nat} (h : a.grownBy b row) : a.grownBy b.drew row := ⟨h.os, h.tape, h.output, h.size, h.block⟩
theorem grown_of_below {a w : World} {row : Option Nat} (h : Below a.heap.size a w) : a.grownBy w row := ⟨h.os, h.tape, h.output, h.size, fun i hi _ => h.block i hi⟩
def pairF (u v : Value) (i : Nat) : Value := if i = 0 then u else v
theorem pair_row {w : World} {b : Nat} {u v : Value} {t : TypeId} (h : w.heap[b]? = some (.cells #[u, v] t (0, 0))) : w.rowIs b t 2 (pairF u v) :=
 ⟨#[u, v], h, rfl, fun i hi => by
  have : i = 0 ∨ i = 1 := by omega
  rcases this with rfl | rfl <;> rfl⟩
theorem pair_heap {w : World} {b : Nat} {t : TypeId} {f : Nat → Value} (h : w.rowIs b t 2 f) : w.heap[b]? = some (.cells #[f 0, f 1] t (0, 0)) := by
 obtain ⟨c, hb, hs, hc⟩ := h
 have : c = #[f 0, f 1] := by
  apply Array.ext_getElem?
  intro i
  by_cases hi : i < 2
  ·rw [hc i hi]
   have : i = 0 ∨ i = 1 := by omega
   rcases this with rfl | rfl <;> rfl
  ·rw [Array.getElem?_eq_none (by omega), Array.getElem?_eq_none (by simp; omega)]
 rw [hb, this]
theorem pair_set {w : World} {b : Nat} {u v u' v' : Value} {t : TypeId} (h : w.heap[b]? = some (.cells #[u, v] t (0, 0))) : ((w.setCell ⟨b, 0, none⟩ u').setCell ⟨b, 1, none⟩ v').heap[b]? = some (.cells #[u', v'] t (0, 0)) := by
 have := pair_heap (((pair_row h).set 0 u').set 1 v')
 simpa using this
theorem grown_new {a w : World} {row : Option Nat} (h : a.grownBy w row) {p : Addr} (hp : a.heap.size ≤ p.block) (u : Value) : a.grownBy (w.setCell p u) row :=
 ⟨h.os, h.tape, h.output, by simpa [World.setCell] using h.size, fun i hi hne => (Below.heap_setCell w p u i (by rintro rfl; omega)).trans (h.block i hi hne)⟩
theorem frozen_heap {w : World} {b k : Nat} {cs : Array Value} {t : TypeId} (h : w.heap[b]? = some (.cells cs t (0, 0))) : w.frozen? ⟨b, k, none⟩ = false := by
 have : w.rowIs b t cs.size (fun i => cs.getD i undef) := ⟨cs, h, rfl, fun i hi => by simp [hi]⟩
 exact this.frozen k
theorem along_debt (b o n cap b2 o2 m cap2 N : Nat) (T : TypeId) (f : Nat → Value) (x y : Nat → Int) (d : Int) (p : Addr) (w : World)
   (hm : m ≤ n) (hn : n ≤ maxLen) (hN : o + n ≤ N) (hb : w.rowIs b T N f) (hf : ∀ k, k < m → f (o + k) = .int .u32 (x k))
   (hy : ∀ k, k < m → w.cell? ⟨b2, o2 + k, none⟩ = some (.int .u32 (y k))) (hne : b2 ≠ b) (hb2 : b2 < w.heap.size) (hp : w.cell? p = some (.int .u32 d)) (hpb : p.block ≠ b)
   (bx : ∀ k, 0 ≤ x k ∧ x k < 4294967296) (by_ : ∀ k, 0 ≤ y k ∧ y k < 4294967296) (hd : 0 ≤ d ∧ d < 4294967296) :
    Calls Tryz.prog 117 #[.slice (some ⟨b, o, none⟩) n cap, .slice (some ⟨b2, o2, none⟩) m cap2, .agg #[.int .u64 0, .int .u32 0], .func (.func 129) #[] #[.pointer (some p)]] w fun e w' =>
      e = .returned (.agg #[.int .u64 (cP d y m), .int .u32 (bwI x (pP d y) m)]) ∧ w.grownBy w' (some b) ∧ w'.rowIs b T N (fun j => if o ≤ j ∧ j < o + m then .int .u32 (zS x (pP d y) (j - o)) else f j) := by
  unfold maxLen at hn
  go_enter Tryz.func117, Tryz.ntmps117
  go_wp2
  go_loopw [13] (fun i wr => ∃ k : Nat, k ≤ m ∧ i = .int .i64 k ∧ wr.heap[w.heap.size]? = some (.cells #[.int .u64 (cP d y k), .int .u32 (bwI x (pP d y) k)] 148 (0, 0)) ∧ wr.heap[w.heap.size + 1]? = some (.cells #[.int .u64 0, .int .u32 0] 148 (0, 0)) ∧ w.grownBy wr (some b) ∧ wr.rowIs b T N (fun j => if o ≤ j ∧ j < o + k then .int .u32 (zS x (pP d y) (j - o)) else f j)) (fun i _ => m - (intOf i).toNat)
  case atStart => exact ⟨0, Nat.zero_le _, rfl, by simpa [cP, bwI] using heap_new1 w _ _, heap_new2 w _ _, grown_al (grown_al (World.grownBy.refl _ _) _) _, ((hb.alloc _).alloc _).congr (fun i _ => by rw [if_neg (by omega)])⟩
  case round =>
    obtain ⟨k, hk, rfl, h1, h2, hg, hr⟩ := hrel
    have hcy := cP_bd hd by_ k
    have hbw := bwI_bd bx (pP_bd d y) k
    have hbl := hb.lt
    have hsz := hg.size
    have c1 : k < m → wr.cell? ⟨b2, o2 + k, none⟩ = some (.int .u32 (y k)) := fun h => hg.cell (hy k h) (fun e => hne (by simpa using e))
    have c2 : k < m → wr.cell? ⟨b, o + k, none⟩ = some (.int .u32 (x k)) := fun h => by rw [hr.cell (by omega), if_neg (by omega), hf k h]
    have c3 : wr.frozen? ⟨b, o + k, none⟩ = false := hr.frozen _
    have c4 := hg.cell hp (fun e => hpb (by simpa using e))
    have d0 : wr.cell? ⟨w.heap.size, 0, none⟩ = some (.int .u64 (cP d y k)) := cell_heap h1 rfl
    have d1 : wr.cell? ⟨w.heap.size, 1, none⟩ = some (.int .u32 (bwI x (pP d y) k)) := cell_heap h1 rfl
    have d2 : wr.cell? ⟨w.heap.size + 1, 0, none⟩ = some (.int .u64 0) := cell_heap h2 rfl
    have d3 : wr.cell? ⟨w.heap.size + 1, 1, none⟩ = some (.int .u32 0) := cell_heap h2 rfl
    have d4 : wr.frozen? ⟨w.heap.size + 1, 0, none⟩ = false := frozen_heap h2
    have d5 : wr.frozen? ⟨w.heap.size + 1, 1, none⟩ = false := frozen_heap h2
    have d6 : wr.frozen? ⟨w.heap.size, 0, none⟩ = false := frozen_heap h1
    have d7 : wr.frozen? ⟨w.heap.size, 1, none⟩ = false := frozen_heap h1
    have hw1 : w.heap.size + 1 < wr.heap.size := (Array.getElem?_eq_some_iff.1 h2).1
    have hxk := bx k
    have hyk := by_ k
    have HX := hid hxk
    have HY := hid hyk
    have HC := hid hcy
    have HD := hid hd
    have HL := hid hbw
    clear hf hy bx by_ hxk hyk hcy hd hbw
    have nbb : b ≠ w.heap.size := by omega
    go_wp2_with fail
    · go_region_with (first | (go_at_call 129; refine (less1_any d _ _ _ _ HD.out HX.out HY.out HC.out HL.out p _ (by exact c4)).mono ?_; rintro e w1 ⟨rfl, hB⟩; have e1 : w1.frozen? ⟨b, o + k, none⟩ = false := (hB.frozen (p := ⟨b, o + k, none⟩) (by simp <;> omega)).trans c3; have e2 : w1.cell? ⟨b, o + k, none⟩ = some (.int .u32 (x k)) := (hB.cell (p := ⟨b, o + k, none⟩) (by simp <;> omega)).trans (c2 (by omega)); have e3 : w1.frozen? ⟨w.heap.size, 0, none⟩ = false := (hB.frozen (p := ⟨w.heap.size, 0, none⟩) (by simp <;> omega)).trans d6; have e4 : w1.frozen? ⟨w.heap.size, 1, none⟩ = false := (hB.frozen (p := ⟨w.heap.size, 1, none⟩) (by simp <;> omega)).trans d7; have e5 : w1.cell? ⟨w.heap.size, 0, none⟩ = some (.int .u64 (cP d y k)) := (hB.cell (p := ⟨w.heap.size, 0, none⟩) (by simp <;> omega)).trans d0; have e6 : w1.cell? ⟨w.heap.size, 1, none⟩ = some (.int .u32 (bwI x (pP d y) k)) := (hB.cell (p := ⟨w.heap.size, 1, none⟩) (by simp <;> omega)).trans d1))
      all_goals
        have f1 := (hB.block w.heap.size (by simp <;> omega)).trans h1
        have f2 := (hB.block (w.heap.size + 1) (by simp <;> omega)).trans h2
        have fr := hr.drew.of_block (hB.block b (by simp <;> omega))
        have fg := (grown_trans' (grown_drw hg) (grown_of_below (row := some b) hB))
        go_wp2
        go_roundw
        case rel =>
          refine ⟨k + 1, by omega, by go_num, ?_, ?_, ?_, ?_⟩
          · exact pair_set (by rw [Below.heap_setCell _ _ _ _ (by simp <;> omega)]; exact f1)
          · rw [Below.heap_setCell _ _ _ _ (by simp <;> omega), Below.heap_setCell _ _ _ _ (by simp <;> omega), Below.heap_setCell _ _ _ _ (by simp <;> omega)]
            exact f2
          · exact grown_new (grown_new (zsa fg rfl _) (by simp) _) (by simp) _
          · refine ((((fr.set (o + k) _).setOther (by simp <;> omega) _).setOther (by simp <;> omega) _)).congr fun j hj => ?_
            by_cases e : j = o + k
            · subst e
              rw [if_pos rfl, if_pos (by omega), Nat.add_sub_cancel_left, zS, pP]
            · rw [if_neg e]
              by_cases h1 : o ≤ j ∧ j < o + k
              · rw [if_pos h1, if_pos (by omega)]
              · rw [if_neg h1, if_neg (by omega)]
        case measure => simp [intOf]; omega
    · have : k = m := by omega
      subst this
      refine bodyPost_ret (results_cell_row rfl _ _ _ _ _ _ _ rfl (pair_set h2) Tryz.underlying148 rfl (by kernel_rfl)) rfl ⟨rfl, ?_, ?_⟩
      · exact grown_new (grown_new hg (by simp) _) (by simp) _
      · exact (hr.setOther (by simp <;> omega) _).setOther (by simp <;> omega) _
end Go.Proofs.YtcfepoopkfhojaaGreat
