/- What WireOwn stands on, part 2. -/
import Derived.Great.BuildSlice
import Derived.Deep.Upon
import Derived.Lib.Strings
import Derived.Deep.LoopGhost
import Derived.Test.YtlbkogdmojlpmaaWireOwnP1
set_option maxRecDepth 100000
set_option maxHeartbeats 8000000
set_option linter.unusedVariables false
set_option linter.unusedSimpArgs false
namespace Go.Proofs.Ytlbkogdmojlpmaa
open Go.ChangeShapes Go.WideShapes Go.ChangeAt Go.RowKit Go.Shelf
variable {ds : List Deferred}
def bfp (v : Value) (g : Nat) : Prop := ∃ o s n c, v = .slice (some ⟨g, o, s⟩) n c ∧ 0 < n
def ofp (v : Value) (g : Nat) : Prop := v.ownBlock = some g
theorem zfa {v : Value} {g : Nat} (h : bfp v g) : ofp v g := by
  obtain ⟨o, s, n, c, rfl, _⟩ := h
  rfl
theorem IsB.same {l : List UInt8} {v : Value} {u u' : World} (hs : Same (bfp v) u u') (h : IsB u l v) : IsB u' l v := by
  obtain ⟨A, c, rfl, h1, h2, h3, h4⟩ := h
  refine ⟨A, c, rfl, h1, h2, h3, fun hp => ?_⟩
  obtain ⟨b, o, e, hb, hc⟩ := h4.at hp
  subst e
  have hw : u.heap[b]? = some u.heap[b] := Array.getElem?_eq_getElem hb
  have h5 := hs b _ ⟨o, none, _, _, rfl, hp⟩ hw
  refine ⟨_, rfl, (Array.getElem?_eq_some_iff.1 h5).1, fun j x hx => ?_⟩
  rw [zta]
  exact (World.cell?_of_block (a := ⟨b, o + j, none⟩) (h5.trans hw.symm)).trans (hc j x hx)
theorem IsB.lt {l : List UInt8} {v : Value} {u : World} (h : IsB u l v) {g : Nat} (hg : bfp v g) : g < u.heap.size := by
  obtain ⟨A, c, rfl, h1, h2, h3, h4⟩ := h
  obtain ⟨o, s, n, c', e, hn⟩ := hg
  injection e with e1 e2 e3
  subst e2
  obtain ⟨b, o', e4, hb, _⟩ := h4.at hn
  rw [e4] at e1
  injection e1 with e1
  injection e1 with e1
  subst e1
  exact hb
theorem Byt.same {l : List UInt8} {v : Value} {b : Nat} {u u' : World} (hs : Same (ofp v) u u') (h : Byt u b v l) : Byt u' b v l := by
  refine ⟨h.1, ?_⟩
  rcases h.2 with hn | ⟨g, c, cur, e, hbg, hg, rest⟩
  · exact .inl hn
  · exact .inr ⟨g, c, cur, e, hbg, hs g _ (by rw [ofp, e]; rfl) hg, rest⟩
theorem Byt.rebase {l : List UInt8} {v : Value} {b B : Nat} {u : World} (h : Byt u b v l) (hB : ∀ k, v.ownBlock = some k → B ≤ k) : Byt u B v l := by
  refine ⟨h.1, ?_⟩
  rcases h.2 with hn | ⟨g, c, cur, e, hbg, rest⟩
  · exact .inl hn
  · exact .inr ⟨g, c, cur, e, hB g (by rw [e]; rfl), rest⟩
theorem Byt.isb {w : World} {b : Nat} {v : Value} {l : List UInt8} (h : Byt w b v l) : IsB w l v := by
  obtain ⟨A, c, e, h1, h2, h3, h4⟩ := h.slice
  refine ⟨A, c, e, h1, h2, fun hA => ?_, h3⟩
  rcases h.2 with ⟨e2, h0⟩ | ⟨g, c', cur, e2, _⟩
  · rw [e] at e2; injection e2
  · rw [e] at e2; injection e2 with e2; rw [hA] at e2; cases e2
theorem zc (w : World) : IsB w [] (zN) := ⟨none, 0, rfl, Nat.le_refl _, by unfold maxLen; omega, fun _ => rfl, fun h => absurd h (by simp)⟩
def bytR (l : List UInt8) (v : Value) : Res := ⟨false, bfp v, fun w => IsB w l v⟩
def ownR (l : List UInt8) (v : Value) : Res := ⟨true, ofp v, fun w => Byt w 0 v l⟩
section
variable {G : Option Nat} {w0 w w' : World} {R : List (Nat × Res)} {l r : List UInt8} {v u : Value} {i k : Nat}
theorem Mx.isb (M : Mx G w0 w R) (h : look R k = some (bytR l v)) : IsB w l v := M.at_ k _ h
theorem Mx.isO (M : Mx G w0 w R) (h : look R k = some (ownR l v)) : IsB w l v := Byt.isb (M.at_ k _ h)
theorem Mx.byt (M : Mx none w0 w R) (h : look R k = some (ownR l v)) : Byt w w0.heap.size v l :=
  Byt.rebase (b := 0) (M.at_ k _ h) fun g hg => by
    rcases M.own k _ h rfl g hg with h | h
    · exact h
    · cases h
theorem Mx.bytG (M : Mx G w0 w R) (h : look R k = some (ownR l v)) (hG : ∀ g, G = some g → v.ownBlock ≠ some g) : Byt w w0.heap.size v l :=
  Byt.rebase (b := 0) (M.at_ k _ h) fun g hg => by
    rcases M.own k _ h rfl g hg with h | h
    · exact h
    · exact absurd hg (hG g h)
theorem zga : ∀ u u', Same (bytR l v).fp u u' → (bytR l v).F u → (bytR l v).F u' := fun _ _ hs h => IsB.same hs h
theorem ownR_dep : ∀ u u', Same (ownR l v).fp u u' → (ownR l v).F u → (ownR l v).F u' := fun _ _ hs h => Byt.same hs h
theorem Mx.argB (M : Mx G w0 w R) (i : Nat) (h : IsB w0 l v) (hG : ∀ g, G = some g → ¬ bfp v g) : Mx G w0 w ((i, bytR l v) :: R) :=
  M.arg i _ (IsB.same (u := w0) ⟨fun g o hg ho => (M.grown.block g (Array.getElem?_eq_some_iff.1 ho).1 (fun e => hG g e.symm hg)).trans ho, M.grown.size⟩ h) zga rfl fun g hg => ⟨h.lt hg, fun e => hG g e hg⟩
theorem blkO_dep {g : Nat} {t : TypeId} {c : Array Value} : ∀ u u', Same (blkO g t c).fp u u' → (blkO g t c).F u → (blkO g t c).F u' := fun u u' hs h => hs g _ rfl h
theorem Mx.argO (M : Mx G w0 w R) (i : Nat) {g : Nat} {t : TypeId} {c : Array Value} (h : w0.heap[g]? = some (.cells c t (0, 0))) (hG : ∀ b, G = some b → ¬ g = b) : Mx G w0 w ((i, blkO g t c) :: R) :=
  M.arg i _ ((M.grown.block g (Array.getElem?_eq_some_iff.1 h).1 (fun e => hG g e.symm rfl)).trans h) blkO_dep rfl fun b hb => ⟨by rw [show b = g from hb]; exact (Array.getElem?_eq_some_iff.1 h).1, fun e => hG b e (show b = g from hb).symm⟩
theorem Mx.partB (M : Mx G w0 w R) (i : Nat) (hk : look R k = some (bytR r u)) (h : IsB w l v) (hlo : ∀ g, bfp v g → bfp u g) : Mx G w0 w ((i, bytR l v) :: R) :=
  M.part i _ h zga rfl hk rfl hlo
theorem Mx.newO (M : Mx G w0 w R) (h : Below w.heap.size w w') (i : Nat) (hv : Byt w' w.heap.size v l) : Mx G w0 w' ((i, ownR l v) :: R) :=
  M.fresh h i _ (hv.rebase fun _ _ => Nat.zero_le _) ownR_dep fun g hg => hv.lt g hg
theorem Mx.newB (M : Mx G w0 w R) (h : Below w.heap.size w w') (i : Nat) (hv : IsB w' l v) (hlo : ∀ g, bfp v g → w.heap.size ≤ g) : Mx G w0 w' ((i, bytR l v) :: R) :=
  M.fresh h i _ hv zga fun g hg => ⟨hlo g hg, hv.lt hg⟩
theorem Mx.owns (M : Mx none w0 w R) (h : look R k = some (ownR l v)) : ∀ g, ofp v g → w0.heap.size ≤ g := fun g hg => (M.own k _ h rfl g hg).resolve_right fun e => by cases e
theorem Mx.nilO (M : Mx G w0 w R) (i : Nat) : Mx G w0 w ((i, ownR [] (zN)) :: R) :=
  M.cons i _ (Byt.nil w 0) ownR_dep (fun g hg => by cases hg) (fun _ g hg => by cases hg) (fun _ _ _ _ _ g hg => by cases hg)
theorem Mx.tame (M : Mx G w0 w R) (hk : look R k = some (ownR l v)) : Mx G w0 w ((k, bytR l v) :: R) :=
  M.cons k _ (M.isO hk) zga (fun g hg => M.lt k _ hk g (zfa hg)) (fun e => by cases e) fun j s e hj _ g hg => M.dis k j _ s hk e hj rfl g (zfa hg)
end
def ixV (v : Value) (i : Nat) : Value := match v with
  | .slice (some ad) _ _ => .pointer (some (ad.add i))
  | _ => undef
section
variable {a : Act} {w : World} {o : Oper} {l r : List UInt8} {v u : Value}
theorem zda (x : Operand) (ho : o.op = .call { callee := .builtin .len, args := #[x], argTypes := #[22] }) (hx : a.eval x = v) (hB : IsB w l v) {z : Int} (hz : (l.length : Int) = z) : (execOp a.eval o).run Try.prog w = .ok (.value (.int .i64 z)) w := by
  subst hz
  obtain ⟨A, c, h1, _⟩ := hB
  exact run_ln x _ ho (hx.trans h1) Try.underlying22
theorem y_ixB (x k : Operand) (ho : o.op = .indexAddr 22 x k) (hx : a.eval x = v) (hB : IsB w l v) {z : Int} {i : Nat} (hk : a.eval k = .int .i64 z) (hz : z = (i : Int)) (hi : i < l.length) : (execOp a.eval o).run Try.prog w = .ok (.value (ixV v i)) w := by
  subst hz
  obtain ⟨A, c, rfl, h1, h2, h3, h4⟩ := hB
  obtain ⟨b, q, rfl, hb, hc⟩ := h4.at (by omega)
  unfold execOp
  simp only [ho, hx, hk]
  have h0 : ¬ ((i : Int) < 0) := by omega
  have h5 : (i : Int) < (l.length : Int) := by omega
  simp [go_sem, h0, h5, hi, ixV, zta]
theorem y_ldB (x : Operand) (ho : o.op = .load 5 x) {i : Nat} (hx : a.eval x = ixV v i) (hB : IsB w l v) {b : UInt8} (hl : l[i]? = some b) {z : Int} (hz : ((b.toNat : Nat) : Int) = z) : (execOp a.eval o).run Try.prog w = .ok (.value (.int .u8 z)) w := by
  subst hz
  obtain ⟨A, c, rfl, h1, h2, h3, h4⟩ := hB
  obtain ⟨g, q, rfl, hb, hc⟩ := h4.at (by have := (List.getElem?_eq_some_iff.1 hl).1; omega)
  have hcell := hc i b hl
  have hx' : a.eval x = .pointer (some ⟨g, q + i, none⟩) := by rw [hx]; simp [ixV, zta]
  have h6 : (isAgg 5).run Try.prog w = .ok false w := by
    unfold isAgg
    simp only [Sem.run_bind, run_underlying Try.underlying5, Result.andThen_ok]
    rfl
  unfold execOp
  simp only [ho, hx', Instr.loadAt, Instr.sureAddr, loadVar, Sem.run_bind, Sem.run_pure, Result.andThen_ok, h6, Bool.false_eq_true, if_false]
  simp [hcell, Result.andThen]
theorem y_str (x : Operand) (ho : o.op = .convert 22 9 x) (hx : a.eval x = v) (hB : IsB w l v) : (execOp a.eval o).run Try.prog w = .ok (.value (.string ⟨l.toArray⟩)) w := by
  obtain ⟨A, c, rfl, h1, h2, h3, h4⟩ := hB
  exact run_cv' _ _ x ho hx (run_string_bytes w A l _ c rfl h4)
theorem elem_byt : Try.prog.elem 22 = 5 := by kernel_rfl
theorem size_byt (w : World) : (sizeOf 5).run Try.prog w = .ok 1 w := by
  obtain ⟨i, h1, h2, h3, _⟩ := info_u8
  simp [sizeOf, typeInfo, h1, h3]
def slV (A : Option Addr) (c i n : Nat) : Value := .slice (if c = i then A else A.map (·.add i)) n (c - i)
theorem slV_isB {A : Option Addr} {c i j : Nat} (h1 : l.length ≤ c) (h2 : c ≤ maxLen) (h3 : A = none → c = 0) (h4 : Rd w A l) (hi : i ≤ j) (hj : j ≤ l.length) : IsB w ((l.drop i).take (j - i)) (slV A c i (j - i)) := by
  have hn : ((l.drop i).take (j - i)).length = j - i := by simp; omega
  refine ⟨if c = i then A else A.map (·.add i), c - i, by unfold slV; rw [hn], by rw [hn]; omega, by omega, fun e => ?_, fun hp => ?_⟩
  · split at e
    · omega
    · rw [Option.map_eq_none_iff] at e; have := h3 e; omega
  · rw [hn] at hp
    obtain ⟨b, q, rfl, hb, hc⟩ := h4.at (by omega)
    rw [if_neg (by omega)]
    refine ⟨_, rfl, by simpa [zta] using hb, fun x y hy => ?_⟩
    have hy' : l[i + x]? = some y := by
      rw [List.getElem?_take] at hy
      split at hy
      · rwa [List.getElem?_drop] at hy
      · cases hy
    have := hc (i + x) y hy'
    simp only [zta]
    rwa [show q + i + x = q + (i + x) by omega]
theorem slV_fp {A : Option Addr} {c i n m k : Nat} (hn : n = 0 ∨ 0 < m) : ∀ g, bfp (slV A c i n) g → bfp (.slice A m k) g := fun g ⟨o, s, n', c', e, h⟩ => by
  unfold slV at e
  injection e with e1 e2 e3
  have hm : 0 < m := by omega
  split at e1
  · exact ⟨o, s, m, k, by rw [e1], hm⟩
  · cases A with
    | none => cases e1
    | some ad =>
      obtain ⟨b, q, t⟩ := ad
      simp only [Option.map_some, Option.some.injEq] at e1
      have : (⟨b, q, t⟩ : Addr).add i = ⟨g, o, s⟩ := e1
      have hb : ((⟨b, q, t⟩ : Addr).add i).block = b := by unfold Addr.add; split <;> rfl
      rw [this] at hb
      subst hb
      exact ⟨q, t, m, k, rfl, hm⟩
theorem under_byt : Try.prog.underlying 22 = some (.slice (Try.prog.elem 22)) := by rw [elem_byt]; exact Try.underlying22
theorem map_add0 (A : Option Addr) : A.map (·.add 0) = A := by
  cases A with
  | none => rfl
  | some a => simp [Addr.add]
theorem y_slFrom (x k : Operand) (ho : o.op = .slice 22 x (some k) none none) (hx : a.eval x = v) (hB : IsB w l v) {z : Int} {i : Nat} (hk : a.eval k = .int .i64 z) (hz : z = (i : Int)) (hi : i ≤ l.length) : ∃ u, (execOp a.eval o).run Try.prog w = .ok (.value u) w ∧ IsB w (l.drop i) u ∧ ∀ g, bfp u g → bfp v g := by
  subst hz
  obtain ⟨A, c, rfl, h1, h2, h3, h4⟩ := hB
  refine ⟨slV A c i (l.length - i), ?_, ?_, slV_fp (show l.length - i = 0 ∨ 0 < l.length by omega)⟩
  · unfold execOp
    simp only [ho, hx]
    simp only [Option.map_some, Option.map_none, hk]
    rw [Sem.run_bind, run_sliceAt_slice _ _ _ _ _ _ under_byt, run_slice_l _ _ _ _ _ under_byt .i64 i (by omega) (by omega), elem_byt, size_byt]
    simp only [Result.andThen_ok, sliced, Int.toNat_natCast, Nat.mul_one, slV, Sem.run_pure]
  · have := slV_isB (i := i) (j := l.length) h1 h2 h3 h4 hi (Nat.le_refl _)
    rwa [List.take_of_length_le (by simp)] at this
theorem y_slTo (x k : Operand) (ho : o.op = .slice 22 x none (some k) none) (hx : a.eval x = v) (hB : IsB w l v) {z : Int} {j : Nat} (hk : a.eval k = .int .i64 z) (hz : z = (j : Int)) (hj : j ≤ l.length) : ∃ u, (execOp a.eval o).run Try.prog w = .ok (.value u) w ∧ IsB w (l.take j) u ∧ ∀ g, bfp u g → bfp v g := by
  subst hz
  obtain ⟨A, c, rfl, h1, h2, h3, h4⟩ := hB
  have e0 : (if c = 0 then A else A.map (·.add 0)) = A := by split; · rfl
                                                             · exact map_add0 A
  refine ⟨slV A c 0 (j - 0), ?_, ?_, slV_fp (show j - 0 = 0 ∨ 0 < l.length by omega)⟩
  · unfold execOp
    simp only [ho, hx]
    simp only [Option.map_some, Option.map_none, hk]
    rw [Sem.run_bind, run_sliceAt_slice _ _ _ _ _ _ under_byt, run_slice_h _ _ _ _ _ under_byt .i64 j (by omega) (by omega), elem_byt, size_byt]
    simp only [Result.andThen_ok, sliced, Int.toNat_natCast, Nat.mul_one, slV, Sem.run_pure, Nat.sub_zero, e0, ite_self, map_add0]
  · have := slV_isB (i := 0) (j := j) h1 h2 h3 h4 (Nat.zero_le _) hj
    rwa [List.drop_zero] at this
theorem y_eqS {s t : ByteArray} {b : Bool} (x y : Operand) (tz : TypeId) (ho : o.op = .binOp .eql 9 x y tz) (hx : a.eval x = .string s) (hy : a.eval y = .string t) (hb : decide (s.toList = t.toList) = b) : (execOp a.eval o).run Try.prog w = .ok (.value (.bool b)) w := by
  subst hb
  unfold execOp
  simp only [ho, hx, hy]
  simp [go_sem]
  first | done | exact Bool.eq_iff_iff.2 (by simp)
theorem mk_toList (l : List UInt8) : (ByteArray.mk l.toArray).toList = l := by rw [ByteArray.toList_eq]
theorem str_eq {l r : List UInt8} (h : l = r) : decide ((⟨l.toArray⟩ : ByteArray).toList = (⟨r.toArray⟩ : ByteArray).toList) = true := by subst h; exact decide_eq_true rfl
theorem str_ne {l r : List UInt8} (h : ¬ l = r) : decide ((⟨l.toArray⟩ : ByteArray).toList = (⟨r.toArray⟩ : ByteArray).toList) = false := decide_eq_false (by rw [mk_toList, mk_toList]; exact h)
end
section
variable {P : Program} {ops : Array Oper} {Q : Exit → Act → World → Prop} {a : Act} {w w0 : World} {rest : List Oper} {o : Oper} {n : Nat} {G : Option Nat} {V : List (Nat × Value)} {R : List (Nat × Res)}
theorem wl_runE (hw : Region.wanted o (yielded ops a.tmps) = true) {d : Nat} (hd : o.dst = some d) (F : Fx n a V ds) (hn : Nat.blt d n = true) {Z : Value → Prop} (hr : ∃ v, (execOp a.eval o).run P w = .ok (.value v) w ∧ Z v)
    (h : ∀ v a', Z v → Fx n a' ((d, v) :: V) ds → wpList P ops Q rest a' w) : wpList P ops Q (o :: rest) a w := by
  obtain ⟨v, h1, h2⟩ := hr
  exact ze hw hd F hn v h1 fun a' F' => h v a' h2 F'
end
section
variable {P : Program} {ops : Array Oper} {Q : Exit → Act → World → Prop} {a : Act} {w w0 : World} {rest : List Oper} {o : Oper} {n : Nat} {V : List (Nat × Value)}
theorem wl_callV (hw : Region.wanted o (yielded ops a.tmps) = true) {d : Nat} (hd : o.dst = some d) (F : Fx n a V ds) (hn : Nat.blt d n = true) {f : FuncId} {args : Array Operand} {ts : Array TypeId} {t : Tmp} (ho : o.op = .call { callee := .value (.tmp t), args := args, argTypes := ts }) {lb : Array Value} (hf : a.eval (.tmp t) = .func (.func f) #[] lb)
    (hr : ∀ args w, (callFunc f args).run P w = .ok (.enter f args) w) (vals : Array Value) (hv : args.map a.eval ++ lb = vals) {Z : Value → World → Prop}
    (hc : Calls P f vals w fun e w' => ∃ v, e = .returned v ∧ Z v w')
    (h : ∀ v w' a', Z v w' → Fx n a' ((d, v) :: V) ds → wpList P ops Q rest a' w') : wpList P ops Q (o :: rest) a w :=
  wpList_want hw fun K hK => by
    subst hv
    unfold Oper.wp
    have : (execOp a.eval o).run P w = .ok (.enter f (args.map a.eval ++ lb)) w := by
      unfold execOp
      simp only [ho, resolve, hf]
      simp [invoke, go_sem, hr]
    rw [this]
    refine hc.mono fun e w' ⟨v, he, hb⟩ => ?_
    subst he
    have := F.put d v hn
    rw [← hd] at this
    exact hK _ _ (h _ _ _ hb this)
end
section
variable {ops : Array Oper} {Q : Exit → Act → World → Prop} {a : Act} {w w0 : World} {rest : List Oper} {o : Oper} {n : Nat} {G : Option Nat} {V : List (Nat × Value)} {R : List (Nat × Res)}
theorem run_app (M : Mx G w0 w R) {k : Nat} {l r : List UInt8} {v u : Value} (hk : look R k = some (ownR l v)) (s x : Operand)
    (ho : o.op = .call { callee := .builtin .append, args := #[s, x], argTypes := #[22, 22] }) (hs : a.eval s = v) (hx : a.eval x = u) (hu : IsB w r u) (hle : l.length + r.length ≤ 1000000) :
    ∃ v' w', (execOp a.eval o).run Try.prog w = .ok (.value v') w' ∧ Mx G w0 w' ((k, ownR (l ++ r) v') :: R) := by
  have hown : Byt w 0 v l := M.at_ k _ hk
  obtain ⟨v', w', hrun, hM⟩ : ∃ v' w', (Builtin.append_ #[22, 22] o.type #[v, u]).run Try.prog w = .ok v' w' ∧ Mx G w0 w' ((k, ownR (l ++ r) v') :: R) := by
    obtain ⟨i, hi1, hi2, hi3, hi4⟩ := info_u8
    obtain ⟨A, c, rfl, h1, h2, h3, hR⟩ := hu
    by_cases hm : 0 < r.length
    · cases A with
      | none => obtain ⟨ad, e, _⟩ := hR hm; cases e
      | some ad =>
        obtain ⟨g, cap, w', q1, q2, q3, q4, q5⟩ := run_append_lies (P := Try.prog) w 22 o.type 0 5 i (.int .u8 0) 1 1 Try.underlying22 hi1 hi2 hi3 hi4 rfl (by decide) v l.length (l.map bv) hown ad r.length c (r.map bv) (by simp) (fun j u hj => by
          rw [List.getElem?_map] at hj
          cases hb : r[j]? with
          | none => rw [hb] at hj; cases hj
          | some b =>
            rw [hb] at hj
            obtain rfl := Option.some.inj hj
            obtain ⟨ad', e, _, hcl⟩ := hR hm
            cases e
            exact hcl j b hb) (fun u hu => by obtain ⟨b, _, rfl⟩ := List.mem_map.1 hu; rfl) hm (by unfold maxLen; omega) (by omega) (Nat.zero_le _) _ rfl
        refine ⟨_, w', q1, M.write hk rfl q3 (fun _ e => e) _ ?_ ownR_dep fun b hb => ?_⟩
        · show Byt _ _ _ _
          unfold Byt
          rw [List.length_append, List.map_append]
          exact q2
        · obtain rfl : g = b := by simpa [ownR, ofp, Value.ownBlock] using hb
          exact ⟨q5, q4.imp id fun e => by rw [e]; exact Nat.le_refl _⟩
    · obtain rfl : r = [] := List.eq_nil_of_length_eq_zero (by omega)
      obtain ⟨A2, c2, e2, k1, k2, _⟩ := id hown.slice
      have hsrc : Go.Src Try.prog i.size 22 (.slice A 0 c) 0 [] w := by
        cases A with
        | none => exact Go.Src.ofNil w Try.underlying22 c
        | some ad => exact Go.Src.ofSlice w Try.underlying22 ad 0 c [] (by simp) (fun j u hu => by simp at hu) (fun u hu => by cases hu)
      have hrun := run_append_nothing (P := Try.prog) w 22 22 o.type 5 i Try.underlying22 hi1 A2 l.length c2 k1 (.slice A 0 c) hsrc
      refine ⟨v, w, by rw [e2]; exact hrun, ?_⟩
      rw [List.append_nil]
      exact M.drop fun j t e => by
        rw [look_cons] at e; split at e
        · rename_i hj; cases e; subst hj; exact hk
        · exact e
  refine ⟨v', w', ?_, hM⟩
  unfold execOp
  simp only [ho, resolve, invoke, builtin, Sem.run_bind, Sem.run_pure, Result.andThen_ok, List.map_toArray, List.map_cons, List.map_nil, hs, hx, hrun]
theorem run_litO (M : Mx G w0 w R) (i : Nat) (zs : List UInt8) (m : Nat) (hm : zs.length = m) (h00 : 0 < m) (h1 : m ≤ 1000) {ps : Array (Nat × Operand)} (ho : o.op = .buildSlice 22 m ps)
    (hf : Instr.fill (fun i => some (i * 1, 1)) ((Array.range (m * 1)).map ((Value.int .u8 0).cells[· % (Value.int .u8 0).cells.size]!)) (ps.map fun (i, x) => (i, a.eval x)).toList = some (bvs zs)) :
    ∃ v w', (execOp a.eval o).run Try.prog w = .ok (.value v) w' ∧ Mx G w0 w' ((i, ownR zs v) :: R) := by
  obtain ⟨f, f1, f2, f3, _⟩ := info_u8
  subst hm
  have h0 : ¬ zs.length * f.size = 0 := by rw [f3]; omega
  refine ⟨.slice (some ⟨w.heap.size, 0, none⟩) zs.length zs.length, w.alloc (.cells (bvs zs) 5), ?_, M.newO (zfb w _) i ?_⟩
  · unfold execOp
    simp only [ho, Sem.run_bind, run_buildSlice w 22 5 zs.length _ (bvs zs) f (.int .u8 0) Try.underlying22 f1 f2 (by rw [f3]; omega) h0 (by rw [f3]; exact hf), Result.andThen_ok, Sem.run_pure]
  · refine ⟨by simp, .inr ⟨w.heap.size, zs.length, bvs zs, rfl, Nat.le_refl _, heap_alloc_new w _, Nat.le_refl _, by unfold maxLen; omega, by simp [bvs], ?_⟩⟩
    simp only [bvs, Nat.mul_one]
    exact List.take_of_length_le (by simp)
theorem run_lit0 (M : Mx G w0 w R) (i : Nat) (ho : o.op = .buildSlice 22 0 #[]) :
    ∃ v w', (execOp a.eval o).run Try.prog w = .ok (.value v) w' ∧ Mx G w0 w' ((i, ownR [] v) :: R) := by
  refine ⟨.slice (some ⟨w.heap.size, 0, none⟩) 0 0, w.alloc (.cells #[] 5), ?_, M.newO (zfb w _) i ⟨by simp, .inr ⟨w.heap.size, 0, #[], rfl, Nat.le_refl _, heap_alloc_new w _, Nat.le_refl _, by unfold maxLen; omega, by simp, by simp⟩⟩⟩
  unfold execOp
  simp only [ho, List.map_toArray, List.map_nil]
  kernel_rfl
end
theorem resCT {P : Program} {fn : Func} {p q : Tmp} {ty : TypeId} (h : fn.results = #[.cell p ty, .tmp q]) {a : Act} {w : World} {g : Nat} {t : TypeId} {c : Array Value} {x : Value} {d : TypeDesc}
    (hp : a.eval (.tmp p) = .pointer (some ⟨g, 0, none⟩)) (hg : w.heap[g]? = some (.cells c t (0, 0))) (hq : a.eval (.tmp q) = x) (hu : P.underlying ty = some d) (hd : yPlain d = false) (hi : (P.info? ty).map (·.size) = some c.size) : (results fn a.tmps).run P w = .ok (.tuple #[.agg c, x]) w := by
  have hp' : a.tmps[p]?.getD undef = .pointer (some ⟨g, 0, none⟩) := by simpa [Act.eval] using hp
  have hq' : a.tmps[q]?.getD undef = x := by simpa [Act.eval] using hq
  cases d with
  | struct fs => simp [results, h, hp', hq', asAddr, run_loadVar_row w g t ty c (0, 0) _ hg hu rfl hi]
  | array n e => simp [results, h, hp', hq', asAddr, run_loadVar_row w g t ty c (0, 0) _ hg hu rfl hi]
  | _ => cases hd
end Go.Proofs.Ytlbkogdmojlpmaa
namespace Go.Proofs.Ytlbkogdmojlpmaa
open Go.ChangeShapes Go.WideShapes Go.ChangeAt Go.RowKit Go.Shelf
variable {ds : List Deferred}
theorem IsB.shape {w : World} {l : List UInt8} {v : Value} (h : IsB w l v) : ∃ A c, v = .slice A l.length c := by
  obtain ⟨A, c, e, _⟩ := h
  exact ⟨A, c, e⟩
theorem IsB.cap {w : World} {l : List UInt8} {A : Option Addr} {n c : Nat} (h : IsB w l (.slice A n c)) : l.length ≤ c ∧ c ≤ maxLen ∧ (A = none → c = 0) ∧ Rd w A l ∧ n = l.length := by
  obtain ⟨A', c', e, h1, h2, h3, h4⟩ := h
  injection e with e1 e2 e3
  subst e1 e2 e3
  exact ⟨h1, h2, h3, h4, rfl⟩
section
variable {G : Option Nat} {w0 w w' : World} {R : List (Nat × Res)} {l r : List UInt8} {v u : Value} {i k : Nat} {a : Act} {o : Oper}
theorem run_makeO (M : Mx G w0 w R) (i : Nat) (x y : Operand) (ho : o.op = .makeSlice 22 x y) {z : Int} (n : Nat) (hx : a.eval x = .int .i64 z) (hy : a.eval y = .int .i64 z) (hz : z = (n : Int)) (hn : n ≤ 1000) :
    ∃ v w', (execOp a.eval o).run Try.prog w = .ok (.value v) w' ∧ Mx G w0 w' ((i, ownR (List.replicate n 0) v) :: R) := by
  subst hz
  obtain ⟨f, f1, f2, f3, f4⟩ := info_u8
  refine ⟨.slice (some ⟨w.heap.size, 0, none⟩) n n, w.alloc (.cells (madeCells #[.int .u8 0] n) 5), ?_, M.newO (zfb w _) i ?_⟩
  · have h := run_make_row (w := w) 22 5 f (.int .u8 0) Try.underlying22 f1 f2 f3 rfl .i64 .i64 n (by rw [f4]; omega) (by omega)
    unfold execOp
    simp only [ho, hx, hy, Sem.run_bind, h, Result.andThen_ok, Sem.run_pure]
  · obtain ⟨c, hb, hs, hc⟩ := World.rowIs_made w (.int .u8 0) n 5
    refine ⟨by simp, .inr ⟨w.heap.size, n, c, by rw [List.length_replicate], Nat.le_refl _, hb, by rw [List.length_replicate]; exact Nat.le_refl _, by unfold maxLen; omega, by omega, ?_⟩⟩
    apply List.ext_getElem?
    intro i
    rw [List.length_replicate, Nat.mul_one, List.getElem?_take, List.map_replicate]
    by_cases hi : i < n
    · rw [if_pos hi, List.getElem?_replicate, if_pos hi]
      have := hc i hi
      rw [← Array.getElem?_toList] at this
      exact this
    · rw [if_neg hi, List.getElem?_replicate, if_neg hi]
theorem run_setO (M : Mx G w0 w R) (hk : look R k = some (ownR l v)) (x y : Operand) (ho : o.op = .store 5 x y) {j : Nat} (hx : a.eval x = ixV v j) {z : Int} (b : UInt8) (hy : a.eval y = .int .u8 z) (hz : z = (b.toNat : Int)) (hj : j < l.length) :
    ∃ w', (execOp a.eval o).run Try.prog w = .ok .skip w' ∧ Mx G w0 w' ((k, ownR (l.set j b) v) :: R) := by
  subst hz
  have hown : Byt w 0 v l := M.at_ k _ hk
  rcases id hown.2 with ⟨e, h0⟩ | ⟨g, c, cur, e, hbg, hg, hn, hc, hs, ht⟩
  · omega
  · subst e
    have hi : (Try.prog.info? 5).map (·.size) = some 1 := by kernel_rfl
    refine ⟨w.setRow g (cur.toList.take j ++ [bv b] ++ cur.toList.drop (j + 1)).toArray, ?_, ?_⟩
    · refine y_st 5 x y ho (g := g) (k := j) (by rw [hx]; simp [ixV, zta]) hy hg #[.int .u8 (b.toNat : Int)] _ (by rfl) (by simp; omega) (by simp [Value.oneCell']) ?_ hi
      simp [bv]
    · refine M.write hk rfl (zqb _ _ _) (fun _ e => e) _ ?_ ownR_dep fun q hq => ?_
      · refine ⟨by simp, .inr ⟨g, c, _, by rw [List.length_set], Nat.zero_le _, setRow_heap w g cur _ 5 (0, 0) hg, by rw [List.length_set]; exact hn, hc, ?_, ?_⟩⟩
        · simp; omega
        · have hlc : l.length ≤ cur.toList.length := by simp; omega
          apply List.ext_getElem?
          intro q
          rw [List.length_set, Nat.mul_one]
          have ht' : ∀ q : Nat, (cur.toList.take (l.length * 1))[q]? = (l.map bv)[q]? := fun q => by rw [ht]
          simp only [List.getElem?_take, List.getElem?_map, List.getElem?_set, Nat.mul_one] at ht' ⊢
          have := ht' q
          by_cases h1 : q < l.length
          · rw [if_pos h1] at this ⊢
            by_cases h2 : j = q
            · subst h2
              rw [if_pos rfl, if_pos hj]
              have h3 : (cur.toList.take j).length = j := by rw [List.length_take]; omega
              rw [List.append_assoc, List.getElem?_append_right (by omega), h3]
              simp
            · rw [if_neg h2, ← this]
              have h3 : (cur.toList.take j).length = j := by rw [List.length_take]; omega
              by_cases h4 : q < j
              · rw [List.append_assoc, List.getElem?_append_left (by omega), List.getElem?_take, if_pos h4]
              · rw [List.getElem?_append_right (by rw [List.length_append, h3]; simp; omega), List.length_append, h3]
                simp only [List.length_cons, List.length_nil, List.getElem?_drop]
                congr 1
                omega
          · rw [if_neg h1, if_neg (by omega), List.getElem?_eq_none (by omega)]; rfl
      · obtain rfl : g = q := by simpa [ownR, ofp, Value.ownBlock] using hq
        refine ⟨?_, .inl rfl⟩
        have : (w.setRow g (cur.toList.take j ++ [bv b] ++ cur.toList.drop (j + 1)).toArray).heap[g]? = some (.cells _ 5 (0, 0)) := setRow_heap w g cur _ 5 (0, 0) hg
        exact heap_lt this
end
section
variable {a : Act} {w : World} {o : Oper} {s : ByteArray} {z : Int}
theorem y_lenS (x : Operand) (ho : o.op = .call { callee := .builtin .len, args := #[x], argTypes := #[9] }) (hx : a.eval x = .string s) (hz : (s.size : Int) = z) : (execOp a.eval o).run Try.prog w = .ok (.value (.int .i64 z)) w := by
  subst hz
  simp only [execOp, ho, resolve, Sem.run_bind, Sem.run_pure, Result.andThen_ok, invoke, List.map_toArray, List.map_cons, List.map_nil, hx]
  simp [builtin, go_sem, Builtin.len_, run_underlying Try.underlying9, Result.andThen, goInt]
theorem y_nilB (x : Operand) (tz : TypeId) (ho : o.op = .binOp .eql 22 x (.const (zN)) tz) {A : Option Addr} {n c : Nat} (hx : a.eval x = .slice A n c) {b : Bool} (hb : A.isNone = b) : (execOp a.eval o).run Try.prog w = .ok (.value (.bool b)) w := by
  subst hb
  have h1 : (binOp .eql 22 (.slice A n c) (zN)).run Try.prog w = .ok (.bool A.isNone) w := by
    simp only [binOp]
    simp [run_equal_slice_nil w _ _ _ _ _ Try.underlying22]
  unfold execOp
  simp only [ho, hx, Sem.run_bind]
  rw [show a.eval (.const (zN)) = zN from rfl]
  have h2 : (eqGuard .eql 22 x (.const (zN)) (.slice A n c) (zN)).run Try.prog w = .ok () w := by
    have hgt : Try.prog.eqGuardType Try.prog.depth 22 = false := by kernel_rfl
    simp [eqGuard, go_sem, hgt]
  rw [h2]
  simp only [Result.andThen_ok, h1]
  rfl
end
section
variable {P : Program} {ops : Array Oper} {Q : Exit → Act → World → Prop} {a : Act} {w w0 : World} {rest : List Oper} {o : Oper} {n : Nat} {G : Option Nat} {V : List (Nat × Value)}
theorem zpa (hw : Region.wanted o (yielded ops a.tmps) = true) {d : Nat} (hd : o.dst = some d) (F : Fx n a V ds) (hn : Nat.blt d n = true) {Rf : Value → List (Nat × Res)} (hr : ∃ v w', (execOp a.eval o).run P w = .ok (.value v) w' ∧ Mx G w0 w' (Rf v))
    (h : ∀ v a' w', Fx n a' ((d, v) :: V) ds → Mx G w0 w' (Rf v) → wpList P ops Q rest a' w') : wpList P ops Q (o :: rest) a w := by
  obtain ⟨v, w', h1, h2⟩ := hr
  exact ze hw hd F hn v h1 fun a' F' => h v a' w' F' h2
theorem wl_doM (hw : Region.wanted o (yielded ops a.tmps) = true) (hd : o.dst = none) (F : Fx n a V ds) {R' : List (Nat × Res)} (hr : ∃ w', (execOp a.eval o).run P w = .ok .skip w' ∧ Mx G w0 w' R')
    (h : ∀ w', Mx G w0 w' R' → wpList P ops Q rest a w') : wpList P ops Q (o :: rest) a w := by
  obtain ⟨w', h1, h2⟩ := hr
  exact wl_do hw hd F h1 (h w' h2)
end
def zx (z : Int) : UInt8 := UInt8.ofNat (z % 256).toNat
theorem zpb (z : Int) : (((zx z).toNat : Nat) : Int) = z % 256 := by
  have h : (zx z).toNat = (z % 256).toNat := by unfold zx; simp; omega
  rw [h]; omega
theorem z7a (z : Int) : IntKind.u8.wrap z = (((zx z).toNat : Nat) : Int) := by rw [zpb, IntKind.wrap_u8]
theorem zob (b : UInt8) : IntKind.i64.wrap ((b.toNat : Nat) : Int) = ((b.toNat : Nat) : Int) := by
  have hb := b.toNat_lt
  rw [IntKind.wrap_i64]; omega
section
variable {G : Option Nat} {w0 w : World} {R : List (Nat × Res)} {a : Act} {o : Oper}
def bytN (N : Nat) (l : List UInt8) (v : Value) : Res := ⟨false, bfp v, fun w => IsB w l v ∧ ∀ g, bfp v g → N ≤ g⟩
theorem Mx.frN (M : Mx G w0 w R) {k N : Nat} {l : List UInt8} {v : Value} (h : look R k = some (bytN N l v)) : ∀ g, bfp v g → N ≤ g := (M.at_ k _ h).2
theorem Mx.unN (M : Mx G w0 w R) {k N : Nat} {l : List UInt8} {v : Value} (h : look R k = some (bytN N l v)) : Mx G w0 w ((k, bytR l v) :: R) :=
  M.cons k _ (M.at_ k _ h).1 zga (fun g hg => M.lt k _ h g hg) (fun e => by cases e) fun j s e hj hh g hg hg2 => by
    rcases hh with hh | hh
    · cases hh
    · exact M.dis j k s _ e h (fun e2 => hj e2.symm) hh g hg2 hg
def sBy (s : ByteArray) : List UInt8 := s.data.toList
theorem sBy_len (s : ByteArray) : (sBy s).length = s.size := by unfold sBy; rw [Array.length_toList]; rfl
theorem run_cvS (M : Mx G w0 w R) (i : Nat) (x : Operand) (ho : o.op = .convert 9 22 x) {s : ByteArray} (hx : a.eval x = .string s) (hs : s.size ≤ 1000000) :
    ∃ v w', (execOp a.eval o).run Try.prog w = .ok (.value v) w' ∧ Mx G w0 w' ((i, bytN w0.heap.size (sBy s) v) :: R) := by
  have hc := grownCap_ge w s.size 0 5
  have hm := grownCap_le_maxLen w s.size 0 5 (by unfold maxLen; omega)
  obtain ⟨w', hw'⟩ : ∃ w', w' = w.drew.alloc (.cells (bytesRow s (grownCap w s.size 0 5)) 5 ((bytesRow s (grownCap w s.size 0 5)).size, (bytesRow s (grownCap w s.size 0 5)).size + 1)) := ⟨_, rfl⟩
  have hh : w'.heap[w.heap.size]? = some (.cells (bytesRow s (grownCap w s.size 0 5)) 5 ((bytesRow s (grownCap w s.size 0 5)).size, (bytesRow s (grownCap w s.size 0 5)).size + 1)) := by
    rw [hw']; exact heap_alloc_new w.drew _
  refine ⟨.slice (some ⟨w.heap.size, 0, none⟩) s.size (grownCap w s.size 0 5), w', ?_, M.fresh (by rw [hw']; exact (zva w).trans (zfb w.drew _)) i _ ⟨?_, ?_⟩ (fun u u' hs h => ⟨IsB.same hs h.1, h.2⟩) ?_⟩
  · have h := run_bytes_of_string w 9 22 5 s Try.underlying9 Try.underlying22 Try.underlying5
    rw [hw']
    exact run_cv' _ _ x ho hx h
  · refine ⟨_, _, by rw [sBy_len], by rw [sBy_len]; exact hc, hm, (fun e => by cases e), fun _ => ⟨_, rfl, heap_lt hh, fun j b hj => ?_⟩⟩
    rw [zta, Nat.zero_add]
    have hl := (List.getElem?_eq_some_iff.1 hj).1
    rw [sBy_len] at hl
    have hcell : (bytesRow s (grownCap w s.size 0 5))[j]? = some (bv b) := by
      unfold bytesRow sBy at *
      rw [Array.getElem?_append]
      rw [if_pos (by simpa using hl)]
      rw [Array.getElem?_toList] at hj
      simp [hj, bv]
    simp [World.cell?, hh, hcell]
  · rintro g ⟨q, s', n, c, e, _⟩
    injection e with e
    injection e with e
    injection e with e
    have := M.le
    omega
  · rintro g ⟨q, s', n, c, e, _⟩
    injection e with e
    injection e with e
    injection e with e
    subst e
    exact ⟨Nat.le_refl _, heap_lt hh⟩
end
end Go.Proofs.Ytlbkogdmojlpmaa
namespace Go.Proofs.Ytlbkogdmojlpmaa
open Go.ChangeShapes Go.WideShapes Go.ChangeAt Go.RowKit Go.Shelf
variable {ds : List Deferred}
theorem rn {P : Program} {ops : Array Oper} {Q : Exit → Act → World → Prop} {a : Act} {w : World} {rest : List Oper} {o : Oper} {n : Nat} {V : List (Nat × Value)} (hg : o.guard = none) {d : Nat} (hd : o.dst = some d) (F : Fx n a V ds) (hn : Nat.blt d n = true) (v : Value) (hr : (execOp a.eval o).run P w = .ok (.value v) w)
    (h : ∀ a', Fx n a' ((d, v) :: V) ds → wpList P ops Q rest a' w) : wpList P ops Q (o :: rest) a w := ze (za hg) hd F hn v hr h
def evO (V : Nat → Option Value) : Operand → Option Value
  | .tmp t => V t
  | .const v => some v
  | _ => none
theorem zxa {a : Act} {V : Nat → Option Value} (F : ∀ t v, V t = some v → a.eval (.tmp t) = v) : ∀ {x : Operand} {v : Value}, evO V x = some v → a.eval x = v
  | .tmp t, v, h => F t v h
  | .const c, v, h => by cases h; rfl
  | .global _, _, h => by cases h
  | .func _, _, h => by cases h
def offF (P : Program) (s : TypeId) (f : Nat) : Option Nat := match P.underlying s with
  | some (.struct fs) => match fs[f]? with
    | some fd => match P.info? fd.type with
      | some inf => match Nat.beq inf.size 0 with
        | true => none
        | false => some fd.offset
      | none => none
    | none => none
  | _ => none
def plV (P : Program) (V : Nat → Option Value) (D : List (Nat × Array Value)) (o : Oper) (i : Nat) : Option (Value × Option (Nat × Nat)) := match o.op with
  | .move x => (evO V x).map fun v => (v, none)
  | .assign x => (evO V x).map fun v => (v, none)
  | .pick c x y => match evO V c with
    | some (.bool true) => (evO V x).map fun v => (v, none)
    | some (.bool false) => (evO V y).map fun v => (v, none)
    | _ => none
  | .extract x k => match evO V x with
    | some (.tuple vs) => (vs[k]?).map fun v => (v, none)
    | _ => none
  | .unOp .not _ x => match evO V x with
    | some (.bool b) => some (.bool (!b), none)
    | _ => none
  | .binOp b ty x y _ => match evO V x, evO V y with
    | some (.int k p), some (.int k' q) => match decEq k k' with
      | .isTrue _ => match b with
        | .lss => some (.bool (decide (p < q)), none)
        | .leq => some (.bool (decide (p ≤ q)), none)
        | .gtr => some (.bool (decide (q < p)), none)
        | .geq => some (.bool (decide (q ≤ p)), none)
        | .eql => match P.underlying ty with
          | some (.int k2) => match decEq k2 k with
            | .isTrue _ => some (.bool (p == q), none)
            | .isFalse _ => none
          | _ => none
        | .neq => match P.underlying ty with
          | some (.int k2) => match decEq k2 k with
            | .isTrue _ => some (.bool (p != q), none)
            | .isFalse _ => none
          | _ => none
        | _ => none
      | .isFalse _ => none
    | _, _ => none
  | .nilCheck x => match evO V x with
    | some (.pointer (some p)) => some (.pointer (some p), none)
    | _ => none
  | .fieldAddr s x f => match evO V x, offF P s f with
    | some (.pointer (some ⟨g, k, none⟩)), some off => some (.pointer (some ⟨g, k + off, none⟩), none)
    | _, _ => none
  | .load ty x => match evO V x, D[i]?, P.underlying ty with
    | some (.pointer (some ⟨g, k, none⟩)), some (g', c), some d => match yPlain d with
      | true => (c[k]?).map fun v => (v, some (g, g'))
      | false => match P.info? ty with
        | some inf => match Nat.ble (k + inf.size) c.size with
          | true => some (.agg (((c.toList.drop k).take inf.size).toArray), some (g, g'))
          | false => none
        | none => none
    | _, _, _ => none
  | _ => none
def wnV (ops : Array Oper) (V : Nat → Option Value) (o : Oper) : Option Bool := match o.guard with
  | none => some true
  | some (g, b) => match (ops[g]?).bind (·.dst) with
    | none => none
    | some d => match V d with
      | some (.bool c) => some (c == b)
      | some (.tuple vs) => match Nat.beq vs.size 0 with
        | true => some false
        | false => none
      | _ => none
theorem off_ok {P : Program} {s : TypeId} {f off : Nat} (h : offF P s f = some off) (w : World) (g k : Nat) : (Instr.fieldAt s (.pointer (some ⟨g, k, none⟩)) f).run P w = .ok (.pointer (some ⟨g, k + off, none⟩)) w := by
  unfold offF at h
  split at h
  · rename_i fs hu
    split at h
    · rename_i fd hf
      split at h
      · rename_i inf hi
        split at h
        · cases h
        · rename_i hz
          cases h
          have hz' : ¬ inf.size = 0 := fun e => by rw [e] at hz; cases hz
          have hadd : (⟨g, k, none⟩ : Addr).add fd.offset = ⟨g, k + fd.offset, none⟩ := zta g k fd.offset
          simp [Instr.fieldAt, run_underlying hu, hf, Instr.sureAddr, fieldPlace, sizeOf, typeInfo, hi, hz', hadd, Result.andThen]
      · cases h
    · cases h
  · cases h
theorem y_fa {P : Program} {a : Act} {w : World} {o : Oper} {s : TypeId} {x : Operand} {f : Nat} (ho : o.op = .fieldAddr s x f) {g k off k' : Nat} (hx : a.eval x = .pointer (some ⟨g, k, none⟩)) (hoff : offF P s f = some off) (hk : k + off = k') : (execOp a.eval o).run P w = .ok (.value (.pointer (some ⟨g, k', none⟩))) w := by
  subst hk
  unfold execOp
  simp only [ho, hx, Sem.run_bind, off_ok hoff, Result.andThen_ok, Sem.run_pure]
def mvV (V : Nat → Option Value) (n : Nat) (ops : Array Oper) (o : Oper) : Option (Nat × Value) := match o.dst with
  | some d => match Nat.blt d n with
    | true => match wnV ops V o with
      | some true => match o.op with
        | .move x => match evO V x with
          | some v => some (d, v)
          | none => none
        | .assign x => match evO V x with
          | some v => some (d, v)
          | none => none
        | _ => none
      | some false => some (d, undef)
      | none => none
    | false => none
  | none => none
def DAll (w : World) : List (Nat × Array Value) → Prop
  | [] => True
  | p :: L => (∃ t, w.heap[p.1]? = some (.cells p.2 t (0, 0))) ∧ DAll w L
theorem dnil {w : World} : DAll w [] := trivial
theorem zk {w : World} {g : Nat} {c : Array Value} {t : TypeId} {L : List (Nat × Array Value)} (h : w.heap[g]? = some (.cells c t (0, 0))) (hL : DAll w L) : DAll w ((g, c) :: L) := ⟨⟨t, h⟩, hL⟩
theorem DAll.below {w w' : World} (h : Below w.heap.size w w') : ∀ {D : List (Nat × Array Value)}, DAll w D → DAll w' D
  | [], _ => trivial
  | p :: L, hD => ⟨hD.1.elim fun t ht => ⟨t, (h.block _ (Array.getElem?_eq_some_iff.1 ht).1).trans ht⟩, DAll.below h hD.2⟩
theorem DAll.at {w : World} : ∀ {D : List (Nat × Array Value)}, DAll w D → ∀ {i g : Nat} {c : Array Value}, D[i]? = some (g, c) → ∃ t, w.heap[g]? = some (.cells c t (0, 0))
  | [], _, i, g, c, h => by cases h
  | p :: L, hD, 0, g, c, h => by cases h; exact hD.1
  | p :: L, hD, i + 1, g, c, h => hD.2.at (i := i) (by simpa using h)
section
variable {n : Nat} {a : Act} {w : World} {V : Nat → Option Value} {D : List (Nat × Array Value)} {o : Oper}
theorem plV_ok (F : ∀ t v, V t = some v → a.eval (.tmp t) = v) (hD : DAll w D) {i : Nat} {v : Value} {e : Option (Nat × Nat)} (h : plV Try.prog V D o i = some (v, e)) (he : ∀ g g', e = some (g, g') → g = g') : (execOp a.eval o).run Try.prog w = .ok (.value v) w := by
  unfold plV at h
  split at h
  · rename_i x ho
    cases hx : evO V x with
    | none => rw [hx] at h; cases h
    | some u => rw [hx] at h; cases h; exact zka x (.inl ho) (zxa F hx)
  · rename_i x ho
    cases hx : evO V x with
    | none => rw [hx] at h; cases h
    | some u => rw [hx] at h; cases h; exact zka x (.inr ho) (zxa F hx)
  · rename_i c x y ho
    split at h
    · rename_i hc
      cases hx : evO V x with
      | none => rw [hx] at h; cases h
      | some u => rw [hx] at h; cases h; exact znb ho (zxa F hc) (zxa F hx)
    · rename_i hc
      cases hx : evO V y with
      | none => rw [hx] at h; cases h
      | some u => rw [hx] at h; cases h; exact run_pick_f ho (zxa F hc) (zxa F hx)
    · cases h
  · rename_i x k ho
    split at h
    · rename_i vs hx
      cases hv : vs[k]? with
      | none => rw [hv] at h; cases h
      | some u => rw [hv] at h; cases h; exact y_ext x k ho (zxa F hx) hv
    · cases h
  · rename_i t x ho
    split at h
    · rename_i b hx
      cases h; exact run_not t x ho (zxa F hx)
    · cases h
  · rename_i b ty x y tz ho
    split at h
    · rename_i k p k' q hx hy
      split at h
      · rename_i ek hek
        subst ek
        split at h
        · cases h; exact z2a _ _ _ _ ho (zxa F hx) (zxa F hy) rfl
        · cases h; exact z8 _ _ _ _ ho (zxa F hx) (zxa F hy) rfl
        · cases h; exact y_gtr _ _ _ _ ho (zxa F hx) (zxa F hy) rfl
        · cases h; exact y_geq _ _ _ _ ho (zxa F hx) (zxa F hy) rfl
        · split at h
          · rename_i k2 hu
            split at h
            · rename_i e2 _
              subst e2
              cases h; exact zp _ _ _ _ ho (zxa F hx) (zxa F hy) hu rfl
            · cases h
          · cases h
        · split at h
          · rename_i k2 hu
            split at h
            · rename_i e2 _
              subst e2
              cases h; exact y_neI _ _ _ _ ho (zxa F hx) (zxa F hy) hu rfl
            · cases h
          · cases h
        · cases h
      · cases h
    · cases h
  · rename_i x ho
    split at h
    · rename_i p hx
      cases h
      unfold execOp
      simp only [ho, zxa F hx]
      rfl
    · cases h
  · rename_i s x f ho
    split at h
    · rename_i g k off hx hoff
      cases h
      unfold execOp
      simp only [ho, zxa F hx, Sem.run_bind, off_ok hoff, Result.andThen_ok, Sem.run_pure]
    · cases h
  · rename_i ty x ho
    split at h
    · rename_i g k g' c d hx hd hu
      split at h
      · rename_i hp
        cases hv : c[k]? with
        | none => rw [hv] at h; cases h
        | some u =>
          rw [hv] at h
          cases h
          have eg := he _ _ rfl
          subst eg
          obtain ⟨t, hg⟩ := hD.at hd
          exact y_ld1 ty x ho (zxa F hx) hg hv hu hp
      · rename_i hp
        split at h
        · rename_i inf hi
          split at h
          · rename_i hle
            cases h
            have eg := he _ _ rfl
            subst eg
            obtain ⟨t, hg⟩ := hD.at hd
            have hle' : k + inf.size ≤ c.size := Nat.le_of_ble_eq_true hle
            refine zja ty x ho (zxa F hx) hg _ (fun j u hj => ?_) hu hp (by rw [hi]; simp; omega)
            simp only [List.getElem?_toArray, List.getElem?_take, List.getElem?_drop, Array.getElem?_toList] at hj
            split at hj
            · exact hj
            · cases hj
          · cases h
        · cases h
    · cases h
  · cases h
variable {ops : Array Oper}
theorem wnV_ok (F : ∀ t v, V t = some v → a.eval (.tmp t) = v) {b : Bool} (h : wnV ops V o = some b) : Region.wanted o (yielded ops a.tmps) = b := by
  unfold wnV at h
  split at h
  · rename_i hg
    cases h
    exact za hg
  · rename_i g c hg
    split at h
    · cases h
    · rename_i d hd
      cases ho : ops[g]? with
      | none => rw [ho] at hd; cases hd
      | some og =>
        rw [ho] at hd
        have hd : og.dst = some d := hd
        split at h
        · rename_i x hx
          cases h
          exact wanted_by hg ho hd (F d _ hx)
        · rename_i vs hx
          split at h
          · rename_i hz
            cases h
            have e : vs = #[] := Array.eq_empty_of_size_eq_zero (Nat.eq_of_beq_eq_true hz)
            subst e
            exact wanted_un hg ho hd (F d _ hx)
          · cases h
        · cases h
theorem rm {Q : Exit → Act → World → Prop} {V : List (Nat × Value)} {rest : List Oper} {d : Nat} {v : Value} (h : mvV (look V) n ops o = some (d, v)) (F : Fx n a V ds) (hc : ∀ a', Fx n a' ((d, v) :: V) ds → wpList Try.prog ops Q rest a' w) : wpList Try.prog ops Q (o :: rest) a w := by
  unfold mvV at h
  split at h
  · rename_i e hd
    split at h
    · rename_i hn
      split at h
      · rename_i hw
        split at h
        · rename_i x ho
          split at h
          · rename_i u hx
            cases h
            exact ze (wnV_ok F.at_ hw) hd F hn v (zka x (.inl ho) (zxa F.at_ hx)) hc
          · cases h
        · rename_i x ho
          split at h
          · rename_i u hx
            cases h
            exact ze (wnV_ok F.at_ hw) hd F hn v (zka x (.inr ho) (zxa F.at_ hx)) hc
          · cases h
        · cases h
      · rename_i hw
        cases h
        exact wl_skip (wnV_ok F.at_ hw) hd F hn hc
      · cases h
    · cases h
  · cases h
end
def exV (P : Program) (n : Nat) (ops : Array Oper) (D : List (Nat × Array Value)) : List Oper → List Nat → List (Nat × Value) → Option (List (Nat × Value) × List (Nat × Nat))
  | [], _, V => some (V, [])
  | o :: r, Ls, V => match o.dst with
    | none => none
    | some d => match Nat.blt d n with
      | false => none
      | true => match wnV ops (look V) o with
        | some true => match plV P (look V) D o (Ls.headD 0) with
          | some (v, none) => exV P n ops D r Ls ((d, v) :: V)
          | some (v, some e) => match exV P n ops D r Ls.tail ((d, v) :: V) with
            | some (V2, E) => some (V2, e :: E)
            | none => none
          | none => none
        | some false => exV P n ops D r Ls ((d, undef) :: V)
        | none => none
section
variable {n : Nat} {w : World} {D : List (Nat × Array Value)} {ops : Array Oper} {Q : Exit → Act → World → Prop}
theorem exV_ok (hD : DAll w D) : ∀ (l : List Oper) (Ls : List Nat) (V V2 : List (Nat × Value)) (E : List (Nat × Nat)) (rest : List Oper) (a : Act), exV Try.prog n ops D l Ls V = some (V2, E) → (∀ p ∈ E, p.1 = p.2) → Fx n a V ds →
    (∀ a', Fx n a' V2 ds → wpList Try.prog ops Q rest a' w) → wpList Try.prog ops Q (l ++ rest) a w
  | [], _, V, V2, E, rest, a, h, _, F, hc => by cases h; exact hc a F
  | o :: r, Ls, V, V2, E, rest, a, h, he, F, hc => by
    unfold exV at h
    split at h
    · cases h
    · rename_i d hd
      split at h
      · cases h
      · rename_i hn
        split at h
        · rename_i hw
          split at h
          · rename_i v hv
            exact ze (wnV_ok F.at_ hw) hd F hn v (plV_ok F.at_ hD hv (fun _ _ e => by cases e)) fun a' F' => exV_ok hD r Ls _ V2 E rest a' h he F' hc
          · rename_i v e hv
            split at h
            · rename_i V3 E3 h3
              cases h
              refine ze (wnV_ok F.at_ hw) hd F hn v (plV_ok F.at_ hD hv (fun g g' eq => ?_)) fun a' F' => exV_ok hD r Ls.tail _ _ E3 rest a' h3 (fun p hp => he p (List.mem_cons_of_mem _ hp)) F' hc
              cases eq
              exact he _ List.mem_cons_self
            · cases h
          · cases h
        · rename_i hw
          exact wl_skip (wnV_ok F.at_ hw) hd F hn fun a' F' => exV_ok hD r Ls _ V2 E rest a' h he F' hc
        · cases h
theorem exS {V : List (Nat × Value)} {rest : List Oper} {a : Act} (k : Nat) (V' : List (Nat × Value)) (Ls : List Nat) (hD : DAll w D) (gs : List Nat) (F : Fx n a V ds)
    (h : (exV Try.prog n ops D (rest.take k) Ls V).map (fun r => (r.2.map (·.1), r.2.map (·.2), V'.map fun p => look r.1 p.1)) = some (gs, gs, V'.map fun p => some p.2)) (hc : ∀ a', Fx n a' V' ds → wpList Try.prog ops Q (rest.drop k) a' w) : wpList Try.prog ops Q rest a w := by
  cases he : exV Try.prog n ops D (rest.take k) Ls V with
  | none => rw [he] at h; cases h
  | some r =>
    obtain ⟨V2, E⟩ := r
    rw [he] at h
    simp only [Option.map_some, Option.some.injEq, Prod.mk.injEq] at h
    obtain ⟨h1, h2, h3⟩ := h
    rw [← List.take_append_drop k rest]
    refine exV_ok hD _ Ls V V2 E _ a he ?_ F fun a' F' => hc a' ⟨F'.size, F'.defers, fun t v hv => ?_⟩
    · intro p hp
      obtain ⟨i, hi⟩ := List.getElem?_of_mem hp
      have e1 : (E.map (·.1))[i]? = (E.map (·.2))[i]? := by rw [h1, h2]
      simpa [hi] using e1
    · have key : ∀ L : List (Nat × Value), (L.map fun p => look V2 p.1) = (L.map fun p => some p.2) → ∀ t v, look L t = some v → look V2 t = some v := by
        intro L
        induction L with
        | nil => intro _ t v h; cases h
        | cons p L ih =>
          intro hL t v h
          simp only [List.map_cons, List.cons.injEq] at hL
          obtain ⟨p1, p2⟩ := p
          rw [look_cons] at h
          split at h
          · rename_i e
            cases h; subst e; exact hL.1
          · exact ih hL.2 t v h
      exact F'.at_ t v (key V' h3 t v hv)
theorem exA {V : List (Nat × Value)} {rest : List Oper} {a : Act} (k : Nat) (N : List (Nat × Value)) (Ls : List Nat) (hD : DAll w D) (gs : List Nat) (F : Fx n a V ds)
    (h : (exV Try.prog n ops D (rest.take k) Ls V).map (fun r => (r.2.map (·.1), r.2.map (·.2), N.map fun p => look r.1 p.1)) = some (gs, gs, N.map fun p => some p.2))
    (hw : ((rest.take k).all fun o => match o.dst with
      | some d => (look N d).isSome || (look V d).isNone
      | none => false) = true) (hc : ∀ a', Fx n a' (N ++ V) ds → wpList Try.prog ops Q (rest.drop k) a' w) : wpList Try.prog ops Q rest a w := by
  cases he : exV Try.prog n ops D (rest.take k) Ls V with
  | none => rw [he] at h; cases h
  | some r =>
    obtain ⟨V2, E⟩ := r
    rw [he] at h
    simp only [Option.map_some, Option.some.injEq, Prod.mk.injEq] at h
    obtain ⟨h1, h2, h3⟩ := h
    rw [← List.take_append_drop k rest]
    have hold : ∀ (l : List Oper) (Ls : List Nat) (V V2 : List (Nat × Value)) (E : List (Nat × Nat)), exV Try.prog n ops D l Ls V = some (V2, E) → ∀ t, (∀ o ∈ l, o.dst ≠ some t) → look V2 t = look V t := by
      intro l
      induction l with
      | nil => intro Ls V V2 E h t _; cases h; rfl
      | cons o r ih =>
        intro Ls V V2 E h t ht
        have hr := fun o' ho' => ht o' (List.mem_cons_of_mem _ ho')
        have ho := ht o List.mem_cons_self
        unfold exV at h
        split at h
        · cases h
        · rename_i d hd
          have hdt : ¬ d = t := fun e => ho (by rw [hd, e])
          have step : ∀ v, look ((d, v) :: V) t = look V t := fun v => by rw [look_cons, if_neg hdt]
          split at h
          · cases h
          · split at h
            · split at h
              · exact (ih _ _ _ _ h t hr).trans (step _)
              · split at h
                · rename_i V3 E3 h3
                  cases h
                  exact (ih _ _ _ _ h3 t hr).trans (step _)
                · cases h
              · cases h
            · exact (ih _ _ _ _ h t hr).trans (step _)
            · cases h
    refine exV_ok hD _ Ls V V2 E _ a he ?_ F fun a' F' => hc a' ⟨F'.size, F'.defers, fun t v hv => ?_⟩
    · intro p hp
      obtain ⟨i, hi⟩ := List.getElem?_of_mem hp
      have e1 : (E.map (·.1))[i]? = (E.map (·.2))[i]? := by rw [h1, h2]
      simpa [hi] using e1
    · have key : ∀ L : List (Nat × Value), (L.map fun p => look V2 p.1) = (L.map fun p => some p.2) → ∀ t v, look (L ++ V) t = some v → look V2 t = some v ∨ (look L t = none ∧ look V t = some v) := by
        intro L
        induction L with
        | nil => intro _ t v h; exact .inr ⟨rfl, h⟩
        | cons p L ih =>
          intro hL t v h
          simp only [List.map_cons, List.cons.injEq] at hL
          obtain ⟨p1, p2⟩ := p
          rw [List.cons_append, look_cons] at h
          rw [look_cons]
          split at h
          · rename_i e
            cases h; subst e; exact .inl hL.1
          · rename_i e
            rcases ih hL.2 t v h with h | h
            · exact .inl h
            · exact .inr ⟨by rw [if_neg e]; exact h.1, h.2⟩
      refine F'.at_ t v ?_
      rcases key N h3 t v hv with h | ⟨hn, hV⟩
      · exact h
      · rw [hold _ Ls V V2 E he t fun o ho e => ?_]
        · exact hV
        · have := List.all_eq_true.1 hw o ho
          rw [e] at this
          simp only [hn, hV] at this
          cases this
theorem zB {V : List (Nat × Value)} {rest : List Oper} {a : Act} (k : Nat) (V' : List (Nat × Value)) (Ls : List Nat) (hD : DAll w D) (gs : List Nat) (F : Fx n a V ds) (hc : ∀ a', Fx n a' V' ds → wpList Try.prog ops Q (rest.drop k) a' w)
    (h : (exV Try.prog n ops D (rest.take k) Ls V).map (fun r => (r.2.map (·.1), r.2.map (·.2), V'.map fun p => look r.1 p.1)) = some (gs, gs, V'.map fun p => some p.2) := by kernel_rfl) : wpList Try.prog ops Q rest a w := exS k V' Ls hD gs F h hc
theorem zA {V : List (Nat × Value)} {rest : List Oper} {a : Act} (k : Nat) (N : List (Nat × Value)) (Ls : List Nat) (hD : DAll w D) (gs : List Nat) (F : Fx n a V ds) (hc : ∀ a', Fx n a' (N ++ V) ds → wpList Try.prog ops Q (rest.drop k) a' w)
    (h : (exV Try.prog n ops D (rest.take k) Ls V).map (fun r => (r.2.map (·.1), r.2.map (·.2), N.map fun p => look r.1 p.1)) = some (gs, gs, N.map fun p => some p.2) := by kernel_rfl)
    (hw : ((rest.take k).all fun o => match o.dst with
      | some d => (look N d).isSome || (look V d).isNone
      | none => false) = true := by kernel_rfl) : wpList Try.prog ops Q rest a w := exA k N Ls hD gs F h hw hc
end
def toK : Value ⊕ StK → StK
  | .inl v => StK.eq v
  | .inr s => s
def SK (l : List (Value ⊕ StK)) : List StK := l.map toK
def lkE (Vs : List (Value ⊕ StK)) (j : Nat) : Option Value := match Vs[j]? with
  | some (.inl v) => some v
  | _ => none
theorem lkE_ok {Vs : List (Value ⊕ StK)} {j : Nat} {v : Value} (h : lkE Vs j = some v) (w : World) (x : Value) : stYK (SK Vs) j w x ↔ x = v := by
  unfold lkE at h
  split at h
  · rename_i u hu
    cases h
    unfold stYK SK
    rw [List.getElem?_map, hu]
    exact Iff.rfl
  · cases h
def lkT (L : List Oper) (m : Nat) (Vs : List (Value ⊕ StK)) (V : List (Nat × Value)) (o : Oper) (t : Nat) : Option Value := match (o.looksAt L.toArray).contains t with
  | true => match depOf (L.take m) t with
    | some j => lkE Vs j
    | none => look V t
  | false => none
def stV (P : Program) (ops : Array Oper) (lk : Nat → Option Value) (D : List (Nat × Array Value)) (o : Oper) (i : Nat) : Option (Value × Option (Nat × Nat)) := match wnV ops lk o with
  | some true => plV P lk D o i
  | some false => some (undef, none)
  | none => none
theorem hopP {L : List Oper} {m : Nat} {Q : Exit → Act → World → Prop} {Vs : List (Value ⊕ StK)} {V : List (Nat × Value)} {n : Nat} {a0 : Act} {W : World} {k : Nat} {o : Oper} {D : List (Nat × Array Value)} (F : Fx n a0 V ds) (hD : DAll W D) (i : Nat) (gs : Option Nat)
    (h : (stV Try.prog L.toArray (lkT L m Vs V o) D o i).map (fun r => (some r.1, r.2.map (·.1), r.2.map (·.2))) = some (lkE Vs k, gs, gs)) : HopT Try.prog L m Q (stYK (SK Vs)) a0 W k o := by
  intro a w hb hd
  have hlk : ∀ t v, lkT L m Vs V o t = some v → a.eval (.tmp t) = v := by
    intro t v ht
    unfold lkT at ht
    split at ht
    · rename_i hc
      have hs := hd t (by simpa using hc)
      unfold SlotOk at hs
      split at ht
      · rename_i j hj
        rw [hj] at hs
        exact (lkE_ok ht w _).1 hs
      · rename_i hj
        rw [hj] at hs
        exact (show a.eval (.tmp t) = a0.eval (.tmp t) from hs).trans (F.at_ t v ht)
    · cases ht
  cases hst : stV Try.prog L.toArray (lkT L m Vs V o) D o i with
  | none => rw [hst] at h; cases h
  | some r =>
    obtain ⟨v, e⟩ := r
    rw [hst] at h
    simp only [Option.map_some, Option.some.injEq, Prod.mk.injEq] at h
    obtain ⟨hv, h1, h2⟩ := h
    have hF : ∀ w', stYK (SK Vs) k w' v := fun w' => (lkE_ok hv.symm w' v).2 rfl
    unfold stV at hst
    split at hst
    · rename_i hw
      have hw' := wnV_ok hlk hw
      refine zca (F := stYK (SK Vs) k) hw' v (plV_ok hlk (hD.below hb) hst fun g g' eq => ?_) (hF w)
      subst eq
      rw [← h2] at h1
      exact Option.some.inj h1
    · rename_i hw
      cases hst
      rw [wnV_ok hlk hw]
      exact hF w
    · cases hst
theorem hop0 {L : List Oper} {m : Nat} {Q : Exit → Act → World → Prop} {Vs : List (Value ⊕ StK)} {V : List (Nat × Value)} {n : Nat} {a0 : Act} {W : World} {k : Nat} {o : Oper} (F : Fx n a0 V ds)
    (h : (stV Try.prog L.toArray (lkT L m Vs V o) [] o 0).map (fun r => (some r.1, r.2.map (·.1), r.2.map (·.2))) = some (lkE Vs k, none, none)) : HopT Try.prog L m Q (stYK (SK Vs)) a0 W k o := hopP F (D := []) dnil 0 none h
end Go.Proofs.Ytlbkogdmojlpmaa
namespace Go.Proofs.Ytlbkogdmojlpmaa
open Go.ChangeShapes Go.WideShapes Go.ChangeAt Go.RowKit Go.Shelf
section
variable {a : Act} {w : World} {o : Oper} {p q z : Int} (ty tz : TypeId) (x y : Operand)
theorem y_cvI {k k2 : IntKind} (s d : TypeId) (ho : o.op = .convert s d x) (hx : a.eval x = .int k p) (hs : Try.prog.underlying s = some (.int k)) (hd : Try.prog.underlying d = some (.int k2)) (hz : k2.wrap p = z) : (execOp a.eval o).run Try.prog w = .ok (.value (.int k2 z)) w := by
  subst hz
  refine run_cv' s d x ho hx ?_
  simp [convert, run_underlying hs, run_underlying hd, go_sem]
theorem y_shrI {k kq : IntKind} (ho : o.op = .binOp .shr ty x y tz) (hx : a.eval x = .int k p) (hy : a.eval y = .int kq q) (hq : 0 ≤ q ∧ q ≤ k.bits) (hz : p / 2 ^ q.toNat = z) : (execOp a.eval o).run Try.prog w = .ok (.value (.int k z)) w := by
  subst hz
  unfold execOp; simp only [ho, hx, hy]; simp [go_sem, Go.shift_shr k kq p q hq.1 hq.2]
theorem y_shlI {k kq : IntKind} (ho : o.op = .binOp .shl ty x y tz) (hx : a.eval x = .int k p) (hy : a.eval y = .int kq q) (hq : 0 ≤ q ∧ q < k.bits) (hz : k.wrap (p * 2 ^ q.toNat) = z) : (execOp a.eval o).run Try.prog w = .ok (.value (.int k z)) w := by
  subst hz
  unfold execOp; simp only [ho, hx, hy]; simp [go_sem, Go.shift_shl k kq p q hq.1 (Int.le_of_lt hq.2)]
theorem y_orU {k : IntKind} (ho : o.op = .binOp .or ty x y tz) (hx : a.eval x = .int k p) (hy : a.eval y = .int k q) (hz : bits .or k p q = z) : (execOp a.eval o).run Try.prog w = .ok (.value (.int k z)) w := by
  subst hz
  unfold execOp; simp only [ho, hx, hy]; simp [go_sem]
end
end Go.Proofs.Ytlbkogdmojlpmaa
namespace Go.Proofs.Ytlbkogdmojlpmaa
open Go.ChangeShapes Go.WideShapes Go.ChangeAt Go.RowKit
def octL (n : Int) : List UInt8 := if n = 0 then [] else [zx n]
theorem octet_any (n : Int) (w : World) :
  Calls Try.prog 87 #[.int .i64 n] w fun e w' => ∃ v, e = .returned v ∧ Byt w' w.heap.size v (octL n) ∧ Below w.heap.size w w' := by
 by_cases h0 : n = 0
 ·refine zi (args := [.int .i64 n]) 8 Try.func87 rfl rfl rfl ?_
  intro fa F
  have M := Mx.start w
  refine zT fun _ hK1 => ?_
  refine rm rfl F fun _ F2 => ?_
  refine hK1 _ _ (zS fun _ hK3 => ?_)
  refine zT fun _ hK4 => ?_
  refine rm rfl F2 fun _ F5 => ?_
  refine rn rfl rfl F5 rfl (.bool true) (zp _ _ _ _ rfl (F5.get rfl) rfl Try.underlying3 (zma h0)) fun _ F6 => ?_
  refine hK4 _ _ (wp_cond_true (F6.get rfl) ?_)
  refine zT fun _ hK7 => ?_
  refine rm rfl F6 fun _ F8 => ?_
  refine hK7 _ _ (wp_ret ?_)
  try simp only [Exit.then, Exit.inBlock, Exit.jump]
  exact bodyPost_ret (res1 rfl (F8.get rfl)) F8.defers ⟨_, rfl, (by rw [octL, if_pos h0]; exact Byt.nil _ _), M.below⟩
 refine zi (args := [.int .i64 n]) 8 Try.func87 rfl rfl rfl ?_
 intro fa F
 have M := Mx.start w
 refine zT fun _ hK1 => ?_
 refine rm rfl F fun _ F2 => ?_
 refine hK1 _ _ (zS fun _ hK3 => ?_)
 refine zT fun _ hK4 => ?_
 refine rm rfl F2 fun _ F5 => ?_
 refine rn rfl rfl F5 rfl (.bool false) (zp _ _ _ _ rfl (F5.get rfl) rfl Try.underlying3 (zq h0)) fun _ F6 => ?_
 refine hK4 _ _ (wp_cond_false (F6.get rfl) ?_)
 refine wp_skip ?_
 refine hK3 _ _ (zS fun _ hK7 => ?_)
 refine zR ?_
 refine rm rfl F6 fun _ F8 => ?_
 refine rn rfl rfl F8 rfl (.int .u8 (((zx n).toNat : Nat) : Int)) (y_cvI _ _ _ rfl (F8.get rfl) Try.underlying3 Try.underlying5 (z7a _)) fun _ F9 => ?_
 refine zpa (za rfl) rfl F9 rfl (run_litO M 0 [(zx n)] 1 rfl (by decide) (by decide) rfl (by simp only [List.map_toArray, List.map_cons, List.map_nil, (F9.get (t := 6) rfl)]; kernel_rfl)) ?_
 intro v10 a10 w10 F10 M10
 clear F9 M
 obtain ⟨A10, c10, rfl⟩ := (M10.isO (k := 0) rfl).shape
 refine rm rfl F10 fun _ F11 => ?_
 refine hK7 _ _ (wp_ret ?_)
 try simp only [Exit.then, Exit.inBlock, Exit.jump]
 exact bodyPost_ret (res1 rfl (F11.get rfl)) F11.defers ⟨_, rfl, (by rw [octL, if_neg h0]; exact M10.byt (k := 0) rfl), M10.below⟩
end Go.Proofs.Ytlbkogdmojlpmaa
namespace Go.Proofs.Ytlbkogdmojlpmaa
open Go.ChangeShapes Go.WideShapes Go.ChangeAt Go.RowKit Go.Shelf
variable {ds : List Deferred}
def AllIn {α : Type} (V : List (Nat × α)) : List (Nat × α) → Prop
  | [] => True
  | p :: L => look V p.1 = some p.2 ∧ AllIn V L
theorem AllIn.look {α : Type} {V : List (Nat × α)} : ∀ {L : List (Nat × α)}, AllIn V L → ∀ t v, look L t = some v → look V t = some v
  | [], _, t, v, e => by cases e
  | (k, x) :: L, h, t, v, e => by
    rw [look_cons] at e
    by_cases c : k = t
    · rw [if_pos c] at e
      subst c
      exact h.1.trans e
    · rw [if_neg c] at e
      exact AllIn.look h.2 t v e
theorem Fx.sub {n : Nat} {a : Act} {V V' : List (Nat × Value)} (F : Fx n a V ds) (h : AllIn V V') : Fx n a V' ds := F.eq h.look
theorem Mx.sub {G : Option Nat} {w0 w : World} {R R' : List (Nat × Res)} (M : Mx G w0 w R) (h : AllIn R R') : Mx G w0 w R' := M.drop h.look
theorem loop_fx {α : Type} {P : Program} {Q : Exit → Act → World → Prop} {a : Act} {w w0 : World} {c : Code} {n : Nat} {G : Option Nat} (V : α → List (Nat × Value)) (R : α → List (Nat × Res)) (X : Nat → α → Prop) (k0 : Nat) (x0 : α) (h0 : X k0 x0) (F : Fx n a (V x0) ds) (M : Mx G w0 w (R x0))
    (round : ∀ k x a w (K : Act → World → Prop), X k x → Fx n a (V x) ds → Mx G w0 w (R x) → (∀ k' x' a' w', k' < k → X k' x' → Fx n a' (V x') ds → Mx G w0 w' (R x') → K a' w') → c.wp P (Exit.then K Q) a w) : (Code.loop c).wp P Q a w :=
  wp_loop_ghost (fun k a w => ∃ x, X k x ∧ Fx n a (V x) ds ∧ Mx G w0 w (R x)) k0 ⟨x0, h0, F, M⟩ fun k a w ⟨x, hx, F, M⟩ =>
    round k x a w _ hx F M fun k' x' a' w' hk hx' F' M' => ⟨k', hk, x', hx', F', M'⟩
end Go.Proofs.Ytlbkogdmojlpmaa
namespace Go.Proofs.Ytlbkogdmojlpmaa
open Go.ChangeShapes Go.WideShapes Go.ChangeAt Go.RowKit
def zeb (n : Int) : List UInt8 := (List.range 8).map fun j => zx (n / 2 ^ (8 * (7 - j)))
theorem zab (n : Int) : (zeb n).length = 8 := by simp [zeb]
def part8 (n : Int) (k : Nat) : List UInt8 := (List.range 8).map fun j => if 7 - j < k then zx (n / 2 ^ (8 * (7 - j))) else 0
theorem part8_len (n : Int) (k : Nat) : (part8 n k).length = 8 := by simp [part8]
theorem part8_zero (n : Int) : part8 n 0 = List.replicate 8 0 := by simp [part8]; rfl
theorem part8_all (n : Int) : part8 n 8 = zeb n := by
  unfold part8 zeb
  apply List.map_congr_left
  intro j _
  rw [if_pos (by omega)]
theorem part8_set (n : Int) {k : Nat} (hk : k < 8) : (part8 n k).set (7 - k) (zx (n / 2 ^ (8 * k))) = part8 n (k + 1) := by
  apply List.ext_getElem?
  intro q
  unfold part8
  rw [List.getElem?_set]
  simp only [List.length_map, List.length_range, List.getElem?_map]
  by_cases hq : q < 8
  · rw [List.getElem?_range hq]
    simp only [Option.map_some]
    by_cases h : 7 - k = q
    · subst h
      rw [if_pos rfl, if_pos hq, if_pos (by omega), show 7 - (7 - k) = k by omega]
    · rw [if_neg h]
      by_cases h2 : 7 - q < k
      · rw [if_pos h2, if_pos (by omega)]
      · rw [if_neg h2, if_neg (by omega)]
  · have : (List.range 8)[q]? = none := by rw [List.getElem?_eq_none_iff]; simp; omega
    rw [this, if_neg (by omega)]
    rfl
theorem eightI_any (n : Int) (w : World) :
  Calls Try.prog 64 #[.int .i64 n] w fun e w' => ∃ v, e = .returned v ∧ Byt w' w.heap.size v (zeb n) ∧ Below w.heap.size w w' := by
 refine zi (args := [.int .i64 n]) 22 Try.func64 rfl rfl rfl ?_
 intro fa F
 have M := Mx.start w
 refine zT fun _ hK1 => ?_
 refine rm rfl F fun _ F2 => ?_
 refine hK1 _ _ (zS fun _ hK3 => ?_)
 refine zR ?_
 refine zpa (za rfl) rfl F2 rfl (run_makeO M 0 _ _ rfl 8 rfl rfl rfl (by decide)) ?_
 intro v4 a4 w4 F4 M4
 clear F2 M
 obtain ⟨A4, c4, rfl⟩ := (M4.isO (k := 0) rfl).shape
 refine rm rfl F4 fun _ F5 => ?_
 refine hK3 _ _ (zS fun _ hK6 => ?_)
 refine zT fun _ hK7 => ?_
 refine rm rfl F5 fun _ F8 => ?_
 refine rn rfl rfl F8 rfl (.int .i64 8) (zda _ rfl (F8.get rfl) (M4.isO (k := 0) rfl) (by decide)) fun _ F9 => ?_
 refine rm rfl F9 fun _ F10 => ?_
 refine hK7 _ _ (wp_block ?_)
 have hz8 := part8_zero n
 replace M4 : Mx _ _ w4 [(0, ownR (part8 n 0) (.slice A4 (List.replicate 8 (0 : UInt8)).length c4))] := (by rw [hz8]; exact M4.sub ⟨rfl, trivial⟩)
 refine loop_fx (α := Nat) (n := 22) (G := none) (w0 := w) (fun x => [(0, .int .i64 n), (2, zN), (5, .slice A4 ((List.replicate 8 0)).length c4), (3, .slice A4 ((List.replicate 8 0)).length c4), (6, .slice A4 ((List.replicate 8 0)).length c4), (7, .int .i64 8), (8, .int .i64 (x : Int))]) (fun x => [(0, ownR (part8 n x) (.slice A4 ((List.replicate 8 0)).length c4))]) (fun k x => k = 8 - x ∧ (x ≤ 8)) _ 0 ⟨rfl, (by omega)⟩ (F10.sub ⟨rfl, rfl, rfl, rfl, rfl, rfl, rfl, trivial⟩) (M4.sub ⟨rfl, trivial⟩) ?_
 clear F10 M4
 rintro k11 jn a11 w11 K11 ⟨ek11, I11⟩ F11 M11 hK11
 replace F11 : Fx 22 a11 [(0, .int .i64 n), (2, zN), (5, .slice A4 ((List.replicate 8 0)).length c4), (3, .slice A4 ((List.replicate 8 0)).length c4), (6, .slice A4 ((List.replicate 8 0)).length c4), (7, .int .i64 8), (8, .int .i64 (jn : Int))] := F11
 replace M11 : Mx _ _ w11 [(0, ownR (part8 n jn) (.slice A4 ((List.replicate 8 0)).length c4))] := M11
 replace I11 : jn ≤ 8 := I11
 replace ek11 : k11 = 8 - jn := ek11
 by_cases hlt : jn < 8
 rotate_left
 ·obtain rfl : jn = 8 := by omega
  refine zT fun _ hK31 => ?_
  refine rn rfl rfl F11 rfl (.bool false) (z2a _ _ _ _ rfl (F11.get rfl) (F11.get rfl) (decide_eq_false (by decide))) fun _ F32 => ?_
  refine hK31 _ _ (zS fun _ hK33 => ?_)
  refine wp_cond_false (F32.get (t := 9) rfl) ?_
  refine wp_exit ?_
  simp only [Exit.then, Exit.inBlock, ↓reduceIte, Nat.reduceEqDiff]
  refine hK6 _ _ (zS fun _ hK34 => ?_)
  refine zR ?_
  refine rm rfl F32 fun _ F35 => ?_
  refine rm rfl F35 fun _ F36 => ?_
  refine hK34 _ _ (wp_ret ?_)
  try simp only [Exit.then, Exit.inBlock, Exit.jump]
  exact bodyPost_ret (res1 rfl (F36.get rfl)) F36.defers ⟨_, rfl, (by have := M11.byt (k := 0) rfl; rwa [part8_all] at this), M11.below⟩
 refine zT fun _ hK12 => ?_
 refine rn rfl rfl F11 rfl (.bool true) (z2a _ _ _ _ rfl (F11.get rfl) (F11.get rfl) (decide_eq_true (show (jn : Int) < 8 by omega))) fun _ F13 => ?_
 refine hK12 _ _ (zS fun _ hK14 => ?_)
 refine wp_cond_true (F13.get (t := 9) rfl) ?_
 refine wp_skip ?_
 refine hK14 _ _ (zS fun _ hK15 => ?_)
 refine wp_block ?_
 refine zT fun _ hK16 => ?_
 refine rm rfl F13 fun _ F17 => ?_
 refine rm rfl F17 fun _ F18 => ?_
 refine hK16 _ _ (zR ?_)
 refine rm rfl F18 fun _ F19 => ?_
 refine rm rfl F19 fun _ F20 => ?_
 refine rn rfl rfl F20 rfl (.int .i64 (7 - (jn : Int))) (y_subI _ _ _ _ rfl rfl (F20.get rfl) rfl (by omega)) fun _ F21 => ?_
 refine rm rfl F21 fun _ F22 => ?_
 refine rm rfl F22 fun _ F23 => ?_
 refine rn rfl rfl F23 rfl (.int .i64 (8 * (jn : Int))) (y_mulI _ _ _ _ rfl rfl (F23.get rfl) rfl (by omega)) fun _ F24 => ?_
 refine rn rfl rfl F24 rfl (.int .i64 (n / 2 ^ (8 * jn))) (y_shrI _ _ _ _ rfl (F24.get rfl) (F24.get rfl) (by show (0 : Int) ≤ 8 * (jn : Int) ∧ 8 * (jn : Int) ≤ 64; omega) (by rw [show (8 * (jn : Int)).toNat = 8 * jn by omega])) fun _ F25 => ?_
 refine rn rfl rfl F25 rfl (.int .u8 (((zx (n / 2 ^ (8 * jn))).toNat : Nat) : Int)) (y_cvI _ _ _ rfl (F25.get rfl) Try.underlying3 Try.underlying5 (z7a _)) fun _ F26 => ?_
 refine rn rfl rfl F26 rfl ((ixV (.slice A4 ((List.replicate 8 0)).length c4) (7 - jn))) (y_ixB _ _ rfl (F26.get rfl) (M11.isO (k := 0) rfl) (F26.get rfl) (by omega) (by rw [part8_len]; omega)) fun _ F27 => ?_
 refine wl_doM (za rfl) rfl F27 (run_setO M11 (k := 0) rfl _ _ rfl (F27.get rfl) (zx (n / 2 ^ (8 * jn))) (F27.get rfl) rfl (by rw [part8_len]; omega)) ?_
 intro w28 M28
 clear M11
 refine hK15 _ _ (zR ?_)
 refine rn rfl rfl F27 rfl (.int .i64 ((jn + 1 : Nat) : Int)) (zy _ _ _ _ rfl (F27.get rfl) rfl (by omega) (by omega)) fun _ F29 => ?_
 refine rm rfl F29 fun _ F30 => ?_
 rw [part8_set n hlt] at M28
 subst ek11
 exact hK11 _ (jn + 1) _ _ (by omega) ⟨rfl, (by omega)⟩ (F30.sub ⟨rfl, rfl, rfl, rfl, rfl, rfl, rfl, trivial⟩) (M28.sub ⟨rfl, trivial⟩)
end Go.Proofs.Ytlbkogdmojlpmaa
namespace Go.Proofs.Ytlbkogdmojlpmaa
open Go.ChangeShapes Go.WideShapes Go.ChangeAt Go.RowKit
theorem zaa {o : Oper} {a : Act} {w : World} (h : o.op = .alloc 27) : (execOp a.eval o).run Try.prog w = .ok (.value (.pointer (some ⟨w.heap.size, 0, none⟩))) (w.alloc (.cells (numA 0) 27)) := by
  rw [← zeroA]
  unfold execOp
  simp only [h]
  kernel_rfl
theorem y_part8 {c : Array Value} {k n : Nat} (h0 : c[k + 0]? = some (numF n 0)) (h1 : c[k + 1]? = some (numF n 1)) (h2 : c[k + 2]? = some (numF n 2)) (h3 : c[k + 3]? = some (numF n 3)) (h4 : c[k + 4]? = some (numF n 4)) (h5 : c[k + 5]? = some (numF n 5)) (h6 : c[k + 6]? = some (numF n 6)) (h7 : c[k + 7]? = some (numF n 7)) :
    ∀ (j : Nat) (v : Value), (numA n)[j]? = some v → c[k + j]? = some v := fun j v h => by
  have hj := (Array.getElem?_eq_some_iff.1 h).1
  rw [numA_size] at hj
  have : j = 0 ∨ j = 1 ∨ j = 2 ∨ j = 3 ∨ j = 4 ∨ j = 5 ∨ j = 6 ∨ j = 7 := by omega
  rcases this with rfl | rfl | rfl | rfl | rfl | rfl | rfl | rfl <;> (rw [← h]; first | exact h0 | exact h1 | exact h2 | exact h3 | exact h4 | exact h5 | exact h6 | exact h7)
theorem y_zbuild {o : Oper} {a : Act} {w : World} (h : o.op = .build 27 #[]) : (execOp a.eval o).run Try.prog w = .ok (.value (numV 0)) w := by
  have e : (execOp a.eval o).run Try.prog w = .ok (.value (.agg #[Value.int .u32 0, .int .u32 0, .int .u32 0, .int .u32 0, .int .u32 0, .int .u32 0, .int .u32 0, .int .u32 0])) w := by
    unfold execOp
    simp only [h, List.map_toArray, List.map_nil]
    kernel_rfl
  rw [e, zeroA]
end Go.Proofs.Ytlbkogdmojlpmaa
namespace Go.Proofs.Ytlbkogdmojlpmaa
open Go.ChangeShapes Go.WideShapes Go.ChangeAt Go.RowKit
def eightO (n : Int) : List UInt8 := if n = 0 then [] else zeb n
def fourL (a : Nat) : List UInt8 := (zwa a).drop 28
def fourO (a : Nat) : List UInt8 := if a = 0 then [] else fourL a
def protoB (p : Int) : Bool := decide (p = 1 ∨ p = 2)
theorem zt (g : Nat) : ¬ bfp (zN) g := fun ⟨o, s, n, c, e, _⟩ => by cases e
theorem bytes_own (a : Nat) (w : World) : Calls Try.prog 85 #[numV a] w fun e w' => ∃ v, e = .returned v ∧ Byt w' w.heap.size v (zwa a) ∧ Below w.heap.size w w' :=
  (bytes_any a w).mono fun e w' ⟨g, h1, h2, h3, h4⟩ => ⟨_, h1, ⟨by simp [zwa], .inr ⟨g, 32, bvs (zwa a), by simp [zwa], h2, h3, by simp [zwa], by unfold maxLen; omega, by simp [bvs, zwa], by simp only [bvs, Nat.mul_one]; exact List.take_of_length_le (by simp)⟩⟩, h4⟩
theorem eightO_any (n : Int) (w : World) :
  Calls Try.prog 89 #[.int .i64 n] w fun e w' => ∃ v, e = .returned v ∧ Byt w' w.heap.size v (eightO n) ∧ Below w.heap.size w w' := by
 by_cases h0 : n = 0
 ·refine zi (args := [.int .i64 n]) 7 Try.func89 rfl rfl rfl ?_
  intro fa F
  have M := Mx.start w
  refine zT fun _ hK1 => ?_
  refine rm rfl F fun _ F2 => ?_
  refine hK1 _ _ (zS fun _ hK3 => ?_)
  refine zT fun _ hK4 => ?_
  refine rm rfl F2 fun _ F5 => ?_
  refine rn rfl rfl F5 rfl (.bool true) (zp _ _ _ _ rfl (F5.get rfl) rfl Try.underlying3 (zma h0)) fun _ F6 => ?_
  refine hK4 _ _ (wp_cond_true (F6.get rfl) ?_)
  refine zT fun _ hK7 => ?_
  refine rm rfl F6 fun _ F8 => ?_
  refine hK7 _ _ (wp_ret ?_)
  try simp only [Exit.then, Exit.inBlock, Exit.jump]
  exact bodyPost_ret (res1 rfl (F8.get rfl)) F8.defers ⟨_, rfl, (by rw [eightO, if_pos h0]; exact Byt.nil _ _), M.below⟩
 refine zi (args := [.int .i64 n]) 7 Try.func89 rfl rfl rfl ?_
 intro fa F
 have M := Mx.start w
 refine zT fun _ hK1 => ?_
 refine rm rfl F fun _ F2 => ?_
 refine hK1 _ _ (zS fun _ hK3 => ?_)
 refine zT fun _ hK4 => ?_
 refine rm rfl F2 fun _ F5 => ?_
 refine rn rfl rfl F5 rfl (.bool false) (zp _ _ _ _ rfl (F5.get rfl) rfl Try.underlying3 (zq h0)) fun _ F6 => ?_
 refine hK4 _ _ (wp_cond_false (F6.get rfl) ?_)
 refine wp_skip ?_
 refine hK3 _ _ (zS fun _ hK7 => ?_)
 refine zR ?_
 refine rm rfl F6 fun _ F8 => ?_
 refine zd (za rfl) rfl F8 rfl rfl (zE Try.func64 rfl) #[.int .i64 n] (zw (F8.get rfl)) (eightI_any n w) ?_
 rintro v9 w9 a9 h9 F9
 have M9 := M.newO h9.2 0 h9.1
 clear M h9
 obtain ⟨A9, c9, rfl⟩ := (M9.isO (k := 0) rfl).shape
 refine rm rfl F9 fun _ F10 => ?_
 refine hK7 _ _ (wp_ret ?_)
 try simp only [Exit.then, Exit.inBlock, Exit.jump]
 exact bodyPost_ret (res1 rfl (F10.get rfl)) F10.defers ⟨_, rfl, (by rw [eightO, if_neg h0]; exact M9.byt (k := 0) rfl), M9.below⟩
theorem four_any (a : Nat) (w : World) :
  Calls Try.prog 63 #[numV a] w fun e w' => ∃ v, e = .returned v ∧ IsB w' (fourL a) v ∧ (∀ g, bfp v g → w.heap.size ≤ g) ∧ Below w.heap.size w w' := by
 refine zi (args := [numV a]) 6 Try.func63 rfl rfl rfl ?_
 intro fa F
 have M := Mx.start w
 refine zT fun _ hK1 => ?_
 refine zg (za rfl) rfl F rfl M 0 (t := 27) (c := numA a) (by unfold execOp; simp only [(F.get (t := 0) rfl)]; kernel_rfl) ?_
 intro g2 a2 w2 F2 M2
 clear F M
 refine rm rfl F2 fun _ F3 => ?_
 refine hK1 _ _ (zS fun _ hK4 => ?_)
 refine zR ?_
 refine rn rfl rfl F3 rfl (numV a) (zja _ _ rfl (F3.get rfl) (M2.blk (k := 0) rfl) (numA a) (zla rfl) Try.underlying27 rfl z5) fun _ F5 => ?_
 refine zd (za rfl) rfl F5 rfl rfl (zE Try.func85 rfl) #[numV a] (zw (F5.get rfl)) (bytes_own a w2) ?_
 rintro v6 w6 a6 h6 F6
 have M6 := M2.newO h6.2 1 h6.1
 clear M2 h6
 obtain ⟨A6, c6, rfl⟩ := (M6.isO (k := 1) rfl).shape
 refine wl_runE (za rfl) rfl F6 rfl (y_slFrom _ _ rfl (F6.get rfl) (M6.isO (k := 1) rfl) rfl (i := 28) rfl (by simp [zwa])) ?_
 intro v7 a7 h7 F7
 have og8 := M6.owns (k := 1) rfl
 have M8 := M6.tame (k := 1) rfl
 clear M6
 have M7 := M8.partB 2 (k := 1) rfl h7.1 h7.2
 clear M8
 obtain ⟨A7, c7, rfl⟩ := (M7.isb (k := 2) rfl).shape
 refine rm rfl F7 fun _ F9 => ?_
 refine hK4 _ _ (wp_ret ?_)
 try simp only [Exit.then, Exit.inBlock, Exit.jump]
 exact bodyPost_ret (res1 rfl (F9.get rfl)) F9.defers ⟨_, rfl, M7.isb (k := 2) rfl, (fun g hg => (fun g hg => og8 g (zfa hg)) g (h7.2 g hg)), M7.below⟩
theorem fourO_any (a : Nat) (ha : a < 4294967296 ^ 8) (w : World) :
  Calls Try.prog 88 #[numV a] w fun e w' => ∃ v, e = .returned v ∧ IsB w' (fourO a) v ∧ (∀ g, bfp v g → w.heap.size ≤ g) ∧ Below w.heap.size w w' := by
 by_cases h0 : a = 0
 ·subst h0
  rw [show fourO 0 = [] from rfl]
  refine zi (args := [numV 0]) 8 Try.func88 rfl rfl rfl ?_
  intro fa F
  have M := Mx.start w
  refine zT fun _ hK1 => ?_
  refine zg (za rfl) rfl F rfl M 0 (t := 27) (c := numA 0) (by unfold execOp; simp only [(F.get (t := 0) rfl)]; kernel_rfl) ?_
  intro g2 a2 w2 F2 M2
  clear F M
  refine rm rfl F2 fun _ F3 => ?_
  refine hK1 _ _ (zS fun _ hK4 => ?_)
  refine zT fun _ hK5 => ?_
  refine rn rfl rfl F3 rfl (numV 0) (zja _ _ rfl (F3.get rfl) (M2.blk (k := 0) rfl) (numA 0) (zla rfl) Try.underlying27 rfl z5) fun _ F6 => ?_
  refine rn rfl rfl F6 rfl (numV 0) (y_zbuild rfl) fun _ F7 => ?_
  refine rn rfl rfl F7 rfl (.bool true) (y_eqA _ _ _ _ rfl (F7.get rfl) (F7.get rfl) (by kernel_rfl) (eqn_same 0 _)) fun _ F8 => ?_
  refine hK5 _ _ (wp_cond_true (F8.get rfl) ?_)
  refine zT fun _ hK9 => ?_
  refine rm rfl F8 fun _ F10 => ?_
  refine hK9 _ _ (wp_ret ?_)
  try simp only [Exit.then, Exit.inBlock, Exit.jump]
  exact bodyPost_ret (res1 rfl (F10.get rfl)) F10.defers ⟨_, rfl, zc _, (fun g hg => absurd hg (zt g)), M2.below⟩
 have hne := eqn_diff ha (show 0 < 4294967296 ^ 8 by decide) h0
 rw [show fourO a = fourL a by unfold fourO; rw [if_neg h0]]
 refine zi (args := [numV a]) 8 Try.func88 rfl rfl rfl ?_
 intro fa F
 have M := Mx.start w
 refine zT fun _ hK1 => ?_
 refine zg (za rfl) rfl F rfl M 0 (t := 27) (c := numA a) (by unfold execOp; simp only [(F.get (t := 0) rfl)]; kernel_rfl) ?_
 intro g2 a2 w2 F2 M2
 clear F M
 refine rm rfl F2 fun _ F3 => ?_
 refine hK1 _ _ (zS fun _ hK4 => ?_)
 refine zT fun _ hK5 => ?_
 refine rn rfl rfl F3 rfl (numV a) (zja _ _ rfl (F3.get rfl) (M2.blk (k := 0) rfl) (numA a) (zla rfl) Try.underlying27 rfl z5) fun _ F6 => ?_
 refine rn rfl rfl F6 rfl (numV 0) (y_zbuild rfl) fun _ F7 => ?_
 refine rn rfl rfl F7 rfl (.bool false) (y_eqA _ _ _ _ rfl (F7.get rfl) (F7.get rfl) (by kernel_rfl) (hne _)) fun _ F8 => ?_
 refine hK5 _ _ (wp_cond_false (F8.get rfl) ?_)
 refine wp_skip ?_
 refine hK4 _ _ (zS fun _ hK9 => ?_)
 refine zR ?_
 refine rn rfl rfl F8 rfl (numV a) (zja _ _ rfl (F8.get rfl) (M2.blk (k := 0) rfl) (numA a) (zla rfl) Try.underlying27 rfl z5) fun _ F10 => ?_
 refine zd (za rfl) rfl F10 rfl rfl (zE Try.func63 rfl) #[numV a] (zw (F10.get rfl)) (four_any a w2) ?_
 rintro v11 w11 a11 h11 F11
 have M11 := M2.newB h11.2.2 1 h11.1 h11.2.1
 have fr11 := fun g hg => Nat.le_trans M2.le (h11.2.1 g hg)
 clear M2 h11
 obtain ⟨A11, c11, rfl⟩ := (M11.isb (k := 1) rfl).shape
 refine rm rfl F11 fun _ F12 => ?_
 refine hK9 _ _ (wp_ret ?_)
 try simp only [Exit.then, Exit.inBlock, Exit.jump]
 exact bodyPost_ret (res1 rfl (F12.get rfl)) F12.defers ⟨_, rfl, M11.isb (k := 1) rfl, fr11, M11.below⟩
theorem isProto_any (p : Int) (w : World) :
  Calls Try.prog 77 #[.int .i64 p] w fun e w' => e = .returned (.bool (protoB p)) ∧ Below w.heap.size w w' := by
 by_cases h1 : p = 1
 ·rw [show protoB p = true by unfold protoB; exact decide_eq_true (.inl h1)]
  refine zi (args := [.int .i64 p]) 9 Try.func77 rfl rfl rfl ?_
  intro fa F
  have M := Mx.start w
  refine zT fun _ hK1 => ?_
  refine rm rfl F fun _ F2 => ?_
  refine hK1 _ _ (zS fun _ hK3 => ?_)
  refine zR ?_
  refine rm rfl F2 fun _ F4 => ?_
  refine rn rfl rfl F4 rfl (.bool true) (zp _ _ _ _ rfl (F4.get rfl) rfl Try.underlying3 (zma h1)) fun _ F5 => ?_
  refine zB 5 [(2, .bool true)] [] dnil [] F5 fun _ F6 => ?_
  refine hK3 _ _ (wp_ret ?_)
  try simp only [Exit.then, Exit.inBlock, Exit.jump]
  exact bodyPost_ret (res1 rfl (F6.get rfl)) F6.defers ⟨rfl, M.below⟩
 skip
 by_cases h2 : p = 2
 ·rw [show protoB p = true by unfold protoB; exact decide_eq_true (.inr h2)]
  refine zi (args := [.int .i64 p]) 9 Try.func77 rfl rfl rfl ?_
  intro fa F
  have M := Mx.start w
  refine zT fun _ hK1 => ?_
  refine rm rfl F fun _ F2 => ?_
  refine hK1 _ _ (zS fun _ hK3 => ?_)
  refine zR ?_
  refine rm rfl F2 fun _ F4 => ?_
  refine rn rfl rfl F4 rfl (.bool false) (zp _ _ _ _ rfl (F4.get rfl) rfl Try.underlying3 (zq h1)) fun _ F5 => ?_
  refine rm rfl F5 fun _ F6 => ?_
  refine rm rfl F6 fun _ F7 => ?_
  refine ze (w' := w) (zb rfl rfl rfl (F7.get rfl)) rfl F7 rfl (.bool true) (zp _ _ _ _ rfl (F7.get rfl) rfl Try.underlying3 (zma h2)) fun _ F8 => ?_
  refine zB 2 [(2, .bool true)] [] dnil [] F8 fun _ F9 => ?_
  refine hK3 _ _ (wp_ret ?_)
  try simp only [Exit.then, Exit.inBlock, Exit.jump]
  exact bodyPost_ret (res1 rfl (F9.get rfl)) F9.defers ⟨rfl, M.below⟩
 rw [show protoB p = false by unfold protoB; exact decide_eq_false (by omega)]
 refine zi (args := [.int .i64 p]) 9 Try.func77 rfl rfl rfl ?_
 intro fa F
 have M := Mx.start w
 refine zT fun _ hK1 => ?_
 refine rm rfl F fun _ F2 => ?_
 refine hK1 _ _ (zS fun _ hK3 => ?_)
 refine zR ?_
 refine rm rfl F2 fun _ F4 => ?_
 refine rn rfl rfl F4 rfl (.bool false) (zp _ _ _ _ rfl (F4.get rfl) rfl Try.underlying3 (zq h1)) fun _ F5 => ?_
 refine rm rfl F5 fun _ F6 => ?_
 refine rm rfl F6 fun _ F7 => ?_
 refine ze (w' := w) (zb rfl rfl rfl (F7.get rfl)) rfl F7 rfl (.bool false) (zp _ _ _ _ rfl (F7.get rfl) rfl Try.underlying3 (zq h2)) fun _ F8 => ?_
 refine zB 2 [(2, .bool false)] [] dnil [] F8 fun _ F9 => ?_
 refine hK3 _ _ (wp_ret ?_)
 try simp only [Exit.then, Exit.inBlock, Exit.jump]
 exact bodyPost_ret (res1 rfl (F9.get rfl)) F9.defers ⟨rfl, M.below⟩
end Go.Proofs.Ytlbkogdmojlpmaa
namespace Go.Proofs.Ytlbkogdmojlpmaa
open Go.ChangeShapes Go.WideShapes Go.ChangeAt Go.RowKit
structure MsgN where
  k : Int
  p : Int
  c : Int
  e : Int
  s : ByteArray
  a : Nat
  b : Nat
  l5 : List UInt8
  l6 : List UInt8
  l7 : List UInt8
  l8 : List UInt8
  l9 : List UInt8
structure MsgV where
  v5 : Value
  v6 : Value
  v7 : Value
  v8 : Value
  v9 : Value
def msgA (m : MsgN) (V : MsgV) : Array Value := #[.int .i64 m.k, .int .i64 m.p, .int .i64 m.c, .int .i64 m.e, .string m.s, numF m.a 0, numF m.a 1, numF m.a 2, numF m.a 3, numF m.a 4, numF m.a 5, numF m.a 6, numF m.a 7, numF m.b 0, numF m.b 1, numF m.b 2, numF m.b 3, numF m.b 4, numF m.b 5, numF m.b 6, numF m.b 7, V.v5, V.v6, V.v7, V.v8, V.v9]
structure MsgIs (w : World) (m : MsgN) (V : MsgV) : Prop where
  h5 : IsB w m.l5 V.v5
  h6 : IsB w m.l6 V.v6
  h7 : IsB w m.l7 V.v7
  h8 : IsB w m.l8 V.v8
  h9 : IsB w m.l9 V.v9
structure MsgOk (m : MsgN) : Prop where
  k : -9223372036854775808 ≤ m.k ∧ m.k < 9223372036854775808
  p : -9223372036854775808 ≤ m.p ∧ m.p < 9223372036854775808
  c : -9223372036854775808 ≤ m.c ∧ m.c < 9223372036854775808
  e : -9223372036854775808 ≤ m.e ∧ m.e < 9223372036854775808
  s : m.s.size ≤ 1000000
  a : m.a < 4294967296 ^ 8
  b : m.b < 4294967296 ^ 8
theorem MsgIs.step {w w' : World} {m : MsgN} {V : MsgV} (h : MsgIs w m V) (hb : Below w.heap.size w w') : MsgIs w' m V := ⟨h.h5.step hb, h.h6.step hb, h.h7.step hb, h.h8.step hb, h.h9.step hb⟩
def zna (V : MsgV) (g : Nat) : Prop := bfp V.v5 g ∨ bfp V.v6 g ∨ bfp V.v7 g ∨ bfp V.v8 g ∨ bfp V.v9 g
def z7 (m : MsgN) : Nat → List UInt8
  | 1 => octL m.p
  | 2 => sBy m.s
  | 3 => fourO m.a
  | 4 => fourO m.b
  | 5 => m.l5
  | 6 => m.l6
  | 7 => m.l7
  | 8 => m.l8
  | 9 => m.l9
  | 10 => eightO m.c
  | 11 => octL m.e
  | _ => []
theorem content_1 (m : MsgN) (V : MsgV) (ho : MsgOk m) (w : World) (hm : MsgIs w m V) :
  Calls Try.prog 76 #[.agg (msgA m V), .int .i64 1] w fun e w' => ∃ v, e = .returned v ∧ IsB w' (z7 m 1) v ∧ (∀ g, bfp v g → w.heap.size ≤ g ∨ zna V g) ∧ Below w.heap.size w w' := by
 refine zi (args := [.agg (msgA m V), .int .i64 1]) 56 Try.func76 rfl rfl rfl ?_
 intro fa F
 have M := Mx.start w
 replace M := M.argB 0 hm.h5 (fun g e => by cases e)
 replace M := M.argB 1 hm.h6 (fun g e => by cases e)
 replace M := M.argB 2 hm.h7 (fun g e => by cases e)
 replace M := M.argB 3 hm.h8 (fun g e => by cases e)
 replace M := M.argB 4 hm.h9 (fun g e => by cases e)
 refine zT fun _ hK1 => ?_
 refine zg (za rfl) rfl F rfl M 5 (t := 29) (c := msgA m V) (by unfold execOp; simp only [(F.get (t := 0) rfl)]; kernel_rfl) ?_
 intro g2 a2 w2 F2 M2
 clear F M
 refine rm rfl F2 fun _ F3 => ?_
 refine hK1 _ _ (zS fun _ hK4 => ?_)
 refine zT fun _ hK5 => ?_
 refine rm rfl F3 fun _ F6 => ?_
 refine hK5 _ _ (wp_block ?_)
 refine zT fun _ hK7 => ?_
 refine zA 2 [(7, .bool true), (6, .bool true)] [] dnil [] F6 fun _ F8 => ?_
 refine hK7 _ _ (wp_cond_true (F8.get rfl) ?_)
 refine zT fun _ hK9 => ?_
 refine zB 2 [(4, zN), (9, .int .i64 m.p)] [0] (zk (M2.blk (k := 5) rfl) dnil) [g2] F8 fun _ F10 => ?_
 refine zd (za rfl) rfl F10 rfl rfl (zE Try.func87 rfl) #[.int .i64 m.p] (zw (F10.get rfl)) (octet_any m.p w2) ?_
 rintro v11 w11 a11 h11 F11
 have M11 := M2.newO h11.2 6 h11.1
 clear M2 h11
 obtain ⟨A11, c11, rfl⟩ := (M11.isO (k := 6) rfl).shape
 refine rm rfl F11 fun _ F12 => ?_
 refine hK9 _ _ (wp_ret ?_)
 try simp only [Exit.then, Exit.inBlock, Exit.jump]
 exact bodyPost_ret (res1 rfl (F12.get rfl)) F12.defers ⟨_, rfl, M11.isO (k := 6) rfl, (fun g hg => .inl (M11.owns (k := 6) rfl g (zfa hg))), M11.below⟩
theorem content_2 (m : MsgN) (V : MsgV) (ho : MsgOk m) (w : World) (hm : MsgIs w m V) :
  Calls Try.prog 76 #[.agg (msgA m V), .int .i64 2] w fun e w' => ∃ v, e = .returned v ∧ IsB w' (z7 m 2) v ∧ (∀ g, bfp v g → w.heap.size ≤ g ∨ zna V g) ∧ Below w.heap.size w w' := by
 refine zi (args := [.agg (msgA m V), .int .i64 2]) 56 Try.func76 rfl rfl rfl ?_
 intro fa F
 have M := Mx.start w
 replace M := M.argB 0 hm.h5 (fun g e => by cases e)
 replace M := M.argB 1 hm.h6 (fun g e => by cases e)
 replace M := M.argB 2 hm.h7 (fun g e => by cases e)
 replace M := M.argB 3 hm.h8 (fun g e => by cases e)
 replace M := M.argB 4 hm.h9 (fun g e => by cases e)
 refine zT fun _ hK1 => ?_
 refine zg (za rfl) rfl F rfl M 5 (t := 29) (c := msgA m V) (by unfold execOp; simp only [(F.get (t := 0) rfl)]; kernel_rfl) ?_
 intro g2 a2 w2 F2 M2
 clear F M
 refine rm rfl F2 fun _ F3 => ?_
 refine hK1 _ _ (zS fun _ hK4 => ?_)
 refine zT fun _ hK5 => ?_
 refine rm rfl F3 fun _ F6 => ?_
 refine hK5 _ _ (wp_block ?_)
 refine zT fun _ hK7 => ?_
 refine zA 2 [(7, .bool false), (6, .bool false)] [] dnil [] F6 fun _ F8 => ?_
 refine hK7 _ _ (wp_cond_false (F8.get rfl) ?_)
 refine zT fun _ hK9 => ?_
 refine zA 2 [(12, .bool true), (11, .bool true)] [] dnil [] F8 fun _ F10 => ?_
 refine hK9 _ _ (wp_cond_true (F10.get rfl) ?_)
 refine zT fun _ hK11 => ?_
 refine zB 2 [(4, zN), (14, .string m.s)] [0] (zk (M2.blk (k := 5) rfl) dnil) [g2] F10 fun _ F12 => ?_
 refine zpa (za rfl) rfl F12 rfl (run_cvS M2 6 _ rfl (F12.get rfl) ho.s) ?_
 intro v13 a13 w13 F13 M13
 clear F12 M2
 have fr13 := M13.frN (k := 6) rfl
 replace M13 := M13.unN (k := 6) rfl
 obtain ⟨A13, c13, rfl⟩ := (M13.isb (k := 6) rfl).shape
 refine rm rfl F13 fun _ F14 => ?_
 refine hK11 _ _ (wp_ret ?_)
 try simp only [Exit.then, Exit.inBlock, Exit.jump]
 exact bodyPost_ret (res1 rfl (F14.get rfl)) F14.defers ⟨_, rfl, M13.isb (k := 6) rfl, (fun g hg => .inl (fr13 g hg)), M13.below⟩
theorem content_3 (m : MsgN) (V : MsgV) (ho : MsgOk m) (w : World) (hm : MsgIs w m V) :
  Calls Try.prog 76 #[.agg (msgA m V), .int .i64 3] w fun e w' => ∃ v, e = .returned v ∧ IsB w' (z7 m 3) v ∧ (∀ g, bfp v g → w.heap.size ≤ g ∨ zna V g) ∧ Below w.heap.size w w' := by
 refine zi (args := [.agg (msgA m V), .int .i64 3]) 56 Try.func76 rfl rfl rfl ?_
 intro fa F
 have M := Mx.start w
 replace M := M.argB 0 hm.h5 (fun g e => by cases e)
 replace M := M.argB 1 hm.h6 (fun g e => by cases e)
 replace M := M.argB 2 hm.h7 (fun g e => by cases e)
 replace M := M.argB 3 hm.h8 (fun g e => by cases e)
 replace M := M.argB 4 hm.h9 (fun g e => by cases e)
 refine zT fun _ hK1 => ?_
 refine zg (za rfl) rfl F rfl M 5 (t := 29) (c := msgA m V) (by unfold execOp; simp only [(F.get (t := 0) rfl)]; kernel_rfl) ?_
 intro g2 a2 w2 F2 M2
 clear F M
 refine rm rfl F2 fun _ F3 => ?_
 refine hK1 _ _ (zS fun _ hK4 => ?_)
 refine zT fun _ hK5 => ?_
 refine rm rfl F3 fun _ F6 => ?_
 refine hK5 _ _ (wp_block ?_)
 refine zT fun _ hK7 => ?_
 refine zA 2 [(7, .bool false), (6, .bool false)] [] dnil [] F6 fun _ F8 => ?_
 refine hK7 _ _ (wp_cond_false (F8.get rfl) ?_)
 refine zT fun _ hK9 => ?_
 refine zA 2 [(12, .bool false), (11, .bool false)] [] dnil [] F8 fun _ F10 => ?_
 refine hK9 _ _ (wp_cond_false (F10.get rfl) ?_)
 refine zT fun _ hK11 => ?_
 refine zA 2 [(17, .bool true), (16, .bool true)] [] dnil [] F10 fun _ F12 => ?_
 refine hK11 _ _ (wp_cond_true (F12.get rfl) ?_)
 refine zT fun _ hK13 => ?_
 refine zB 2 [(4, zN), (19, numV m.a)] [0] (zk (M2.blk (k := 5) rfl) dnil) [g2] F12 fun _ F14 => ?_
 refine zd (za rfl) rfl F14 rfl rfl (zE Try.func88 rfl) #[numV m.a] (zw (F14.get rfl)) (fourO_any m.a ho.a w2) ?_
 rintro v15 w15 a15 h15 F15
 have M15 := M2.newB h15.2.2 6 h15.1 h15.2.1
 have fr15 := fun g hg => Nat.le_trans M2.le (h15.2.1 g hg)
 clear M2 h15
 obtain ⟨A15, c15, rfl⟩ := (M15.isb (k := 6) rfl).shape
 refine rm rfl F15 fun _ F16 => ?_
 refine hK13 _ _ (wp_ret ?_)
 try simp only [Exit.then, Exit.inBlock, Exit.jump]
 exact bodyPost_ret (res1 rfl (F16.get rfl)) F16.defers ⟨_, rfl, M15.isb (k := 6) rfl, (fun g hg => .inl (fr15 g hg)), M15.below⟩
theorem content_4 (m : MsgN) (V : MsgV) (ho : MsgOk m) (w : World) (hm : MsgIs w m V) :
  Calls Try.prog 76 #[.agg (msgA m V), .int .i64 4] w fun e w' => ∃ v, e = .returned v ∧ IsB w' (z7 m 4) v ∧ (∀ g, bfp v g → w.heap.size ≤ g ∨ zna V g) ∧ Below w.heap.size w w' := by
 refine zi (args := [.agg (msgA m V), .int .i64 4]) 56 Try.func76 rfl rfl rfl ?_
 intro fa F
 have M := Mx.start w
 replace M := M.argB 0 hm.h5 (fun g e => by cases e)
 replace M := M.argB 1 hm.h6 (fun g e => by cases e)
 replace M := M.argB 2 hm.h7 (fun g e => by cases e)
 replace M := M.argB 3 hm.h8 (fun g e => by cases e)
 replace M := M.argB 4 hm.h9 (fun g e => by cases e)
 refine zT fun _ hK1 => ?_
 refine zg (za rfl) rfl F rfl M 5 (t := 29) (c := msgA m V) (by unfold execOp; simp only [(F.get (t := 0) rfl)]; kernel_rfl) ?_
 intro g2 a2 w2 F2 M2
 clear F M
 refine rm rfl F2 fun _ F3 => ?_
 refine hK1 _ _ (zS fun _ hK4 => ?_)
 refine zT fun _ hK5 => ?_
 refine rm rfl F3 fun _ F6 => ?_
 refine hK5 _ _ (wp_block ?_)
 refine zT fun _ hK7 => ?_
 refine zA 2 [(7, .bool false), (6, .bool false)] [] dnil [] F6 fun _ F8 => ?_
 refine hK7 _ _ (wp_cond_false (F8.get rfl) ?_)
 refine zT fun _ hK9 => ?_
 refine zA 2 [(12, .bool false), (11, .bool false)] [] dnil [] F8 fun _ F10 => ?_
 refine hK9 _ _ (wp_cond_false (F10.get rfl) ?_)
 refine zT fun _ hK11 => ?_
 refine zA 2 [(17, .bool false), (16, .bool false)] [] dnil [] F10 fun _ F12 => ?_
 refine hK11 _ _ (wp_cond_false (F12.get rfl) ?_)
 refine zT fun _ hK13 => ?_
 refine zA 2 [(22, .bool true), (21, .bool true)] [] dnil [] F12 fun _ F14 => ?_
 refine hK13 _ _ (wp_cond_true (F14.get rfl) ?_)
 refine zT fun _ hK15 => ?_
 refine zB 2 [(4, zN), (24, numV m.b)] [0] (zk (M2.blk (k := 5) rfl) dnil) [g2] F14 fun _ F16 => ?_
 refine zd (za rfl) rfl F16 rfl rfl (zE Try.func88 rfl) #[numV m.b] (zw (F16.get rfl)) (fourO_any m.b ho.b w2) ?_
 rintro v17 w17 a17 h17 F17
 have M17 := M2.newB h17.2.2 6 h17.1 h17.2.1
 have fr17 := fun g hg => Nat.le_trans M2.le (h17.2.1 g hg)
 clear M2 h17
 obtain ⟨A17, c17, rfl⟩ := (M17.isb (k := 6) rfl).shape
 refine rm rfl F17 fun _ F18 => ?_
 refine hK15 _ _ (wp_ret ?_)
 try simp only [Exit.then, Exit.inBlock, Exit.jump]
 exact bodyPost_ret (res1 rfl (F18.get rfl)) F18.defers ⟨_, rfl, M17.isb (k := 6) rfl, (fun g hg => .inl (fr17 g hg)), M17.below⟩
theorem content_5 (m : MsgN) (V : MsgV) (ho : MsgOk m) (w : World) (hm : MsgIs w m V) :
  Calls Try.prog 76 #[.agg (msgA m V), .int .i64 5] w fun e w' => ∃ v, e = .returned v ∧ IsB w' (z7 m 5) v ∧ (∀ g, bfp v g → w.heap.size ≤ g ∨ zna V g) ∧ Below w.heap.size w w' := by
 refine zi (args := [.agg (msgA m V), .int .i64 5]) 56 Try.func76 rfl rfl rfl ?_
 intro fa F
 have M := Mx.start w
 replace M := M.argB 0 hm.h5 (fun g e => by cases e)
 replace M := M.argB 1 hm.h6 (fun g e => by cases e)
 replace M := M.argB 2 hm.h7 (fun g e => by cases e)
 replace M := M.argB 3 hm.h8 (fun g e => by cases e)
 replace M := M.argB 4 hm.h9 (fun g e => by cases e)
 refine zT fun _ hK1 => ?_
 refine zg (za rfl) rfl F rfl M 5 (t := 29) (c := msgA m V) (by unfold execOp; simp only [(F.get (t := 0) rfl)]; kernel_rfl) ?_
 intro g2 a2 w2 F2 M2
 clear F M
 refine rm rfl F2 fun _ F3 => ?_
 refine hK1 _ _ (zS fun _ hK4 => ?_)
 refine zT fun _ hK5 => ?_
 refine rm rfl F3 fun _ F6 => ?_
 refine hK5 _ _ (wp_block ?_)
 refine zT fun _ hK7 => ?_
 refine zA 2 [(7, .bool false), (6, .bool false)] [] dnil [] F6 fun _ F8 => ?_
 refine hK7 _ _ (wp_cond_false (F8.get rfl) ?_)
 refine zT fun _ hK9 => ?_
 refine zA 2 [(12, .bool false), (11, .bool false)] [] dnil [] F8 fun _ F10 => ?_
 refine hK9 _ _ (wp_cond_false (F10.get rfl) ?_)
 refine zT fun _ hK11 => ?_
 refine zA 2 [(17, .bool false), (16, .bool false)] [] dnil [] F10 fun _ F12 => ?_
 refine hK11 _ _ (wp_cond_false (F12.get rfl) ?_)
 refine zT fun _ hK13 => ?_
 refine zA 2 [(22, .bool false), (21, .bool false)] [] dnil [] F12 fun _ F14 => ?_
 refine hK13 _ _ (wp_cond_false (F14.get rfl) ?_)
 refine zT fun _ hK15 => ?_
 refine zA 2 [(27, .bool true), (26, .bool true)] [] dnil [] F14 fun _ F16 => ?_
 refine hK15 _ _ (wp_cond_true (F16.get rfl) ?_)
 refine zT fun _ hK17 => ?_
 refine zB 3 [(4, V.v5)] [0] (zk (M2.blk (k := 5) rfl) dnil) [g2] F16 fun _ F18 => ?_
 refine hK17 _ _ (wp_ret ?_)
 try simp only [Exit.then, Exit.inBlock, Exit.jump]
 exact bodyPost_ret (res1 rfl (F18.get rfl)) F18.defers ⟨_, rfl, M2.isb (k := 0) rfl, (fun g hg => .inr (.inl hg)), M2.below⟩
theorem content_6 (m : MsgN) (V : MsgV) (ho : MsgOk m) (w : World) (hm : MsgIs w m V) :
  Calls Try.prog 76 #[.agg (msgA m V), .int .i64 6] w fun e w' => ∃ v, e = .returned v ∧ IsB w' (z7 m 6) v ∧ (∀ g, bfp v g → w.heap.size ≤ g ∨ zna V g) ∧ Below w.heap.size w w' := by
 refine zi (args := [.agg (msgA m V), .int .i64 6]) 56 Try.func76 rfl rfl rfl ?_
 intro fa F
 have M := Mx.start w
 replace M := M.argB 0 hm.h5 (fun g e => by cases e)
 replace M := M.argB 1 hm.h6 (fun g e => by cases e)
 replace M := M.argB 2 hm.h7 (fun g e => by cases e)
 replace M := M.argB 3 hm.h8 (fun g e => by cases e)
 replace M := M.argB 4 hm.h9 (fun g e => by cases e)
 refine zT fun _ hK1 => ?_
 refine zg (za rfl) rfl F rfl M 5 (t := 29) (c := msgA m V) (by unfold execOp; simp only [(F.get (t := 0) rfl)]; kernel_rfl) ?_
 intro g2 a2 w2 F2 M2
 clear F M
 refine rm rfl F2 fun _ F3 => ?_
 refine hK1 _ _ (zS fun _ hK4 => ?_)
 refine zT fun _ hK5 => ?_
 refine rm rfl F3 fun _ F6 => ?_
 refine hK5 _ _ (wp_block ?_)
 refine zT fun _ hK7 => ?_
 refine zA 2 [(7, .bool false), (6, .bool false)] [] dnil [] F6 fun _ F8 => ?_
 refine hK7 _ _ (wp_cond_false (F8.get rfl) ?_)
 refine zT fun _ hK9 => ?_
 refine zA 2 [(12, .bool false), (11, .bool false)] [] dnil [] F8 fun _ F10 => ?_
 refine hK9 _ _ (wp_cond_false (F10.get rfl) ?_)
 refine zT fun _ hK11 => ?_
 refine zA 2 [(17, .bool false), (16, .bool false)] [] dnil [] F10 fun _ F12 => ?_
 refine hK11 _ _ (wp_cond_false (F12.get rfl) ?_)
 refine zT fun _ hK13 => ?_
 refine zA 2 [(22, .bool false), (21, .bool false)] [] dnil [] F12 fun _ F14 => ?_
 refine hK13 _ _ (wp_cond_false (F14.get rfl) ?_)
 refine zT fun _ hK15 => ?_
 refine zA 2 [(27, .bool false), (26, .bool false)] [] dnil [] F14 fun _ F16 => ?_
 refine hK15 _ _ (wp_cond_false (F16.get rfl) ?_)
 refine zT fun _ hK17 => ?_
 refine zA 2 [(31, .bool true), (30, .bool true)] [] dnil [] F16 fun _ F18 => ?_
 refine hK17 _ _ (wp_cond_true (F18.get rfl) ?_)
 refine zT fun _ hK19 => ?_
 refine zB 3 [(4, V.v6)] [0] (zk (M2.blk (k := 5) rfl) dnil) [g2] F18 fun _ F20 => ?_
 refine hK19 _ _ (wp_ret ?_)
 try simp only [Exit.then, Exit.inBlock, Exit.jump]
 exact bodyPost_ret (res1 rfl (F20.get rfl)) F20.defers ⟨_, rfl, M2.isb (k := 1) rfl, (fun g hg => .inr (.inr (.inl hg))), M2.below⟩
theorem content_7 (m : MsgN) (V : MsgV) (ho : MsgOk m) (w : World) (hm : MsgIs w m V) :
  Calls Try.prog 76 #[.agg (msgA m V), .int .i64 7] w fun e w' => ∃ v, e = .returned v ∧ IsB w' (z7 m 7) v ∧ (∀ g, bfp v g → w.heap.size ≤ g ∨ zna V g) ∧ Below w.heap.size w w' := by
 refine zi (args := [.agg (msgA m V), .int .i64 7]) 56 Try.func76 rfl rfl rfl ?_
 intro fa F
 have M := Mx.start w
 replace M := M.argB 0 hm.h5 (fun g e => by cases e)
 replace M := M.argB 1 hm.h6 (fun g e => by cases e)
 replace M := M.argB 2 hm.h7 (fun g e => by cases e)
 replace M := M.argB 3 hm.h8 (fun g e => by cases e)
 replace M := M.argB 4 hm.h9 (fun g e => by cases e)
 refine zT fun _ hK1 => ?_
 refine zg (za rfl) rfl F rfl M 5 (t := 29) (c := msgA m V) (by unfold execOp; simp only [(F.get (t := 0) rfl)]; kernel_rfl) ?_
 intro g2 a2 w2 F2 M2
 clear F M
 refine rm rfl F2 fun _ F3 => ?_
 refine hK1 _ _ (zS fun _ hK4 => ?_)
 refine zT fun _ hK5 => ?_
 refine rm rfl F3 fun _ F6 => ?_
 refine hK5 _ _ (wp_block ?_)
 refine zT fun _ hK7 => ?_
 refine zA 2 [(7, .bool false), (6, .bool false)] [] dnil [] F6 fun _ F8 => ?_
 refine hK7 _ _ (wp_cond_false (F8.get rfl) ?_)
 refine zT fun _ hK9 => ?_
 refine zA 2 [(12, .bool false), (11, .bool false)] [] dnil [] F8 fun _ F10 => ?_
 refine hK9 _ _ (wp_cond_false (F10.get rfl) ?_)
 refine zT fun _ hK11 => ?_
 refine zA 2 [(17, .bool false), (16, .bool false)] [] dnil [] F10 fun _ F12 => ?_
 refine hK11 _ _ (wp_cond_false (F12.get rfl) ?_)
 refine zT fun _ hK13 => ?_
 refine zA 2 [(22, .bool false), (21, .bool false)] [] dnil [] F12 fun _ F14 => ?_
 refine hK13 _ _ (wp_cond_false (F14.get rfl) ?_)
 refine zT fun _ hK15 => ?_
 refine zA 2 [(27, .bool false), (26, .bool false)] [] dnil [] F14 fun _ F16 => ?_
 refine hK15 _ _ (wp_cond_false (F16.get rfl) ?_)
 refine zT fun _ hK17 => ?_
 refine zA 2 [(31, .bool false), (30, .bool false)] [] dnil [] F16 fun _ F18 => ?_
 refine hK17 _ _ (wp_cond_false (F18.get rfl) ?_)
 refine zT fun _ hK19 => ?_
 refine zA 2 [(35, .bool true), (34, .bool true)] [] dnil [] F18 fun _ F20 => ?_
 refine hK19 _ _ (wp_cond_true (F20.get rfl) ?_)
 refine zT fun _ hK21 => ?_
 refine zB 3 [(4, V.v7)] [0] (zk (M2.blk (k := 5) rfl) dnil) [g2] F20 fun _ F22 => ?_
 refine hK21 _ _ (wp_ret ?_)
 try simp only [Exit.then, Exit.inBlock, Exit.jump]
 exact bodyPost_ret (res1 rfl (F22.get rfl)) F22.defers ⟨_, rfl, M2.isb (k := 2) rfl, (fun g hg => .inr (.inr (.inr (.inl hg)))), M2.below⟩
theorem content_8 (m : MsgN) (V : MsgV) (ho : MsgOk m) (w : World) (hm : MsgIs w m V) :
  Calls Try.prog 76 #[.agg (msgA m V), .int .i64 8] w fun e w' => ∃ v, e = .returned v ∧ IsB w' (z7 m 8) v ∧ (∀ g, bfp v g → w.heap.size ≤ g ∨ zna V g) ∧ Below w.heap.size w w' := by
 refine zi (args := [.agg (msgA m V), .int .i64 8]) 56 Try.func76 rfl rfl rfl ?_
 intro fa F
 have M := Mx.start w
 replace M := M.argB 0 hm.h5 (fun g e => by cases e)
 replace M := M.argB 1 hm.h6 (fun g e => by cases e)
 replace M := M.argB 2 hm.h7 (fun g e => by cases e)
 replace M := M.argB 3 hm.h8 (fun g e => by cases e)
 replace M := M.argB 4 hm.h9 (fun g e => by cases e)
 refine zT fun _ hK1 => ?_
 refine zg (za rfl) rfl F rfl M 5 (t := 29) (c := msgA m V) (by unfold execOp; simp only [(F.get (t := 0) rfl)]; kernel_rfl) ?_
 intro g2 a2 w2 F2 M2
 clear F M
 refine rm rfl F2 fun _ F3 => ?_
 refine hK1 _ _ (zS fun _ hK4 => ?_)
 refine zT fun _ hK5 => ?_
 refine rm rfl F3 fun _ F6 => ?_
 refine hK5 _ _ (wp_block ?_)
 refine zT fun _ hK7 => ?_
 refine zA 2 [(7, .bool false), (6, .bool false)] [] dnil [] F6 fun _ F8 => ?_
 refine hK7 _ _ (wp_cond_false (F8.get rfl) ?_)
 refine zT fun _ hK9 => ?_
 refine zA 2 [(12, .bool false), (11, .bool false)] [] dnil [] F8 fun _ F10 => ?_
 refine hK9 _ _ (wp_cond_false (F10.get rfl) ?_)
 refine zT fun _ hK11 => ?_
 refine zA 2 [(17, .bool false), (16, .bool false)] [] dnil [] F10 fun _ F12 => ?_
 refine hK11 _ _ (wp_cond_false (F12.get rfl) ?_)
 refine zT fun _ hK13 => ?_
 refine zA 2 [(22, .bool false), (21, .bool false)] [] dnil [] F12 fun _ F14 => ?_
 refine hK13 _ _ (wp_cond_false (F14.get rfl) ?_)
 refine zT fun _ hK15 => ?_
 refine zA 2 [(27, .bool false), (26, .bool false)] [] dnil [] F14 fun _ F16 => ?_
 refine hK15 _ _ (wp_cond_false (F16.get rfl) ?_)
 refine zT fun _ hK17 => ?_
 refine zA 2 [(31, .bool false), (30, .bool false)] [] dnil [] F16 fun _ F18 => ?_
 refine hK17 _ _ (wp_cond_false (F18.get rfl) ?_)
 refine zT fun _ hK19 => ?_
 refine zA 2 [(35, .bool false), (34, .bool false)] [] dnil [] F18 fun _ F20 => ?_
 refine hK19 _ _ (wp_cond_false (F20.get rfl) ?_)
 refine zT fun _ hK21 => ?_
 refine zA 2 [(39, .bool true), (38, .bool true)] [] dnil [] F20 fun _ F22 => ?_
 refine hK21 _ _ (wp_cond_true (F22.get rfl) ?_)
 refine zT fun _ hK23 => ?_
 refine zB 3 [(4, V.v8)] [0] (zk (M2.blk (k := 5) rfl) dnil) [g2] F22 fun _ F24 => ?_
 refine hK23 _ _ (wp_ret ?_)
 try simp only [Exit.then, Exit.inBlock, Exit.jump]
 exact bodyPost_ret (res1 rfl (F24.get rfl)) F24.defers ⟨_, rfl, M2.isb (k := 3) rfl, (fun g hg => .inr (.inr (.inr (.inr (.inl hg))))), M2.below⟩
theorem content_9 (m : MsgN) (V : MsgV) (ho : MsgOk m) (w : World) (hm : MsgIs w m V) :
  Calls Try.prog 76 #[.agg (msgA m V), .int .i64 9] w fun e w' => ∃ v, e = .returned v ∧ IsB w' (z7 m 9) v ∧ (∀ g, bfp v g → w.heap.size ≤ g ∨ zna V g) ∧ Below w.heap.size w w' := by
 refine zi (args := [.agg (msgA m V), .int .i64 9]) 56 Try.func76 rfl rfl rfl ?_
 intro fa F
 have M := Mx.start w
 replace M := M.argB 0 hm.h5 (fun g e => by cases e)
 replace M := M.argB 1 hm.h6 (fun g e => by cases e)
 replace M := M.argB 2 hm.h7 (fun g e => by cases e)
 replace M := M.argB 3 hm.h8 (fun g e => by cases e)
 replace M := M.argB 4 hm.h9 (fun g e => by cases e)
 refine zT fun _ hK1 => ?_
 refine zg (za rfl) rfl F rfl M 5 (t := 29) (c := msgA m V) (by unfold execOp; simp only [(F.get (t := 0) rfl)]; kernel_rfl) ?_
 intro g2 a2 w2 F2 M2
 clear F M
 refine rm rfl F2 fun _ F3 => ?_
 refine hK1 _ _ (zS fun _ hK4 => ?_)
 refine zT fun _ hK5 => ?_
 refine rm rfl F3 fun _ F6 => ?_
 refine hK5 _ _ (wp_block ?_)
 refine zT fun _ hK7 => ?_
 refine zA 2 [(7, .bool false), (6, .bool false)] [] dnil [] F6 fun _ F8 => ?_
 refine hK7 _ _ (wp_cond_false (F8.get rfl) ?_)
 refine zT fun _ hK9 => ?_
 refine zA 2 [(12, .bool false), (11, .bool false)] [] dnil [] F8 fun _ F10 => ?_
 refine hK9 _ _ (wp_cond_false (F10.get rfl) ?_)
 refine zT fun _ hK11 => ?_
 refine zA 2 [(17, .bool false), (16, .bool false)] [] dnil [] F10 fun _ F12 => ?_
 refine hK11 _ _ (wp_cond_false (F12.get rfl) ?_)
 refine zT fun _ hK13 => ?_
 refine zA 2 [(22, .bool false), (21, .bool false)] [] dnil [] F12 fun _ F14 => ?_
 refine hK13 _ _ (wp_cond_false (F14.get rfl) ?_)
 refine zT fun _ hK15 => ?_
 refine zA 2 [(27, .bool false), (26, .bool false)] [] dnil [] F14 fun _ F16 => ?_
 refine hK15 _ _ (wp_cond_false (F16.get rfl) ?_)
 refine zT fun _ hK17 => ?_
 refine zA 2 [(31, .bool false), (30, .bool false)] [] dnil [] F16 fun _ F18 => ?_
 refine hK17 _ _ (wp_cond_false (F18.get rfl) ?_)
 refine zT fun _ hK19 => ?_
 refine zA 2 [(35, .bool false), (34, .bool false)] [] dnil [] F18 fun _ F20 => ?_
 refine hK19 _ _ (wp_cond_false (F20.get rfl) ?_)
 refine zT fun _ hK21 => ?_
 refine zA 2 [(39, .bool false), (38, .bool false)] [] dnil [] F20 fun _ F22 => ?_
 refine hK21 _ _ (wp_cond_false (F22.get rfl) ?_)
 refine zT fun _ hK23 => ?_
 refine zA 2 [(43, .bool true), (42, .bool true)] [] dnil [] F22 fun _ F24 => ?_
 refine hK23 _ _ (wp_cond_true (F24.get rfl) ?_)
 refine zT fun _ hK25 => ?_
 refine zB 3 [(4, V.v9)] [0] (zk (M2.blk (k := 5) rfl) dnil) [g2] F24 fun _ F26 => ?_
 refine hK25 _ _ (wp_ret ?_)
 try simp only [Exit.then, Exit.inBlock, Exit.jump]
 exact bodyPost_ret (res1 rfl (F26.get rfl)) F26.defers ⟨_, rfl, M2.isb (k := 4) rfl, (fun g hg => .inr (.inr (.inr (.inr (.inr hg))))), M2.below⟩
theorem content_10 (m : MsgN) (V : MsgV) (ho : MsgOk m) (w : World) (hm : MsgIs w m V) :
  Calls Try.prog 76 #[.agg (msgA m V), .int .i64 10] w fun e w' => ∃ v, e = .returned v ∧ IsB w' (z7 m 10) v ∧ (∀ g, bfp v g → w.heap.size ≤ g ∨ zna V g) ∧ Below w.heap.size w w' := by
 refine zi (args := [.agg (msgA m V), .int .i64 10]) 56 Try.func76 rfl rfl rfl ?_
 intro fa F
 have M := Mx.start w
 replace M := M.argB 0 hm.h5 (fun g e => by cases e)
 replace M := M.argB 1 hm.h6 (fun g e => by cases e)
 replace M := M.argB 2 hm.h7 (fun g e => by cases e)
 replace M := M.argB 3 hm.h8 (fun g e => by cases e)
 replace M := M.argB 4 hm.h9 (fun g e => by cases e)
 refine zT fun _ hK1 => ?_
 refine zg (za rfl) rfl F rfl M 5 (t := 29) (c := msgA m V) (by unfold execOp; simp only [(F.get (t := 0) rfl)]; kernel_rfl) ?_
 intro g2 a2 w2 F2 M2
 clear F M
 refine rm rfl F2 fun _ F3 => ?_
 refine hK1 _ _ (zS fun _ hK4 => ?_)
 refine zT fun _ hK5 => ?_
 refine rm rfl F3 fun _ F6 => ?_
 refine hK5 _ _ (wp_block ?_)
 refine zT fun _ hK7 => ?_
 refine zA 2 [(7, .bool false), (6, .bool false)] [] dnil [] F6 fun _ F8 => ?_
 refine hK7 _ _ (wp_cond_false (F8.get rfl) ?_)
 refine zT fun _ hK9 => ?_
 refine zA 2 [(12, .bool false), (11, .bool false)] [] dnil [] F8 fun _ F10 => ?_
 refine hK9 _ _ (wp_cond_false (F10.get rfl) ?_)
 refine zT fun _ hK11 => ?_
 refine zA 2 [(17, .bool false), (16, .bool false)] [] dnil [] F10 fun _ F12 => ?_
 refine hK11 _ _ (wp_cond_false (F12.get rfl) ?_)
 refine zT fun _ hK13 => ?_
 refine zA 2 [(22, .bool false), (21, .bool false)] [] dnil [] F12 fun _ F14 => ?_
 refine hK13 _ _ (wp_cond_false (F14.get rfl) ?_)
 refine zT fun _ hK15 => ?_
 refine zA 2 [(27, .bool false), (26, .bool false)] [] dnil [] F14 fun _ F16 => ?_
 refine hK15 _ _ (wp_cond_false (F16.get rfl) ?_)
 refine zT fun _ hK17 => ?_
 refine zA 2 [(31, .bool false), (30, .bool false)] [] dnil [] F16 fun _ F18 => ?_
 refine hK17 _ _ (wp_cond_false (F18.get rfl) ?_)
 refine zT fun _ hK19 => ?_
 refine zA 2 [(35, .bool false), (34, .bool false)] [] dnil [] F18 fun _ F20 => ?_
 refine hK19 _ _ (wp_cond_false (F20.get rfl) ?_)
 refine zT fun _ hK21 => ?_
 refine zA 2 [(39, .bool false), (38, .bool false)] [] dnil [] F20 fun _ F22 => ?_
 refine hK21 _ _ (wp_cond_false (F22.get rfl) ?_)
 refine zT fun _ hK23 => ?_
 refine zA 2 [(43, .bool false), (42, .bool false)] [] dnil [] F22 fun _ F24 => ?_
 refine hK23 _ _ (wp_cond_false (F24.get rfl) ?_)
 refine zT fun _ hK25 => ?_
 refine zA 2 [(47, .bool true), (46, .bool true)] [] dnil [] F24 fun _ F26 => ?_
 refine hK25 _ _ (wp_cond_true (F26.get rfl) ?_)
 refine zT fun _ hK27 => ?_
 refine zB 2 [(4, zN), (49, .int .i64 m.c)] [0] (zk (M2.blk (k := 5) rfl) dnil) [g2] F26 fun _ F28 => ?_
 refine zd (za rfl) rfl F28 rfl rfl (zE Try.func89 rfl) #[.int .i64 m.c] (zw (F28.get rfl)) (eightO_any m.c w2) ?_
 rintro v29 w29 a29 h29 F29
 have M29 := M2.newO h29.2 6 h29.1
 clear M2 h29
 obtain ⟨A29, c29, rfl⟩ := (M29.isO (k := 6) rfl).shape
 refine rm rfl F29 fun _ F30 => ?_
 refine hK27 _ _ (wp_ret ?_)
 try simp only [Exit.then, Exit.inBlock, Exit.jump]
 exact bodyPost_ret (res1 rfl (F30.get rfl)) F30.defers ⟨_, rfl, M29.isO (k := 6) rfl, (fun g hg => .inl (M29.owns (k := 6) rfl g (zfa hg))), M29.below⟩
theorem content_11 (m : MsgN) (V : MsgV) (ho : MsgOk m) (w : World) (hm : MsgIs w m V) :
  Calls Try.prog 76 #[.agg (msgA m V), .int .i64 11] w fun e w' => ∃ v, e = .returned v ∧ IsB w' (z7 m 11) v ∧ (∀ g, bfp v g → w.heap.size ≤ g ∨ zna V g) ∧ Below w.heap.size w w' := by
 refine zi (args := [.agg (msgA m V), .int .i64 11]) 56 Try.func76 rfl rfl rfl ?_
 intro fa F
 have M := Mx.start w
 replace M := M.argB 0 hm.h5 (fun g e => by cases e)
 replace M := M.argB 1 hm.h6 (fun g e => by cases e)
 replace M := M.argB 2 hm.h7 (fun g e => by cases e)
 replace M := M.argB 3 hm.h8 (fun g e => by cases e)
 replace M := M.argB 4 hm.h9 (fun g e => by cases e)
 refine zT fun _ hK1 => ?_
 refine zg (za rfl) rfl F rfl M 5 (t := 29) (c := msgA m V) (by unfold execOp; simp only [(F.get (t := 0) rfl)]; kernel_rfl) ?_
 intro g2 a2 w2 F2 M2
 clear F M
 refine rm rfl F2 fun _ F3 => ?_
 refine hK1 _ _ (zS fun _ hK4 => ?_)
 refine zT fun _ hK5 => ?_
 refine rm rfl F3 fun _ F6 => ?_
 refine hK5 _ _ (wp_block ?_)
 refine zT fun _ hK7 => ?_
 refine zA 2 [(7, .bool false), (6, .bool false)] [] dnil [] F6 fun _ F8 => ?_
 refine hK7 _ _ (wp_cond_false (F8.get rfl) ?_)
 refine zT fun _ hK9 => ?_
 refine zA 2 [(12, .bool false), (11, .bool false)] [] dnil [] F8 fun _ F10 => ?_
 refine hK9 _ _ (wp_cond_false (F10.get rfl) ?_)
 refine zT fun _ hK11 => ?_
 refine zA 2 [(17, .bool false), (16, .bool false)] [] dnil [] F10 fun _ F12 => ?_
 refine hK11 _ _ (wp_cond_false (F12.get rfl) ?_)
 refine zT fun _ hK13 => ?_
 refine zA 2 [(22, .bool false), (21, .bool false)] [] dnil [] F12 fun _ F14 => ?_
 refine hK13 _ _ (wp_cond_false (F14.get rfl) ?_)
 refine zT fun _ hK15 => ?_
 refine zA 2 [(27, .bool false), (26, .bool false)] [] dnil [] F14 fun _ F16 => ?_
 refine hK15 _ _ (wp_cond_false (F16.get rfl) ?_)
 refine zT fun _ hK17 => ?_
 refine zA 2 [(31, .bool false), (30, .bool false)] [] dnil [] F16 fun _ F18 => ?_
 refine hK17 _ _ (wp_cond_false (F18.get rfl) ?_)
 refine zT fun _ hK19 => ?_
 refine zA 2 [(35, .bool false), (34, .bool false)] [] dnil [] F18 fun _ F20 => ?_
 refine hK19 _ _ (wp_cond_false (F20.get rfl) ?_)
 refine zT fun _ hK21 => ?_
 refine zA 2 [(39, .bool false), (38, .bool false)] [] dnil [] F20 fun _ F22 => ?_
 refine hK21 _ _ (wp_cond_false (F22.get rfl) ?_)
 refine zT fun _ hK23 => ?_
 refine zA 2 [(43, .bool false), (42, .bool false)] [] dnil [] F22 fun _ F24 => ?_
 refine hK23 _ _ (wp_cond_false (F24.get rfl) ?_)
 refine zT fun _ hK25 => ?_
 refine zA 2 [(47, .bool false), (46, .bool false)] [] dnil [] F24 fun _ F26 => ?_
 refine hK25 _ _ (wp_cond_false (F26.get rfl) ?_)
 refine zT fun _ hK27 => ?_
 refine rn rfl rfl F26 rfl (.bool true) (zp _ _ _ _ rfl (F26.get rfl) rfl Try.underlying3 (zma (by decide))) fun _ F28 => ?_
 refine rm rfl F28 fun _ F29 => ?_
 refine hK27 _ _ (wp_cond_true (F29.get rfl) ?_)
 refine zT fun _ hK30 => ?_
 refine zB 2 [(4, zN), (54, .int .i64 m.e)] [0] (zk (M2.blk (k := 5) rfl) dnil) [g2] F29 fun _ F31 => ?_
 refine zd (za rfl) rfl F31 rfl rfl (zE Try.func87 rfl) #[.int .i64 m.e] (zw (F31.get rfl)) (octet_any m.e w2) ?_
 rintro v32 w32 a32 h32 F32
 have M32 := M2.newO h32.2 6 h32.1
 clear M2 h32
 obtain ⟨A32, c32, rfl⟩ := (M32.isO (k := 6) rfl).shape
 refine rm rfl F32 fun _ F33 => ?_
 refine hK30 _ _ (wp_ret ?_)
 try simp only [Exit.then, Exit.inBlock, Exit.jump]
 exact bodyPost_ret (res1 rfl (F33.get rfl)) F33.defers ⟨_, rfl, M32.isO (k := 6) rfl, (fun g hg => .inl (M32.owns (k := 6) rfl g (zfa hg))), M32.below⟩
theorem content_any (m : MsgN) (V : MsgV) (ho : MsgOk m) (n : Nat) (h1 : 1 ≤ n) (h2 : n ≤ 11) (w : World) (hm : MsgIs w m V) :
    Calls Try.prog 76 #[.agg (msgA m V), .int .i64 (n : Int)] w fun e w' => ∃ v, e = .returned v ∧ IsB w' (z7 m n) v ∧ (∀ g, bfp v g → w.heap.size ≤ g ∨ zna V g) ∧ Below w.heap.size w w' := by
  have : n = 1 ∨ n = 2 ∨ n = 3 ∨ n = 4 ∨ n = 5 ∨ n = 6 ∨ n = 7 ∨ n = 8 ∨ n = 9 ∨ n = 10 ∨ n = 11 := by omega
  rcases this with rfl | rfl | rfl | rfl | rfl | rfl | rfl | rfl | rfl | rfl | rfl
  · exact content_1 m V ho w hm
  · exact content_2 m V ho w hm
  · exact content_3 m V ho w hm
  · exact content_4 m V ho w hm
  · exact content_5 m V ho w hm
  · exact content_6 m V ho w hm
  · exact content_7 m V ho w hm
  · exact content_8 m V ho w hm
  · exact content_9 m V ho w hm
  · exact content_10 m V ho w hm
  · exact content_11 m V ho w hm
end Go.Proofs.Ytlbkogdmojlpmaa
namespace Go.Proofs.Ytlbkogdmojlpmaa
open Go.ChangeShapes Go.WideShapes Go.ChangeAt Go.RowKit Go.Shelf
variable {ds : List Deferred}
section
variable {a : Act} {w : World} {o : Oper}
theorem y_ixI (x k : Operand) (ho : o.op = .indexAddr 38 x k) {b q n c i : Nat} {z : Int} (hx : a.eval x = .slice (some ⟨b, q, none⟩) n c) (hk : a.eval k = .int .i64 z) (hz : z = (i : Int)) (hi : i < n) {j : Nat} (hj : q + i = j) : (execOp a.eval o).run Try.prog w = .ok (.value (.pointer (some ⟨b, j, none⟩))) w := by
  subst hz hj
  unfold execOp
  simp only [ho, hx, hk]
  have h0 : ¬ ((i : Int) < 0) := by omega
  have h1 : (i : Int) < (n : Int) := by omega
  simp [go_sem, h0, h1, hi]
end
theorem infoInt : ∃ i, Try.prog.info? 3 = some i ∧ i.zero = some (.int .i64 0) ∧ i.size = 1 := by
  have h0 : (Try.prog.info? 3).isSome = true := by kernel_rfl
  have h1 : (Try.prog.info? 3).map (·.size) = some 1 := by kernel_rfl
  have h2 : (Try.prog.info? 3).bind (·.zero) = some (.int .i64 0) := by kernel_rfl
  cases h : Try.prog.info? 3 with
  | none => rw [h] at h0; cases h0
  | some i =>
    rw [h] at h1 h2
    exact ⟨i, rfl, h2, Option.some.inj h1⟩
theorem y_litI {a : Act} {w : World} {o : Oper} {n : Nat} {ps : Array (Nat × Operand)} (ho : o.op = .buildSlice 38 n ps) (vs : Array Value) (hn : vs.size = n) (h0 : 0 < n) (hm : n ≤ 1000)
    (hf : Instr.fill (fun i => some (i * 1, 1)) ((Array.range (n * 1)).map ((Value.int .i64 0).cells[· % (Value.int .i64 0).cells.size]!)) (ps.map fun (i, x) => (i, a.eval x)).toList = some vs) :
    (execOp a.eval o).run Try.prog w = .ok (.value (.slice (some ⟨w.heap.size, 0, none⟩) n n)) (w.alloc (.cells vs 3)) := by
  obtain ⟨i, i1, i2, i3⟩ := infoInt
  unfold execOp
  simp only [ho, Sem.run_bind, run_buildSlice w 38 3 n _ vs i (.int .i64 0) Try.underlying38 i1 i2 (by rw [i3]; omega) (by rw [i3]; omega) (by rw [i3]; exact hf), Result.andThen_ok, Sem.run_pure]
section
variable {P : Program} {ops : Array Oper} {Q : Exit → Act → World → Prop} {a : Act} {w w0 : World} {rest : List Oper} {o : Oper} {n : Nat} {G : Option Nat} {V : List (Nat × Value)} {R : List (Nat × Res)}
theorem zya (hw : Region.wanted o (yielded ops a.tmps) = true) {d : Nat} (hd : o.dst = some d) (F : Fx n a V ds) (hn : Nat.blt d n = true) (M : Mx G w0 w R) (i : Nat) {t : TypeId} {c : Array Value} {k m : Nat} (hr : (execOp a.eval o).run P w = .ok (.value (.slice (some ⟨w.heap.size, 0, none⟩) k m)) (w.alloc (.cells c t)))
    (h : ∀ g a' w', Fx n a' ((d, .slice (some ⟨g, 0, none⟩) k m) :: V) ds → Mx G w0 w' ((i, blkR g t c) :: R) → wpList P ops Q rest a' w') : wpList P ops Q (o :: rest) a w :=
  ze hw hd F hn _ hr fun a' F' => h _ a' _ F' (M.alloc i t c)
end
end Go.Proofs.Ytlbkogdmojlpmaa
