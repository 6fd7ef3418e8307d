/- Bytes in frames and memory: for walks by program. -/
import Derived.Test.YtgccbfkofkohpaaSym
import Derived.Test.YtgccbfkofkohpaaGaRel
import Derived.Great.BuildSlice
import Derived.Deep.Upon
import Derived.Test.YtgccbfkofkohpaaGenT
import Derived.Test.YtgccbfkofkohpaaGaSy
namespace Go.Proofs.Ytgccbfkofkohpaa
set_option linter.unusedVariables false
set_option maxRecDepth 20000
set_option linter.unusedSimpArgs false
open Go.ChangeShapes Go.WideShapes Go.ChangeAt Go.RowKit Go.Shelf
/-- The block that bytes lie in. -/
def bfp (v : Value) (g : Nat) : Prop := ∃ o s n c, v = .slice (some ⟨g, o, s⟩) n c ∧ 0 < n
/-- The block of a row of one's own. -/
def ofp (v : Value) (g : Nat) : Prop := v.ownBlock = some g
theorem bfp_ofp {v : Value} {g : Nat} (h : bfp v g) : ofp v g := by
  obtain ⟨o, s, n, c, rfl, _⟩ := h
  rfl
theorem IsB.same {l : List UInt8} {v : Value} {u u' : World} (hs : Same (bfp v) u u') (h : IsB u l v) : IsB u' l v := by
  obtain ⟨A, c, rfl, h1, h2, h3, h4⟩ := h
  refine ⟨A, c, rfl, h1, h2, h3, fun hp => ?_⟩
  obtain ⟨b, o, e, hb, hc⟩ := h4.at hp
  subst e
  have hw : u.heap[b]? = some u.heap[b] := Array.getElem?_eq_getElem hb
  have h5 := hs b _ ⟨o, none, _, _, rfl, hp⟩ hw
  refine ⟨_, rfl, (Array.getElem?_eq_some_iff.1 h5).1, fun j x hx => ?_⟩
  rw [addr_add]
  exact (World.cell?_of_block (a := ⟨b, o + j, none⟩) (h5.trans hw.symm)).trans (hc j x hx)
theorem IsB.lt {l : List UInt8} {v : Value} {u : World} (h : IsB u l v) {g : Nat} (hg : bfp v g) : g < u.heap.size := by
  obtain ⟨A, c, rfl, h1, h2, h3, h4⟩ := h
  obtain ⟨o, s, n, c', e, hn⟩ := hg
  injection e with e1 e2 e3
  subst e2
  obtain ⟨b, o', e4, hb, _⟩ := h4.at hn
  rw [e4] at e1
  injection e1 with e1
  injection e1 with e1
  subst e1
  exact hb
theorem Byt.same {l : List UInt8} {v : Value} {b : Nat} {u u' : World} (hs : Same (ofp v) u u') (h : Byt u b v l) : Byt u' b v l := by
  refine ⟨h.1, ?_⟩
  rcases h.2 with hn | ⟨g, c, cur, e, hbg, hg, rest⟩
  · exact .inl hn
  · exact .inr ⟨g, c, cur, e, hbg, hs g _ (by rw [ofp, e]; rfl) hg, rest⟩
theorem Byt.rebase {l : List UInt8} {v : Value} {b B : Nat} {u : World} (h : Byt u b v l) (hB : ∀ k, v.ownBlock = some k → B ≤ k) : Byt u B v l := by
  refine ⟨h.1, ?_⟩
  rcases h.2 with hn | ⟨g, c, cur, e, hbg, rest⟩
  · exact .inl hn
  · exact .inr ⟨g, c, cur, e, hB g (by rw [e]; rfl), rest⟩
theorem Byt.isb {w : World} {b : Nat} {v : Value} {l : List UInt8} (h : Byt w b v l) : IsB w l v := by
  obtain ⟨A, c, e, h1, h2, h3, h4⟩ := h.slice
  refine ⟨A, c, e, h1, h2, fun hA => ?_, h3⟩
  rcases h.2 with ⟨e2, h0⟩ | ⟨g, c', cur, e2, _⟩
  · rw [e] at e2; injection e2
  · rw [e] at e2; injection e2 with e2; rw [hA] at e2; cases e2
theorem isb_nil (w : World) : IsB w [] (.slice none 0 0) := ⟨none, 0, rfl, Nat.le_refl _, by unfold maxLen; omega, fun _ => rfl, fun h => absurd h (by simp)⟩
/-- Bytes that are only read. -/
def bytR (l : List UInt8) (v : Value) : Res := ⟨false, bfp v, fun w => IsB w l v⟩
/-- A row of one's own. -/
def ownR (l : List UInt8) (v : Value) : Res := ⟨true, ofp v, fun w => Byt w 0 v l⟩
section
variable {G : Option Nat} {w0 w w' : World} {R : List (Nat × Res)} {l r : List UInt8} {v u : Value} {i k : Nat}
theorem Mx.isb (M : Mx G w0 w R) (h : look R k = some (bytR l v)) : IsB w l v := M.at_ k _ h
theorem Mx.isO (M : Mx G w0 w R) (h : look R k = some (ownR l v)) : IsB w l v := Byt.isb (M.at_ k _ h)
theorem Mx.byt (M : Mx none w0 w R) (h : look R k = some (ownR l v)) : Byt w w0.heap.size v l :=
  Byt.rebase (b := 0) (M.at_ k _ h) fun g hg => by
    rcases M.own k _ h rfl g hg with h | h
    · exact h
    · cases h
theorem Mx.bytG (M : Mx G w0 w R) (h : look R k = some (ownR l v)) (hG : ∀ g, G = some g → v.ownBlock ≠ some g) : Byt w w0.heap.size v l :=
  Byt.rebase (b := 0) (M.at_ k _ h) fun g hg => by
    rcases M.own k _ h rfl g hg with h | h
    · exact h
    · exact absurd hg (hG g h)
theorem bytR_dep : ∀ u u', Same (bytR l v).fp u u' → (bytR l v).F u → (bytR l v).F u' := fun _ _ hs h => IsB.same hs h
theorem ownR_dep : ∀ u u', Same (ownR l v).fp u u' → (ownR l v).F u → (ownR l v).F u' := fun _ _ hs h => Byt.same hs h
/-- Bytes that came in. -/
theorem Mx.argB (M : Mx G w0 w R) (i : Nat) (h : IsB w0 l v) (hG : ∀ g, G = some g → ¬ bfp v g) : Mx G w0 w ((i, bytR l v) :: R) :=
  M.arg i _ (IsB.same (u := w0) (fun g o hg ho => (M.grown.block g (Array.getElem?_eq_some_iff.1 ho).1 (fun e => hG g e.symm hg)).trans ho) h) bytR_dep rfl fun g hg => ⟨h.lt hg, fun e => hG g e hg⟩
theorem blkO_dep {g : Nat} {t : TypeId} {c : Array Value} : ∀ u u', Same (blkO g t c).fp u u' → (blkO g t c).F u → (blkO g t c).F u' := fun u u' hs h => hs g _ rfl h
/-- A block that came in. -/
theorem Mx.argO (M : Mx G w0 w R) (i : Nat) {g : Nat} {t : TypeId} {c : Array Value} (h : w0.heap[g]? = some (.cells c t (0, 0))) (hG : ∀ b, G = some b → ¬ g = b) : Mx G w0 w ((i, blkO g t c) :: R) :=
  M.arg i _ ((M.grown.block g (Array.getElem?_eq_some_iff.1 h).1 (fun e => hG g e.symm rfl)).trans h) blkO_dep rfl fun b hb => ⟨by rw [show b = g from hb]; exact (Array.getElem?_eq_some_iff.1 h).1, fun e => hG b e (show b = g from hb).symm⟩
/-- A part of bytes. -/
theorem Mx.partB (M : Mx G w0 w R) (i : Nat) (hk : look R k = some (bytR r u)) (h : IsB w l v) (hlo : ∀ g, bfp v g → bfp u g) : Mx G w0 w ((i, bytR l v) :: R) :=
  M.part i _ h bytR_dep rfl hk rfl hlo
/-- Bytes that a call made. -/
theorem Mx.newO (M : Mx G w0 w R) (h : Below w.heap.size w w') (i : Nat) (hv : Byt w' w.heap.size v l) : Mx G w0 w' ((i, ownR l v) :: R) :=
  M.fresh h i _ (hv.rebase fun _ _ => Nat.zero_le _) ownR_dep fun g hg => hv.lt g hg
theorem Mx.newB (M : Mx G w0 w R) (h : Below w.heap.size w w') (i : Nat) (hv : IsB w' l v) (hlo : ∀ g, bfp v g → w.heap.size ≤ g) : Mx G w0 w' ((i, bytR l v) :: R) :=
  M.fresh h i _ hv bytR_dep fun g hg => ⟨hlo g hg, hv.lt hg⟩
theorem Mx.owns (M : Mx none w0 w R) (h : look R k = some (ownR l v)) : ∀ g, ofp v g → w0.heap.size ≤ g := fun g hg => (M.own k _ h rfl g hg).resolve_right fun e => by cases e
/-- No bytes yet. -/
theorem Mx.nilO (M : Mx G w0 w R) (i : Nat) : Mx G w0 w ((i, ownR [] (.slice none 0 0)) :: R) :=
  M.cons i _ (Byt.nil w 0) ownR_dep (fun g hg => by cases hg) (fun _ g hg => by cases hg) (fun _ _ _ _ _ g hg => by cases hg)
/-- A row of one's own is only read from here on. -/
theorem Mx.tame (M : Mx G w0 w R) (hk : look R k = some (ownR l v)) : Mx G w0 w ((k, bytR l v) :: R) :=
  M.cons k _ (M.isO hk) bytR_dep (fun g hg => M.lt k _ hk g (bfp_ofp hg)) (fun e => by cases e) fun j s e hj _ g hg => M.dis k j _ s hk e hj rfl g (bfp_ofp hg)
end
/-- Where byte i lies. -/
def ixV (v : Value) (i : Nat) : Value := match v with
  | .slice (some ad) _ _ => .pointer (some (ad.add i))
  | _ => undef
section
variable {a : Act} {w : World} {o : Oper} {l r : List UInt8} {v u : Value}
theorem y_len (x : Operand) (ho : o.op = .call { callee := .builtin .len, args := #[x], argTypes := #[43] }) (hx : a.eval x = v) (hB : IsB w l v) {z : Int} (hz : (l.length : Int) = z) : (execOp a.eval o).run Try.prog w = .ok (.value (.int .i64 z)) w := by
  subst hz
  obtain ⟨A, c, h1, _⟩ := hB
  exact run_ln x _ ho (hx.trans h1) Try.underlying43
theorem y_ixB (x k : Operand) (ho : o.op = .indexAddr 43 x k) (hx : a.eval x = v) (hB : IsB w l v) {z : Int} {i : Nat} (hk : a.eval k = .int .i64 z) (hz : z = (i : Int)) (hi : i < l.length) : (execOp a.eval o).run Try.prog w = .ok (.value (ixV v i)) w := by
  subst hz
  obtain ⟨A, c, rfl, h1, h2, h3, h4⟩ := hB
  obtain ⟨b, q, rfl, hb, hc⟩ := h4.at (by omega)
  unfold execOp
  simp only [ho, hx, hk]
  have h0 : ¬ ((i : Int) < 0) := by omega
  have h5 : (i : Int) < (l.length : Int) := by omega
  simp [go_sem, h0, h5, hi, ixV, addr_add]
theorem y_ldB (x : Operand) (ho : o.op = .load 5 x) {i : Nat} (hx : a.eval x = ixV v i) (hB : IsB w l v) {b : UInt8} (hl : l[i]? = some b) {z : Int} (hz : ((b.toNat : Nat) : Int) = z) : (execOp a.eval o).run Try.prog w = .ok (.value (.int .u8 z)) w := by
  subst hz
  obtain ⟨A, c, rfl, h1, h2, h3, h4⟩ := hB
  obtain ⟨g, q, rfl, hb, hc⟩ := h4.at (by have := (List.getElem?_eq_some_iff.1 hl).1; omega)
  have hcell := hc i b hl
  have hx' : a.eval x = .pointer (some ⟨g, q + i, none⟩) := by rw [hx]; simp [ixV, addr_add]
  have h6 : (isAgg 5).run Try.prog w = .ok false w := by
    unfold isAgg
    simp only [Sem.run_bind, run_underlying Try.underlying5, Result.andThen_ok]
    rfl
  unfold execOp
  simp only [ho, hx', Instr.loadAt, Instr.sureAddr, loadVar, Sem.run_bind, Sem.run_pure, Result.andThen_ok, h6, Bool.false_eq_true, if_false]
  simp [hcell, Result.andThen]
theorem y_str (x : Operand) (ho : o.op = .convert 43 9 x) (hx : a.eval x = v) (hB : IsB w l v) : (execOp a.eval o).run Try.prog w = .ok (.value (.string ⟨l.toArray⟩)) w := by
  obtain ⟨A, c, rfl, h1, h2, h3, h4⟩ := hB
  exact run_cv' _ _ x ho hx (run_string_bytes w A l _ c rfl h4)
theorem elem_byt : Try.prog.elem 43 = 5 := by kernel_rfl
theorem size_byt (w : World) : (sizeOf 5).run Try.prog w = .ok 1 w := by
  obtain ⟨i, h1, h2, h3, _⟩ := info_u8
  simp [sizeOf, typeInfo, h1, h3]
/-- Bytes from i on, to j. -/
def slV (A : Option Addr) (c i n : Nat) : Value := .slice (if c = i then A else A.map (·.add i)) n (c - i)
theorem slV_isB {A : Option Addr} {c i j : Nat} (h1 : l.length ≤ c) (h2 : c ≤ maxLen) (h3 : A = none → c = 0) (h4 : Rd w A l) (hi : i ≤ j) (hj : j ≤ l.length) : IsB w ((l.drop i).take (j - i)) (slV A c i (j - i)) := by
  have hn : ((l.drop i).take (j - i)).length = j - i := by simp; omega
  refine ⟨if c = i then A else A.map (·.add i), c - i, by unfold slV; rw [hn], by rw [hn]; omega, by omega, fun e => ?_, fun hp => ?_⟩
  · split at e
    · omega
    · rw [Option.map_eq_none_iff] at e; have := h3 e; omega
  · rw [hn] at hp
    obtain ⟨b, q, rfl, hb, hc⟩ := h4.at (by omega)
    rw [if_neg (by omega)]
    refine ⟨_, rfl, by simpa [addr_add] using hb, fun x y hy => ?_⟩
    have hy' : l[i + x]? = some y := by
      rw [List.getElem?_take] at hy
      split at hy
      · rwa [List.getElem?_drop] at hy
      · cases hy
    have := hc (i + x) y hy'
    simp only [addr_add]
    rwa [show q + i + x = q + (i + x) by omega]
theorem slV_fp {A : Option Addr} {c i n m k : Nat} (hn : n = 0 ∨ 0 < m) : ∀ g, bfp (slV A c i n) g → bfp (.slice A m k) g := fun g ⟨o, s, n', c', e, h⟩ => by
  unfold slV at e
  injection e with e1 e2 e3
  have hm : 0 < m := by omega
  split at e1
  · exact ⟨o, s, m, k, by rw [e1], hm⟩
  · cases A with
    | none => cases e1
    | some ad =>
      obtain ⟨b, q, t⟩ := ad
      simp only [Option.map_some, Option.some.injEq] at e1
      have : (⟨b, q, t⟩ : Addr).add i = ⟨g, o, s⟩ := e1
      have hb : ((⟨b, q, t⟩ : Addr).add i).block = b := by unfold Addr.add; split <;> rfl
      rw [this] at hb
      subst hb
      exact ⟨q, t, m, k, rfl, hm⟩
theorem under_byt : Try.prog.underlying 43 = some (.slice (Try.prog.elem 43)) := by rw [elem_byt]; exact Try.underlying43
theorem map_add0 (A : Option Addr) : A.map (·.add 0) = A := by
  cases A with
  | none => rfl
  | some a => simp [Addr.add]
theorem y_slFrom (x k : Operand) (ho : o.op = .slice 43 x (some k) none none) (hx : a.eval x = v) (hB : IsB w l v) {z : Int} {i : Nat} (hk : a.eval k = .int .i64 z) (hz : z = (i : Int)) (hi : i ≤ l.length) : ∃ u, (execOp a.eval o).run Try.prog w = .ok (.value u) w ∧ IsB w (l.drop i) u ∧ ∀ g, bfp u g → bfp v g := by
  subst hz
  obtain ⟨A, c, rfl, h1, h2, h3, h4⟩ := hB
  refine ⟨slV A c i (l.length - i), ?_, ?_, slV_fp (show l.length - i = 0 ∨ 0 < l.length by omega)⟩
  · unfold execOp
    simp only [ho, hx]
    simp only [Option.map_some, Option.map_none, hk]
    rw [Sem.run_bind, run_sliceAt_slice _ _ _ _ _ _ under_byt, run_slice_l _ _ _ _ _ under_byt .i64 i (by omega) (by omega), elem_byt, size_byt]
    simp only [Result.andThen_ok, sliced, Int.toNat_natCast, Nat.mul_one, slV, Sem.run_pure]
  · have := slV_isB (i := i) (j := l.length) h1 h2 h3 h4 hi (Nat.le_refl _)
    rwa [List.take_of_length_le (by simp)] at this
theorem y_slTo (x k : Operand) (ho : o.op = .slice 43 x none (some k) none) (hx : a.eval x = v) (hB : IsB w l v) {z : Int} {j : Nat} (hk : a.eval k = .int .i64 z) (hz : z = (j : Int)) (hj : j ≤ l.length) : ∃ u, (execOp a.eval o).run Try.prog w = .ok (.value u) w ∧ IsB w (l.take j) u ∧ ∀ g, bfp u g → bfp v g := by
  subst hz
  obtain ⟨A, c, rfl, h1, h2, h3, h4⟩ := hB
  have e0 : (if c = 0 then A else A.map (·.add 0)) = A := by split; · rfl
                                                             · exact map_add0 A
  refine ⟨slV A c 0 (j - 0), ?_, ?_, slV_fp (show j - 0 = 0 ∨ 0 < l.length by omega)⟩
  · unfold execOp
    simp only [ho, hx]
    simp only [Option.map_some, Option.map_none, hk]
    rw [Sem.run_bind, run_sliceAt_slice _ _ _ _ _ _ under_byt, run_slice_h _ _ _ _ _ under_byt .i64 j (by omega) (by omega), elem_byt, size_byt]
    simp only [Result.andThen_ok, sliced, Int.toNat_natCast, Nat.mul_one, slV, Sem.run_pure, Nat.sub_zero, e0, ite_self, map_add0]
  · have := slV_isB (i := 0) (j := j) h1 h2 h3 h4 (Nat.zero_le _) hj
    rwa [List.drop_zero] at this
theorem y_slOf (x p q : Operand) (ho : o.op = .slice 43 x (some p) (some q) none) (hx : a.eval x = v) (hB : IsB w l v) {y z : Int} {i j : Nat} (hp : a.eval p = .int .i64 y) (hy : y = (i : Int)) (hq : a.eval q = .int .i64 z) (hz : z = (j : Int)) (hi : i ≤ j) (hj : j ≤ l.length) : ∃ u, (execOp a.eval o).run Try.prog w = .ok (.value u) w ∧ IsB w ((l.drop i).take (j - i)) u ∧ ∀ g, bfp u g → bfp v g := by
  subst hy hz
  obtain ⟨A, c, rfl, h1, h2, h3, h4⟩ := hB
  refine ⟨slV A c i (j - i), ?_, slV_isB h1 h2 h3 h4 hi hj, slV_fp (show j - i = 0 ∨ 0 < l.length by omega)⟩
  unfold execOp
  simp only [ho, hx]
  simp only [Option.map_some, Option.map_none, hp, hq]
  rw [Sem.run_bind, run_sliceAt_slice _ _ _ _ _ _ under_byt, run_slice_lh _ _ _ _ _ under_byt .i64 .i64 i j (by omega) (by omega) (by omega), elem_byt, size_byt]
  simp only [Result.andThen_ok, sliced, Int.toNat_natCast, Nat.mul_one, slV, Sem.run_pure]
theorem y_eqS {s t : ByteArray} {b : Bool} (x y : Operand) (tz : TypeId) (ho : o.op = .binOp .eql 9 x y tz) (hx : a.eval x = .string s) (hy : a.eval y = .string t) (hb : decide (s.toList = t.toList) = b) : (execOp a.eval o).run Try.prog w = .ok (.value (.bool b)) w := by
  subst hb
  unfold execOp
  simp only [ho, hx, hy]
  simp [go_sem]
  first | done | exact Bool.eq_iff_iff.2 (by simp)
theorem y_neS {s t : ByteArray} {b : Bool} (x y : Operand) (tz : TypeId) (ho : o.op = .binOp .neq 9 x y tz) (hx : a.eval x = .string s) (hy : a.eval y = .string t) (hb : (!decide (s.toList = t.toList)) = b) : (execOp a.eval o).run Try.prog w = .ok (.value (.bool b)) w := by
  subst hb
  unfold execOp
  simp only [ho, hx, hy]
  simp [go_sem]
  first | done | exact Bool.eq_iff_iff.2 (by simp)
theorem mk_toList (l : List UInt8) : (ByteArray.mk l.toArray).toList = l := by rw [ByteArray.toList_eq]
theorem str_eq {l r : List UInt8} (h : l = r) : decide ((⟨l.toArray⟩ : ByteArray).toList = (⟨r.toArray⟩ : ByteArray).toList) = true := by subst h; exact decide_eq_true rfl
theorem str_ne {l r : List UInt8} (h : ¬ l = r) : decide ((⟨l.toArray⟩ : ByteArray).toList = (⟨r.toArray⟩ : ByteArray).toList) = false := decide_eq_false (by rw [mk_toList, mk_toList]; exact h)
theorem str_neT {l r : List UInt8} (h : ¬ l = r) : (!decide ((⟨l.toArray⟩ : ByteArray).toList = (⟨r.toArray⟩ : ByteArray).toList)) = true := by rw [str_ne h]; rfl
theorem str_neF {l r : List UInt8} (h : l = r) : (!decide ((⟨l.toArray⟩ : ByteArray).toList = (⟨r.toArray⟩ : ByteArray).toList)) = false := by rw [str_eq h]; rfl
end
section
variable {P : Program} {ops : Array Oper} {Q : Exit → Act → World → Prop} {a : Act} {w w0 : World} {rest : List Oper} {o : Oper} {n : Nat} {G : Option Nat} {V : List (Nat × Value)} {R : List (Nat × Res)}
/-- An operation whose value is known by what holds of it. -/
theorem wl_runE (hw : Region.wanted o (yielded ops a.tmps) = true) {d : Nat} (hd : o.dst = some d) (F : Fx n a V) (hn : Nat.blt d n = true) {Z : Value → Prop} (hr : ∃ v, (execOp a.eval o).run P w = .ok (.value v) w ∧ Z v)
    (h : ∀ v a', Z v → Fx n a' ((d, v) :: V) → wpList P ops Q rest a' w) : wpList P ops Q (o :: rest) a w := by
  obtain ⟨v, h1, h2⟩ := hr
  exact wl_run hw hd F hn v h1 fun a' F' => h v a' h2 F'
end
section
variable {P : Program} {ops : Array Oper} {Q : Exit → Act → World → Prop} {a : Act} {w w0 : World} {rest : List Oper} {o : Oper} {n : Nat} {V : List (Nat × Value)}
/-- A call of a function value: its captures follow the arguments. -/
theorem wl_callV (hw : Region.wanted o (yielded ops a.tmps) = true) {d : Nat} (hd : o.dst = some d) (F : Fx n a V) (hn : Nat.blt d n = true) {f : FuncId} {args : Array Operand} {ts : Array TypeId} {t : Tmp} (ho : o.op = .call { callee := .value (.tmp t), args := args, argTypes := ts }) {lb : Array Value} (hf : a.eval (.tmp t) = .func (.func f) #[] lb)
    (hr : ∀ args w, (callFunc f args).run P w = .ok (.enter f args) w) (vals : Array Value) (hv : args.map a.eval ++ lb = vals) {Z : Value → World → Prop}
    (hc : Calls P f vals w fun e w' => ∃ v, e = .returned v ∧ Z v w')
    (h : ∀ v w' a', Z v w' → Fx n a' ((d, v) :: V) → wpList P ops Q rest a' w') : wpList P ops Q (o :: rest) a w :=
  wpList_want hw fun K hK => by
    subst hv
    unfold Oper.wp
    have : (execOp a.eval o).run P w = .ok (.enter f (args.map a.eval ++ lb)) w := by
      unfold execOp
      simp only [ho, resolve, hf]
      simp [invoke, go_sem, hr]
    rw [this]
    refine hc.mono fun e w' ⟨v, he, hb⟩ => ?_
    subst he
    have := F.put d v hn
    rw [← hd] at this
    exact hK _ _ (h _ _ _ hb this)
end
section
variable {ops : Array Oper} {Q : Exit → Act → World → Prop} {a : Act} {w w0 : World} {rest : List Oper} {o : Oper} {n : Nat} {G : Option Nat} {V : List (Nat × Value)} {R : List (Nat × Res)}
/-- Bytes, appended to a row of one's own. -/
theorem run_app (M : Mx G w0 w R) {k : Nat} {l r : List UInt8} {v u : Value} (hk : look R k = some (ownR l v)) (s x : Operand)
    (ho : o.op = .call { callee := .builtin .append, args := #[s, x], argTypes := #[43, 43] }) (hs : a.eval s = v) (hx : a.eval x = u) (hu : IsB w r u) (hle : l.length + r.length ≤ 1000000) :
    ∃ v' w', (execOp a.eval o).run Try.prog w = .ok (.value v') w' ∧ Mx G w0 w' ((k, ownR (l ++ r) v') :: R) := by
  have hown : Byt w 0 v l := M.at_ k _ hk
  obtain ⟨v', w', hrun, hM⟩ : ∃ v' w', (Builtin.append_ #[43, 43] o.type #[v, u]).run Try.prog w = .ok v' w' ∧ Mx G w0 w' ((k, ownR (l ++ r) v') :: R) := by
    obtain ⟨i, hi1, hi2, hi3, hi4⟩ := info_u8
    obtain ⟨A, c, rfl, h1, h2, h3, hR⟩ := hu
    by_cases hm : 0 < r.length
    · cases A with
      | none => obtain ⟨ad, e, _⟩ := hR hm; cases e
      | some ad =>
        obtain ⟨g, cap, w', q1, q2, q3, q4, q5⟩ := run_append_lies (P := Try.prog) w 43 o.type 0 5 i (.int .u8 0) 1 1 Try.underlying43 hi1 hi2 hi3 hi4 rfl (by decide) v l.length (l.map bv) hown ad r.length c (r.map bv) (by simp) (fun j u hj => by
          rw [List.getElem?_map] at hj
          cases hb : r[j]? with
          | none => rw [hb] at hj; cases hj
          | some b =>
            rw [hb] at hj
            obtain rfl := Option.some.inj hj
            obtain ⟨ad', e, _, hcl⟩ := hR hm
            cases e
            exact hcl j b hb) (fun u hu => by obtain ⟨b, _, rfl⟩ := List.mem_map.1 hu; rfl) hm (by unfold maxLen; omega) (by omega) (Nat.zero_le _) _ rfl
        refine ⟨_, w', q1, M.write hk rfl q3 (fun _ e => e) _ ?_ ownR_dep fun b hb => ?_⟩
        · show Byt _ _ _ _
          unfold Byt
          rw [List.length_append, List.map_append]
          exact q2
        · obtain rfl : g = b := by simpa [ownR, ofp, Value.ownBlock] using hb
          exact ⟨q5, q4.imp id fun e => by rw [e]; exact Nat.le_refl _⟩
    · obtain rfl : r = [] := List.eq_nil_of_length_eq_zero (by omega)
      obtain ⟨A2, c2, e2, k1, k2, _⟩ := id hown.slice
      have hsrc : Go.Src Try.prog i.size 43 (.slice A 0 c) 0 [] w := by
        cases A with
        | none => exact Go.Src.ofNil w Try.underlying43 c
        | some ad => exact Go.Src.ofSlice w Try.underlying43 ad 0 c [] (by simp) (fun j u hu => by simp at hu) (fun u hu => by cases hu)
      have hrun := run_append_nothing (P := Try.prog) w 43 43 o.type 5 i Try.underlying43 hi1 A2 l.length c2 k1 (.slice A 0 c) hsrc
      refine ⟨v, w, by rw [e2]; exact hrun, ?_⟩
      rw [List.append_nil]
      exact M.drop fun j t e => by
        rw [look_cons] at e; split at e
        · rename_i hj; cases e; subst hj; exact hk
        · exact e
  refine ⟨v', w', ?_, hM⟩
  unfold execOp
  simp only [ho, resolve, invoke, builtin, Sem.run_bind, Sem.run_pure, Result.andThen_ok, List.map_toArray, List.map_cons, List.map_nil, hs, hx, hrun]
theorem wl_app (hw : Region.wanted o (yielded ops a.tmps) = true) {d : Nat} (hd : o.dst = some d) (F : Fx n a V) (hn : Nat.blt d n = true) (M : Mx G w0 w R) {k : Nat} {l r : List UInt8} {v u : Value} (hk : look R k = some (ownR l v)) (s x : Operand)
    (ho : o.op = .call { callee := .builtin .append, args := #[s, x], argTypes := #[43, 43] }) (hs : a.eval s = v) (hx : a.eval x = u) (hu : IsB w r u) (hle : l.length + r.length ≤ 1000000)
    (h : ∀ v' a' w', Fx n a' ((d, v') :: V) → Mx G w0 w' ((k, ownR (l ++ r) v') :: R) → wpList Try.prog ops Q rest a' w') : wpList Try.prog ops Q (o :: rest) a w := by
  obtain ⟨v', w', h1, h2⟩ := run_app M hk s x ho hs hx hu hle
  exact wl_run hw hd F hn v' h1 fun a' F' => h v' a' w' F' h2
/-- A slice literal of bytes. -/
theorem run_litO (M : Mx G w0 w R) (i : Nat) (zs : List UInt8) (m : Nat) (hm : zs.length = m) (h00 : 0 < m) (h1 : m ≤ 1000) {ps : Array (Nat × Operand)} (ho : o.op = .buildSlice 43 m ps)
    (hf : Instr.fill (fun i => some (i * 1, 1)) ((Array.range (m * 1)).map ((Value.int .u8 0).cells[· % (Value.int .u8 0).cells.size]!)) (ps.map fun (i, x) => (i, a.eval x)).toList = some (bvs zs)) :
    ∃ v w', (execOp a.eval o).run Try.prog w = .ok (.value v) w' ∧ Mx G w0 w' ((i, ownR zs v) :: R) := by
  obtain ⟨f, f1, f2, f3, _⟩ := info_u8
  subst hm
  have h0 : ¬ zs.length * f.size = 0 := by rw [f3]; omega
  refine ⟨.slice (some ⟨w.heap.size, 0, none⟩) zs.length zs.length, w.alloc (.cells (bvs zs) 5), ?_, M.newO (step_alloc w _) i ?_⟩
  · unfold execOp
    simp only [ho, Sem.run_bind, run_buildSlice w 43 5 zs.length _ (bvs zs) f (.int .u8 0) Try.underlying43 f1 f2 (by rw [f3]; omega) h0 (by rw [f3]; exact hf), Result.andThen_ok, Sem.run_pure]
  · refine ⟨by simp, .inr ⟨w.heap.size, zs.length, bvs zs, rfl, Nat.le_refl _, heap_alloc_new w _, Nat.le_refl _, by unfold maxLen; omega, by simp [bvs], ?_⟩⟩
    simp only [bvs, Nat.mul_one]
    exact List.take_of_length_le (by simp)
/-- The literal of none. -/
theorem run_lit0 (M : Mx G w0 w R) (i : Nat) (ho : o.op = .buildSlice 43 0 #[]) :
    ∃ v w', (execOp a.eval o).run Try.prog w = .ok (.value v) w' ∧ Mx G w0 w' ((i, ownR [] v) :: R) := by
  refine ⟨.slice (some ⟨w.heap.size, 0, none⟩) 0 0, w.alloc (.cells #[] 5), ?_, M.newO (step_alloc w _) i ⟨by simp, .inr ⟨w.heap.size, 0, #[], rfl, Nat.le_refl _, heap_alloc_new w _, Nat.le_refl _, by unfold maxLen; omega, by simp, by simp⟩⟩⟩
  unfold execOp
  simp only [ho, List.map_toArray, List.map_nil]
  kernel_rfl
theorem wl_litB (hw : Region.wanted o (yielded ops a.tmps) = true) {d : Nat} (hd : o.dst = some d) (F : Fx n a V) (hn : Nat.blt d n = true) (M : Mx G w0 w R) (i : Nat) (zs : List UInt8) (m : Nat) (hm : zs.length = m) (h00 : 0 < m) (h1 : m ≤ 1000) {ps : Array (Nat × Operand)} (ho : o.op = .buildSlice 43 m ps)
    (hf : Instr.fill (fun i => some (i * 1, 1)) ((Array.range (m * 1)).map ((Value.int .u8 0).cells[· % (Value.int .u8 0).cells.size]!)) (ps.map fun (i, x) => (i, a.eval x)).toList = some (bvs zs))
    (h : ∀ v a' w', Fx n a' ((d, v) :: V) → Mx G w0 w' ((i, ownR zs v) :: R) → wpList Try.prog ops Q rest a' w') : wpList Try.prog ops Q (o :: rest) a w := by
  obtain ⟨v, w', h2, h3⟩ := run_litO M i zs m hm h00 h1 ho hf
  exact wl_run hw hd F hn v h2 fun a' F' => h v a' w' F' h3
end
theorem resCT {P : Program} {fn : Func} {p q : Tmp} {ty : TypeId} (h : fn.results = #[.cell p ty, .tmp q]) {a : Act} {w : World} {g : Nat} {t : TypeId} {c : Array Value} {x : Value} {d : TypeDesc}
    (hp : a.eval (.tmp p) = .pointer (some ⟨g, 0, none⟩)) (hg : w.heap[g]? = some (.cells c t (0, 0))) (hq : a.eval (.tmp q) = x) (hu : P.underlying ty = some d) (hd : yPlain d = false) (hi : (P.info? ty).map (·.size) = some c.size) : (results fn a.tmps).run P w = .ok (.tuple #[.agg c, x]) w := by
  have hp' : a.tmps[p]?.getD undef = .pointer (some ⟨g, 0, none⟩) := by simpa [Act.eval] using hp
  have hq' : a.tmps[q]?.getD undef = x := by simpa [Act.eval] using hq
  cases d with
  | struct fs => simp [results, h, hp', hq', asAddr, run_loadVar_row w g t ty c (0, 0) _ hg hu rfl hi]
  | array n e => simp [results, h, hp', hq', asAddr, run_loadVar_row w g t ty c (0, 0) _ hg hu rfl hi]
  | _ => cases hd
end Go.Proofs.Ytgccbfkofkohpaa
namespace Go.Proofs.Ytgccbfkofkohpaa
set_option linter.unusedVariables false
set_option maxRecDepth 20000
set_option linter.unusedSimpArgs false
open Go.ChangeShapes Go.WideShapes Go.ChangeAt Go.RowKit Go.Shelf
/-- One more is done; its word. -/
def updB (S : Nat → Bool) (k : Nat) (j : Nat) : Bool := match Nat.beq j k with
  | true => true
  | false => S j
def updV (p : Nat → Value) (k : Nat) (v : Value) (j : Nat) : Value := match Nat.beq j k with
  | true => v
  | false => p j
theorem updB_at (S : Nat → Bool) (k j : Nat) : updB S k j = if j = k then true else S j := by
  unfold updB
  by_cases h : j = k
  · subst h; rw [if_pos rfl, Nat.beq_refl]
  · rw [if_neg h, show Nat.beq j k = false by cases hb : Nat.beq j k with
      | false => rfl
      | true => exact absurd (Nat.eq_of_beq_eq_true hb) h]
theorem updV_at (p : Nat → Value) (k : Nat) (v : Value) (j : Nat) : updV p k v j = if j = k then v else p j := by
  unfold updV
  by_cases h : j = k
  · subst h; rw [if_pos rfl, Nat.beq_refl]
  · rw [if_neg h, show Nat.beq j k = false by cases hb : Nat.beq j k with
      | false => rfl
      | true => exact absurd (Nat.eq_of_beq_eq_true hb) h]
/-- What is known of slot t where an operation of the head reads it. -/
def SlotM (L : List Oper) (E : Nat → Value → Prop) (a0 a : Act) (S : Nat → Bool) (p : Nat → Value) (t : Tmp) : Prop := match depOf L t with
  | none => a.eval (.tmp t) = a0.eval (.tmp t)
  | some j => S j = true ∧ a.eval (.tmp t) = p j ∧ E j (p j)
/-- Operation j waits for k. -/
def needs (L : List Oper) (m j k : Nat) : Bool := match (L.take m)[j]? with
  | some o => o.after.any fun e => Region.binds .any e && e.on == k
  | none => false
def HopM (P : Program) (L : List Oper) (m : Nat) (Q : Exit → Act → World → Prop) (E : Nat → Value → Prop) (J : (Nat → Bool) → (Nat → Value) → World → Prop) (a0 : Act) (k : Nat) (o : Oper) : Prop :=
  ∀ (a : Act) (w : World) (S : Nat → Bool) (p : Nat → Value), J S p w → S k = false → (∀ j, needs L m j k = true → S j = false) → (∀ t ∈ o.looksAt L.toArray, SlotM (L.take m) E a0 a S p t) →
    if Region.wanted o (yielded L.toArray a.tmps) = true then o.wp P a w (fun a' w' => ∃ v, a' = a.put o.dst v ∧ E k v ∧ J (updB S k) (updV p k v) w') Q else E k undef ∧ J (updB S k) (updV p k undef) w
def HopAllM (P : Program) (L : List Oper) (m : Nat) (Q : Exit → Act → World → Prop) (E : Nat → Value → Prop) (J : (Nat → Bool) → (Nat → Value) → World → Prop) (a0 : Act) : List Oper → Nat → Prop
  | [], _ => True
  | o :: l, k => HopM P L m Q E J a0 k o ∧ HopAllM P L m Q E J a0 l (k + 1)
theorem hop_atM {P : Program} {L : List Oper} {m : Nat} {Q : Exit → Act → World → Prop} {E : Nat → Value → Prop} {J : (Nat → Bool) → (Nat → Value) → World → Prop} {a0 : Act} : ∀ (l : List Oper) (k : Nat), HopAllM P L m Q E J a0 l k → ∀ (i : Nat) (o : Oper), l[i]? = some o → HopM P L m Q E J a0 (k + i) o
  | [], _, _, i, o, ho => by cases ho
  | q :: l, k, h, 0, o, ho => by
    simp only [List.getElem?_cons_zero, Option.some.injEq] at ho
    subst ho; exact h.1
  | q :: l, k, h, i + 1, o, ho => by
    have := hop_atM l (k + 1) h.2 i o (by simpa using ho)
    rwa [show k + 1 + i = k + (i + 1) by omega] at this
theorem wp_region_relM {P : Program} {id : Nat} {Q : Exit → Act → World → Prop} {a0 : Act} {W : World} {L : List Oper} (m n : Nat) (hn : a0.tmps.size = n) (hm : P.follows .mixedOrders = true) (hok : relOkC L m n = true) (hml : Nat.ble m L.length = true) (hds : ((L.take m).all fun o => o.dst.isSome) = true) (E : Nat → Value → Prop) (J : (Nat → Bool) → (Nat → Value) → World → Prop)
    (h0 : ∀ p, J (fun j => Nat.ble m j) p W.drew) (hop : HopAllM P L m Q E J a0 (L.take m) 0)
    (hend : ∀ (p : Nat → Value) (w : World), J (fun _ => true) p w → (∀ (j : Nat) (o : Oper), (L.take m)[j]? = some o → E j (p j)) → wpList P L.toArray Q (L.drop m) (layAll p (L.take m) 0 a0) w) : (Code.region id L.toArray true).wp P Q a0 W := by
  have hW := step_drew W
  unfold relOkC at hok
  simp only [Bool.and_eq_true, List.all_eq_true, Option.isNone_iff_eq_none, Bool.or_eq_true, decide_eq_true_eq] at hok
  obtain ⟨⟨⟨⟨hsel, hE⟩, hall⟩, hT1⟩, hT2⟩ := hok
  have htake : ∀ (i : Nat) (o : Oper), (L.take m)[i]? = some o → i < m ∧ L[i]? = some o := fun i o h => by
    rw [List.getElem?_take] at h
    split at h
    · exact ⟨by assumption, h⟩
    · cases h
  have hintake : ∀ (i : Nat) (o : Oper), i < m → L[i]? = some o → (L.take m)[i]? = some o := fun i o h1 h2 => by
    rw [List.getElem?_take, if_pos h1]; exact h2
  have hdst : ∀ (i : Nat) (o : Oper) (d : Tmp), (L.take m)[i]? = some o → o.dst = some d → d < n ∧ depOf (L.take m) d = some i := fun i o d ho hd => by
    have h1 := hall i (List.mem_range.2 (htake i o ho).1)
    simp only [ho, hd, Bool.and_eq_true, decide_eq_true_eq, beq_iff_eq] at h1
    exact h1.1
  have hread : ∀ (i : Nat) (o : Oper) (t : Tmp) (j : Nat), (L.take m)[i]? = some o → t ∈ o.looksAt L.toArray → depOf (L.take m) t = some j → ∃ e ∈ o.after, Region.binds .any e = true ∧ e.on = j := fun i o t j ho ht hj => by
    have h1 := hall i (List.mem_range.2 (htake i o ho).1)
    simp only [ho, Bool.and_eq_true, List.all_eq_true] at h1
    have h2 := h1.2 t ht
    simp only [hj, Array.any_eq_true, Bool.and_eq_true, beq_iff_eq] at h2
    obtain ⟨x, hx, hb, he⟩ := h2
    exact ⟨_, Array.getElem_mem hx, hb, he⟩
  have hdis : ∀ (i j : Nat) (oi oj : Oper) (d : Tmp), (L.take m)[i]? = some oi → (L.take m)[j]? = some oj → j ≠ i → oi.dst = some d → oj.dst ≠ some d := fun i j oi oj d hi hj hne hd e => by
    have h1 := (hdst i oi d hi hd).2
    have h2 := (hdst j oj d hj e).2
    rw [h1] at h2
    exact hne (Option.some.inj h2).symm
  -- a tail operation that is ready: all ahead of it is listed
  have htail : ∀ (listed : Array Bool) (i : Nat), listed.size = L.toArray.size → (∀ (j : Nat) (oj : Oper), L[j]? = some oj → listed.getD j true = true → ∀ e ∈ oj.after, Region.binds .any e = true → listed.getD e.on true = true) → i ∈ Region.ready .any L.toArray listed → m ≤ i → ∀ j, j < i → listed.getD j true = true := by
    intro listed i hs hcl hi hmi j hj
    obtain ⟨hiu, o, ho, hwait⟩ := mem_ready.1 hi
    have ho' : L[i]? = some o := by simpa using ho
    have hil := (List.getElem?_eq_some_iff.1 ho').1
    rcases hT2 i (List.mem_range.2 hil) with h3 | h3
    · omega
    have h4 := h3 j (List.mem_range.2 hj)
    unfold aftB at h4
    simp only [ho', Array.any_eq_true, Bool.and_eq_true, Bool.or_eq_true, beq_iff_eq] at h4
    obtain ⟨x, hx, hb, h4⟩ := h4
    have h5 : listed.getD (o.after[x]).on true = true := by
      have h1 := hwait _ (Array.getElem_mem hx) hb
      by_cases hlt : (o.after[x]).on < listed.size
      · simpa [hlt] using h1
      · rw [Array.getD_eq_getD_getElem?, Array.getElem?_eq_none (by omega)]; rfl
    rcases h4 with h4 | h4
    · rw [h4] at h5; exact h5
    · cases hq : L[(o.after[x]).on]? with
      | none => unfold aftB at h4; rw [hq] at h4; cases h4
      | some oq => exact aft_listed hcl 39 _ oq j hq h5 h4
  have hI : ∀ (listed : Array Bool) (a : Act) (w : World), (J (fun j => Nat.ble m j || listed.getD j true) (fun j => a.eval (match ((L.take m)[j]?).bind (·.dst) with | some d => .tmp d | none => .const undef)) w ∧ a.tmps.size = n ∧ a.defers = a0.defers ∧
      (∀ t : Tmp, (∀ (j : Nat) (oj : Oper), (L.take m)[j]? = some oj → listed.getD j true = true → oj.dst ≠ some t) → a.eval (.tmp t) = a0.eval (.tmp t)) ∧
      (∀ (j : Nat) (oj : Oper) (d : Tmp), (L.take m)[j]? = some oj → listed.getD j true = true → oj.dst = some d → E j (a.eval (.tmp d)))) → listed.size = L.length → (∀ j, j < m → j < L.length → listed.getD j true = true) → wpList P L.toArray Q (L.drop m) a w := by
    rintro listed a w ⟨hB, hz, hd, hbase, hYs⟩ hls hl
    have hlisted : ∀ (j : Nat) (oj : Oper), (L.take m)[j]? = some oj → listed.getD j true = true := fun j oj hoj => by
      obtain ⟨h1, h2⟩ := htake j oj hoj
      exact hl j h1 (List.getElem?_eq_some_iff.1 h2).1
    have hp : a = layAll (fun j => a.eval (match ((L.take m)[j]?).bind (·.dst) with | some d => .tmp d | none => .const undef)) (L.take m) 0 a0 := by
      obtain ⟨z1, z2⟩ := lay_size (fun j => a.eval (match ((L.take m)[j]?).bind (·.dst) with | some d => .tmp d | none => .const undef)) (L.take m) 0 a0
      refine act_ext (by rw [z1, hz, hn]) (by rw [z2, hd]) fun t ht => ?_
      cases hj : depOf (L.take m) t with
      | none => rw [lay_base _ (L.take m) 0 a0 (depOf_none hj)]; exact hbase t fun j oj hoj _ => depOf_none hj j oj hoj
      | some j =>
        obtain ⟨oj, hoj, hdj⟩ := depOf_some hj
        rw [lay_at _ (L.take m) 0 j a0 oj hoj hdj (by rw [hn, ← hz]; exact ht) fun i oi hi hne => hdis j i oj oi t hoj hi hne hdj]
        rw [Nat.zero_add]
        simp only [hoj, hdj, Option.bind_some]
    rw [hp]
    have hS : (fun j => Nat.ble m j || listed.getD j true) = fun _ => true := funext fun j => by
      by_cases hj : m ≤ j
      · rw [Nat.ble_eq_true_of_le hj]; rfl
      · by_cases hjl : j < L.length
        · rw [hl j (by omega) hjl]; simp
        · have hnone : listed[j]? = none ∨ True := .inr trivial
          have : (L.take m)[j]? = none := by rw [List.getElem?_eq_none_iff]; simp; omega
          have hsz := hls
          rw [Array.getD_eq_getD_getElem?, Array.getElem?_eq_none (by omega)]; simp
    rw [hS] at hB
    refine hend _ w hB fun i o ho => ?_
    have hdo := List.all_eq_true.1 hds o (List.mem_of_getElem? ho)
    obtain ⟨d, hdo⟩ := Option.isSome_iff_exists.1 hdo
    simp only [ho, hdo, Option.bind_some]
    exact hYs i o d ho (hlisted i o ho) hdo
  refine wp_region_inv hm (fun listed a w => (∀ (j : Nat) (oj : Oper), L[j]? = some oj → listed.getD j true = true → ∀ e ∈ oj.after, Region.binds .any e = true → listed.getD e.on true = true) ∧ (((∀ j, m ≤ j → j < L.length → listed.getD j true = false) ∧ J (fun j => Nat.ble m j || listed.getD j true) (fun j => a.eval (match ((L.take m)[j]?).bind (·.dst) with | some d => .tmp d | none => .const undef)) w ∧ a.tmps.size = n ∧ a.defers = a0.defers ∧
    (∀ t : Tmp, (∀ (j : Nat) (oj : Oper), (L.take m)[j]? = some oj → listed.getD j true = true → oj.dst ≠ some t) → a.eval (.tmp t) = a0.eval (.tmp t)) ∧
    (∀ (j : Nat) (oj : Oper) (d : Tmp), (L.take m)[j]? = some oj → listed.getD j true = true → oj.dst = some d → E j (a.eval (.tmp d)))) ∨
    (∃ k, m ≤ k ∧ (∀ j, j < L.length → (listed.getD j true = true ↔ j < k)) ∧ wpList P L.toArray Q (L.drop k) a w))) ?_ ?_ ?_
  · refine ⟨fun j oj hj hl => ?_, .inl ⟨fun j _ hj => by simp [hj], ?_, hn, rfl, fun _ _ => rfl, fun j oj d hj hl _ => ?_⟩⟩
    · have hjl := (List.getElem?_eq_some_iff.1 hj).1
      simp [hjl] at hl
    · have hml' := Nat.le_of_ble_eq_true hml
      refine (congrArg (fun S => J S _ W.drew) (funext fun j => ?_)).mp (h0 _)
      by_cases hj : m ≤ j
      · rw [Nat.ble_eq_true_of_le hj]; rfl
      · have : j < L.length := by omega
        simp [this]
    · have hjl := (List.getElem?_eq_some_iff.1 (htake j oj hj).2).1
      simp [hjl] at hl
  · rintro listed a w i hs ⟨hcl, hinv⟩ hi
    obtain ⟨hiu, o, ho, hwait⟩ := mem_ready.1 hi
    have ho' : L[i]? = some o := by simpa using ho
    have hil := (List.getElem?_eq_some_iff.1 ho').1
    have hsl : listed.size = L.length := by simpa using hs
    have hcl2 : (∀ (j : Nat) (oj : Oper), L[j]? = some oj → (listed.setIfInBounds i true).getD j true = true → ∀ e ∈ oj.after, Region.binds .any e = true → (listed.setIfInBounds i true).getD e.on true = true) := fun j oj hoj hl e he hbd => by
      by_cases ei : i = e.on
      · rw [← ei, Array.getD_eq_getD_getElem?, Array.getElem?_setIfInBounds_self]; simp [hsl, hil]
      · rw [getD_set_ne true ei]
        by_cases ej : i = j
        · subst ej
          obtain rfl : o = oj := Option.some.inj (ho'.symm.trans hoj)
          have h1 := hwait e he hbd
          by_cases hlt : e.on < listed.size
          · simpa [hlt] using h1
          · rw [Array.getD_eq_getD_getElem?, Array.getElem?_eq_none (by omega)]; rfl
        · rw [getD_set_ne true ej] at hl
          exact hcl j oj hoj hl e he hbd
    by_cases him : i < m
    · rcases hinv with ⟨htl, hB, hz, hd, hbase, hYs⟩ | ⟨k, hmk, hlk, _⟩
      · have ht' := hintake i o him ho'
        have hh := hop_atM (L.take m) 0 hop i o ht'
        rw [Nat.zero_add] at hh
        have hslots : ∀ t ∈ o.looksAt L.toArray, SlotM (L.take m) E a0 a (fun j => Nat.ble m j || listed.getD j true) (fun j => a.eval (match ((L.take m)[j]?).bind (·.dst) with | some d => .tmp d | none => .const undef)) t := fun t ht => by
          unfold SlotM
          cases hj : depOf (L.take m) t with
          | none => exact hbase t fun j oj hoj _ => depOf_none hj j oj hoj
          | some j =>
            obtain ⟨oj, hoj, hdj⟩ := depOf_some hj
            obtain ⟨e, he, hb, hon⟩ := hread i o t j ht' ht hj
            have h1 := hwait e he hb
            rw [hon] at h1
            have hjl : j < listed.size := by rw [hsl]; exact (List.getElem?_eq_some_iff.1 (htake j oj hoj).2).1
            have hl1 : listed.getD j true = true := by simpa [hjl] using h1
            have hjm : j < m := (htake j oj hoj).1
            refine ⟨by simp only [hl1, Bool.or_true], ?_, ?_⟩
            · simp only [hoj, hdj, Option.bind_some]
            · simp only [hoj, hdj, Option.bind_some]
              exact hYs j oj t hoj hl1 hdj
        have hSi : (Nat.ble m i || listed.getD i true) = false := by
          rw [show Nat.ble m i = false by cases hb : Nat.ble m i with
            | false => rfl
            | true => exact absurd (Nat.le_of_ble_eq_true hb) (by omega)]
          rw [Bool.false_or]; simpa using hiu
        have hnd : ∀ j, needs L m j i = true → (Nat.ble m j || listed.getD j true) = false := fun j hj => by
          unfold needs at hj
          cases hoj : (L.take m)[j]? with
          | none => rw [hoj] at hj; cases hj
          | some oj =>
            rw [hoj] at hj
            simp only [Array.any_eq_true, Bool.and_eq_true, beq_iff_eq] at hj
            obtain ⟨x, hx, hb, he⟩ := hj
            have hjm := (htake j oj hoj).1
            rw [show Nat.ble m j = false by cases hb2 : Nat.ble m j with
              | false => rfl
              | true => exact absurd (Nat.le_of_ble_eq_true hb2) (by omega), Bool.false_or]
            cases hlj : listed.getD j true with
            | false => rfl
            | true =>
              have := hcl j oj (htake j oj hoj).2 hlj _ (Array.getElem_mem hx) hb
              rw [he] at this
              have h2 : listed.getD i true = false := by simpa using hiu
              rw [h2] at this; cases this
        have hh := hh a w _ _ hB hSi hnd hslots
        obtain ⟨dd, hdd⟩ := Option.isSome_iff_exists.1 (List.all_eq_true.1 hds o (List.mem_of_getElem? ht'))
        have hset : ∀ (v : Value) (w' : World), E i v → J (updB (fun j => Nat.ble m j || listed.getD j true) i) (updV (fun j => a.eval (match ((L.take m)[j]?).bind (·.dst) with | some d => .tmp d | none => .const undef)) i v) w' → ((∀ j, m ≤ j → j < L.length → (listed.setIfInBounds i true).getD j true = false) ∧ J (fun j => Nat.ble m j || (listed.setIfInBounds i true).getD j true) (fun j => (a.put o.dst v).eval (match ((L.take m)[j]?).bind (·.dst) with | some d => .tmp d | none => .const undef)) w' ∧ (a.put o.dst v).tmps.size = n ∧ (a.put o.dst v).defers = a0.defers ∧
            (∀ t : Tmp, (∀ (j : Nat) (oj : Oper), (L.take m)[j]? = some oj → (listed.setIfInBounds i true).getD j true = true → oj.dst ≠ some t) → (a.put o.dst v).eval (.tmp t) = a0.eval (.tmp t)) ∧
            (∀ (j : Nat) (oj : Oper) (d : Tmp), (L.take m)[j]? = some oj → (listed.setIfInBounds i true).getD j true = true → oj.dst = some d → E j ((a.put o.dst v).eval (.tmp d)))) := fun v w' hy hb => by
          refine ⟨fun j h1 h2 => by rw [getD_set_ne true (show i ≠ j by omega)]; exact htl j h1 h2, ?_, by rw [put_size]; exact hz, by rw [put_defers]; exact hd, fun t ht => ?_, fun j oj d hoj hl hdj => ?_⟩
          · have e1 : (fun j => Nat.ble m j || (listed.setIfInBounds i true).getD j true) = updB (fun j => Nat.ble m j || listed.getD j true) i := funext fun j => by
              rw [updB_at]
              by_cases e : i = j
              · subst e; rw [if_pos rfl, Array.getD_eq_getD_getElem?, Array.getElem?_setIfInBounds_self]; simp [hsl, hil]
              · rw [if_neg (fun e2 => e e2.symm), getD_set_ne true e]
            have e2 : (fun j => (a.put o.dst v).eval (match ((L.take m)[j]?).bind (·.dst) with | some d => .tmp d | none => .const undef)) = updV (fun j => a.eval (match ((L.take m)[j]?).bind (·.dst) with | some d => .tmp d | none => .const undef)) i v := funext fun j => by
              rw [updV_at]
              by_cases e : i = j
              · subst e; rw [if_pos rfl]
                simp only [ht', hdd, Option.bind_some]
                exact eval_put_self (by rw [hz]; exact (hdst i o dd ht' hdd).1)
              · rw [if_neg (fun e2 => e e2.symm)]
                cases hoj : (L.take m)[j]? with
                | none => rfl
                | some oj =>
                  cases hdj : oj.dst with
                  | none => simp only [Option.bind_some, hdj]; rfl
                  | some dj =>
                    simp only [Option.bind_some, hdj]
                    exact eval_put_ne (hdis j i oj o dj hoj ht' e hdj)
            rw [e1, e2]; exact hb
          · rw [eval_put_ne (ht i o ht' (by rw [Array.getD_eq_getD_getElem?, Array.getElem?_setIfInBounds_self]; simp [hsl, hil]))]
            refine hbase t fun j oj hoj hl => ht j oj hoj ?_
            by_cases e : i = j
            · subst e; rw [hl] at hiu; cases hiu
            · rw [getD_set_ne true e]; exact hl
          · by_cases e : i = j
            · subst e
              obtain rfl : o = oj := Option.some.inj (ht'.symm.trans hoj)
              rw [hdj, eval_put_self (by rw [hz]; exact (hdst i o d ht' hdj).1)]
              exact hy
            · rw [eval_put_ne (hdis j i oj o d hoj ht' e hdj)]
              rw [getD_set_ne true e] at hl
              exact hYs j oj d hoj hl hdj
        unfold wpOp
        simp only [ho]
        by_cases hw : Region.wanted o (yielded L.toArray a.tmps) = true
        · rw [if_pos hw] at hh ⊢
          exact .inl (Oper.wp_mono (fun a' w' ⟨v, e, hy, hb⟩ => by rw [e]; exact ⟨hcl2, .inl (hset v w' hy hb)⟩) hh)
        · rw [if_neg hw] at hh ⊢
          exact ⟨hcl2, .inl (hset undef w hh.1 hh.2)⟩
      · have := (hlk i hil).2 (by omega)
        rw [this] at hiu; cases hiu
    · have hmi : m ≤ i := Nat.le_of_not_lt him
      have hahead := htail listed i hs hcl hi hmi
      have hk : (∀ j, j < L.length → (listed.getD j true = true ↔ j < i)) ∧ wpList P L.toArray Q (L.drop i) a w := by
        rcases hinv with ⟨htl, hrest⟩ | ⟨k, hmk, hlk, hwp⟩
        · obtain rfl : i = m := by
            refine Nat.le_antisymm (Nat.le_of_not_lt fun hlt => ?_) hmi
            have h1 := hahead m hlt
            rw [htl m (Nat.le_refl _) (by omega)] at h1; cases h1
          refine ⟨fun j hj => ⟨fun h => Nat.lt_of_not_le fun h2 => ?_, hahead j⟩, hI listed a w hrest hsl fun j h1 _ => hahead j h1⟩
          rw [htl j h2 hj] at h; cases h
        · obtain rfl : k = i := by
            refine Nat.le_antisymm (Nat.le_of_not_lt fun hlt => ?_) (Nat.le_of_not_lt fun hlt => ?_)
            · have := (hlk i hil).2 hlt
              rw [this] at hiu; cases hiu
            · have := (hlk k (by omega)).1 (hahead k hlt)
              omega
          exact ⟨hlk, hwp⟩
      obtain ⟨hlk, hwp⟩ := hk
      have hdr : L.drop i = L[i] :: L.drop (i + 1) := List.drop_eq_getElem_cons hil
      have hoe : L[i] = o := by rw [List.getElem?_eq_getElem hil] at ho'; exact Option.some.inj ho'
      rw [hoe] at hdr
      have hg := hT1 o (by
        have h6 : L.drop i = (L.drop m).drop (i - m) := by rw [List.drop_drop]; congr 1; omega
        have h7 : o ∈ L.drop i := by rw [hdr]; exact List.mem_cons_self
        rw [h6] at h7
        exact List.mem_of_mem_drop h7)
      have hset : ∀ j, j < L.length → ((listed.setIfInBounds i true).getD j true = true ↔ j < i + 1) := by
        intro j hj
        by_cases hji : j = i
        · subst hji; simp [hsl, hj]
        · rw [getD_set_ne true (fun e => hji e.symm), hlk j hj]; omega
      rw [hdr] at hwp
      unfold wpList at hwp
      unfold wpOp
      simp only [ho]
      have hw' : ∀ g, Region.wanted o g = true := fun g => by simp [Region.wanted, hg]
      simp only [hw', if_true] at hwp ⊢
      exact hwp.imp (Oper.wp_mono fun a' w' h' => ⟨hcl2, .inr ⟨i + 1, by omega, hset, h'⟩⟩) (fun h => h)
  · rintro listed a w hs ⟨hcl, hinv⟩ hr
    have hsl : listed.size = L.length := by simpa using hs
    have hlisted : ∀ j, j < L.length → listed.getD j true = true := fun j hj => by
      cases h : listed.getD j true with
      | true => rfl
      | false => exact absurd hr (ready_of_unlisted hE hs j (by simpa using hj) h)
    have hwp : ∃ k, L.length ≤ k ∧ wpList P L.toArray Q (L.drop k) a w := by
      rcases hinv with ⟨htl, hrest⟩ | ⟨k, hmk, hlk, hwp⟩
      · refine ⟨m, Nat.le_of_not_lt fun hlt => ?_, hI listed a w hrest hsl fun j _ hj => hlisted j hj⟩
        have h1 := htl m (Nat.le_refl _) hlt
        rw [hlisted m hlt] at h1; cases h1
      · refine ⟨k, Nat.le_of_not_lt fun hlt => ?_, hwp⟩
        exact absurd ((hlk k hlt).1 (hlisted k hlt)) (Nat.lt_irrefl _)
    obtain ⟨k, h1, h2⟩ := hwp
    rw [List.drop_eq_nil_of_le h1] at h2
    exact h2
end Go.Proofs.Ytgccbfkofkohpaa
namespace Go.Proofs.Ytgccbfkofkohpaa
set_option linter.unusedVariables false
set_option maxRecDepth 20000
set_option linter.unusedSimpArgs false
open Go.ChangeShapes Go.WideShapes Go.ChangeAt Go.RowKit Go.Shelf
def trivR : Res := ⟨false, fun _ => False, fun _ => True⟩
/-- There once it is done. -/
def condR (b : Bool) (r : Res) : Res := match b with
  | true => r
  | false => trivR
theorem condR_look {R : List (Nat × Res)} {i : Nat} {b : Bool} {r : Res} (hb : b = true) (h : look R i = some (condR b r)) : look R i = some r := by subst hb; exact h
def eitherR (b : Bool) (r s : Res) : Res := match b with
  | true => r
  | false => s
theorem condR_at {b : Bool} {r : Res} (hb : b = true) : some r = some (condR b r) := by subst hb; rfl
theorem eitherR_look {R : List (Nat × Res)} {i : Nat} {b c : Bool} {r s : Res} (hb : b = true) (hc : c = false) (h : look R i = some (eitherR c r (condR b s))) : look R i = some s := by subst hb hc; exact h
theorem eitherR_l {R : List (Nat × Res)} {i : Nat} {c : Bool} {r s : Res} (hc : c = true) (h : look R i = some (eitherR c r s)) : look R i = some r := by subst hc; exact h
theorem eitherR_at {R : List (Nat × Res)} {i : Nat} {c : Bool} {r s : Res} (hc : c = false) (h : look R i = some s) : look R i = some (eitherR c r s) := by subst hc; exact h
theorem condR_look2 {R : List (Nat × Res)} {i : Nat} {b c : Bool} {r : Res} (hb : b = true) (hc : c = false) (h : look R i = some (condR (b && !c) r)) : look R i = some r := by subst hb hc; exact h
def pfp (v : Value) (g : Nat) : Prop := v = .pointer (some ⟨g, 0, none⟩)
/-- The block that a pointer leads to. -/
def ptrR (t : TypeId) (c : Array Value) (v : Value) : Res := ⟨true, pfp v, fun w => ∃ g, v = .pointer (some ⟨g, 0, none⟩) ∧ w.heap[g]? = some (.cells c t (0, 0))⟩
def sfp (v : Value) (g : Nat) : Prop := ∃ n m, v = .slice (some ⟨g, 0, none⟩) n m
/-- The block of a slice that was made of these. -/
def slcR (t : TypeId) (n : Nat) (c : Array Value) (v : Value) : Res := ⟨true, sfp v, fun w => ∃ g, v = .slice (some ⟨g, 0, none⟩) n n ∧ w.heap[g]? = some (.cells c t (0, 0))⟩
section
variable {G : Option Nat} {w0 w w' : World} {R : List (Nat × Res)} {i k : Nat}
theorem Mx.triv (M : Mx G w0 w R) (i : Nat) : Mx G w0 w ((i, trivR) :: R) := M.cons i trivR trivial (fun _ _ _ _ => trivial) (fun _ h => h.elim) (fun e => by cases e) (fun _ _ _ _ _ _ h => h.elim)
theorem ptrR_dep {t : TypeId} {c : Array Value} {v : Value} : ∀ u u', Same (ptrR t c v).fp u u' → (ptrR t c v).F u → (ptrR t c v).F u' := fun u u' hs ⟨g, e, h⟩ => ⟨g, e, hs g _ e h⟩
theorem Mx.allocP (M : Mx G w0 w R) (i : Nat) (t : TypeId) (c : Array Value) : Mx G w0 (w.alloc (.cells c t)) ((i, ptrR t c (.pointer (some ⟨w.heap.size, 0, none⟩))) :: R) :=
  M.fresh (step_alloc w _) i _ ⟨_, rfl, heap_alloc_new _ _⟩ ptrR_dep (fun g hg => by
    have e : w.heap.size = g := by injection hg with hg; injection hg with hg; injection hg
    subst e; exact ⟨Nat.le_refl _, by simp⟩)
theorem Mx.ptr (M : Mx G w0 w R) {k g : Nat} {t : TypeId} {c : Array Value} (hk : look R k = some (ptrR t c (.pointer (some ⟨g, 0, none⟩)))) : Mx G w0 w ((k, blkR g t c) :: R) := by
  obtain ⟨g', e, h⟩ := M.at_ k _ hk
  have e2 : g' = g := by injection e with e; injection e with e; injection e with e; exact e.symm
  subst e2
  exact M.cons k _ h blkR_dep (fun b hb => by cases hb; exact heap_lt h) (fun _ b hb => M.own k _ hk rfl b (by cases hb; rfl)) fun j s e hj _ b hb => M.dis k j _ s hk e hj rfl b (by cases hb; rfl)
theorem slcR_dep {t : TypeId} {n : Nat} {c : Array Value} {v : Value} : ∀ u u', Same (slcR t n c v).fp u u' → (slcR t n c v).F u → (slcR t n c v).F u' := fun u u' hs ⟨g, e, h⟩ => ⟨g, e, hs g _ ⟨_, _, e⟩ h⟩
theorem Mx.allocS (M : Mx G w0 w R) (i : Nat) (t : TypeId) (n : Nat) (c : Array Value) : Mx G w0 (w.alloc (.cells c t)) ((i, slcR t n c (.slice (some ⟨w.heap.size, 0, none⟩) n n)) :: R) :=
  M.fresh (step_alloc w _) i _ ⟨_, rfl, heap_alloc_new _ _⟩ slcR_dep (fun g ⟨a, b, hg⟩ => by
    have e : w.heap.size = g := by injection hg with hg; injection hg with hg; injection hg
    subst e; exact ⟨Nat.le_refl _, by simp⟩)
end
theorem relOkC_dst {L : List Oper} {m n : Nat} (hok : relOkC L m n = true) : ∀ (i : Nat) (o : Oper) (d : Nat), (L.take m)[i]? = some o → o.dst = some d → d < n := by
  unfold relOkC at hok
  simp only [Bool.and_eq_true, List.all_eq_true] at hok
  obtain ⟨⟨⟨⟨-, -⟩, hall⟩, -⟩, -⟩ := hok
  intro i o d ho hd
  have hi : i < m := by
    rw [List.getElem?_take] at ho
    split at ho
    · assumption
    · cases ho
  have h1 := hall i (List.mem_range.2 hi)
  simp only [ho, hd, Bool.and_eq_true, decide_eq_true_eq] at h1
  exact h1.1.1
/-- Memory, by what is done. -/
def JM (G : Option Nat) (w0 : World) (RL : (Nat → Bool) → (Nat → Value) → List (Nat × Res)) (S : Nat → Bool) (p : Nat → Value) (w : World) : Prop := Mx G w0 w (RL S p)
def stE (E : List (Value → Prop)) (k : Nat) (v : Value) : Prop := ((E[k]?).getD fun _ => True) v
def EAll (E : List (Value → Prop)) (p : Nat → Value) : List Oper → Nat → Prop
  | [], _ => True
  | _ :: l, k => stE E k (p k) ∧ EAll E p l (k + 1)
theorem eall_of {E : List (Value → Prop)} {p : Nat → Value} : ∀ (l : List Oper) (k : Nat), (∀ (j : Nat) (o : Oper), l[j]? = some o → stE E (k + j) (p (k + j))) → EAll E p l k
  | [], _, _ => trivial
  | o :: l, k, h => ⟨h 0 o rfl, eall_of l (k + 1) fun j o' hj => by
    have := h (j + 1) o' (by simpa using hj)
    rwa [show k + (j + 1) = k + 1 + j by omega] at this⟩
section
variable {P : Program}
theorem region_fxM {id : Nat} {Q : Exit → Act → World → Prop} {a0 : Act} {W : World} {L : List Oper} {n : Nat} {V : List (Nat × Value)} (F : Fx n a0 V) (E : List (Value → Prop)) (J : (Nat → Bool) → (Nat → Value) → World → Prop) (m : Nat) (hm : P.follows .mixedOrders = true) (hok : relOkC L m n = true) (hml : Nat.ble m L.length = true) (hds : ((L.take m).all fun o => o.dst.isSome) = true)
    (h0 : ∀ p, J (fun j => Nat.ble m j) p W.drew) (hop : HopAllM P L m Q (stE E) J a0 (L.take m) 0)
    (hend : ∀ (p : Nat → Value) (a : Act) (w : World), J (fun _ => true) p w → Fx n a (layV p (L.take m) 0 V) → EAll E p (L.take m) 0 → wpList P L.toArray Q (L.drop m) a w) : (Code.region id L.toArray true).wp P Q a0 W :=
  wp_region_relM m n F.size hm hok hml hds (stE E) J h0 hop fun p w hj hE => hend p _ w hj (F.lay p (L.take m) 0 a0 V (relOkC_dst hok)) (eall_of _ 0 fun j o ho => by rw [Nat.zero_add]; exact hE j o ho)
variable {ops : Array Oper} {Q : Exit → Act → World → Prop} {a : Act} {w : World} {o : Oper} {E : List (Value → Prop)} {J : (Nat → Bool) → (Nat → Value) → World → Prop} {S : Nat → Bool} {p : Nat → Value} {k : Nat}
theorem hopM_run (hw : Region.wanted o (yielded ops a.tmps) = true) (v : Value) {w' : World} (hr : (execOp a.eval o).run P w = .ok (.value v) w') (hE : stE E k v) (hJ : J (updB S k) (updV p k v) w') :
    if Region.wanted o (yielded ops a.tmps) = true then o.wp P a w (fun a' w' => ∃ v, a' = a.put o.dst v ∧ stE E k v ∧ J (updB S k) (updV p k v) w') Q else stE E k undef ∧ J (updB S k) (updV p k undef) w := by
  rw [if_pos hw]
  unfold Oper.wp
  rw [hr]
  exact ⟨v, rfl, hE, hJ⟩
theorem hopM_ex (hw : Region.wanted o (yielded ops a.tmps) = true) (hr : ∃ v w', (execOp a.eval o).run P w = .ok (.value v) w' ∧ stE E k v ∧ J (updB S k) (updV p k v) w') :
    if Region.wanted o (yielded ops a.tmps) = true then o.wp P a w (fun a' w' => ∃ v, a' = a.put o.dst v ∧ stE E k v ∧ J (updB S k) (updV p k v) w') Q else stE E k undef ∧ J (updB S k) (updV p k undef) w := by
  obtain ⟨v, w', h1, h2, h3⟩ := hr
  exact hopM_run hw v h1 h2 h3
theorem hopM_exM (hw : Region.wanted o (yielded ops a.tmps) = true) {G : Option Nat} {w0 : World} {Rf : Value → List (Nat × Res)} (hr : ∃ v w', (execOp a.eval o).run P w = .ok (.value v) w' ∧ Mx G w0 w' (Rf v)) (h : ∀ v w', Mx G w0 w' (Rf v) → stE E k v ∧ J (updB S k) (updV p k v) w') :
    if Region.wanted o (yielded ops a.tmps) = true then o.wp P a w (fun a' w' => ∃ v, a' = a.put o.dst v ∧ stE E k v ∧ J (updB S k) (updV p k v) w') Q else stE E k undef ∧ J (updB S k) (updV p k undef) w := by
  obtain ⟨v, w', h1, h2⟩ := hr
  obtain ⟨h3, h4⟩ := h v w' h2
  exact hopM_run hw v h1 h3 h4
theorem hopM_skip (hw : Region.wanted o (yielded ops a.tmps) = false) (hE : stE E k undef) (hJ : J (updB S k) (updV p k undef) w) {X : Prop} :
    if Region.wanted o (yielded ops a.tmps) = true then X else stE E k undef ∧ J (updB S k) (updV p k undef) w := by
  rw [if_neg (by rw [hw]; simp)]
  exact ⟨hE, hJ⟩
theorem hopM_call (hw : Region.wanted o (yielded ops a.tmps) = true) {f : FuncId} {args : Array Operand} {ts : Array TypeId} (ho : o.op = .call { callee := .value (.func f), args := args, argTypes := ts }) (vals : Array Value) (hv : args.map a.eval = vals) (hr : ∀ args w, (callFunc f args).run P w = .ok (.enter f args) w)
    (hc : Calls P f vals w fun e w' => ∃ v, e = .returned v ∧ stE E k v ∧ J (updB S k) (updV p k v) w') :
    if Region.wanted o (yielded ops a.tmps) = true then o.wp P a w (fun a' w' => ∃ v, a' = a.put o.dst v ∧ stE E k v ∧ J (updB S k) (updV p k v) w') Q else stE E k undef ∧ J (updB S k) (updV p k undef) w := by
  rw [if_pos hw]
  subst hv
  unfold Oper.wp
  have : (execOp a.eval o).run P w = .ok (.enter f (args.map a.eval)) w := by
    simp [execOp, ho, resolve, invoke, Act.eval, go_sem, hr]
  rw [this]
  refine hc.mono fun e w' ⟨v, he, h1, h2⟩ => ?_
  subst he
  exact ⟨v, rfl, h1, h2⟩
end
end Go.Proofs.Ytgccbfkofkohpaa
