/- What SrpWrong stands on, part 9. -/
import Derived.OrdersIn
import Derived.Lib.Strings
import Derived.Deep.AppendSrc
import Derived.RangeFuncWrites
import Derived.Test.YtcfepoopkfhojaaGreatSrpWrongP1
import Derived.Test.YtcfepoopkfhojaaGreatSrpWrongP2
import Derived.Test.YtcfepoopkfhojaaGreatSrpWrongP3
import Derived.Test.YtcfepoopkfhojaaGreatSrpWrongP4
import Derived.Test.YtcfepoopkfhojaaGreatSrpWrongP5
import Derived.Test.YtcfepoopkfhojaaGreatSrpWrongP6
import Derived.Test.YtcfepoopkfhojaaGreatSrpWrongP7
import Derived.Test.YtcfepoopkfhojaaGreatSrpWrongP8
set_option maxRecDepth 100000
set_option maxHeartbeats 8000000
set_option linter.unusedVariables false
set_option linter.unusedSimpArgs false
namespace Go.Proofs.YtcfepoopkfhojaaGreat
open Go.ChangeShapes Go.WideShapes Go.ChangeAt Go.RowKit Go.Shelf
theorem IsP.vals {w : World} {L : List (List UInt8)} {u : Value} (h : IsP w L u) : ∃ (A : Option Addr) (c : Nat) (vs : List Value), u = .slice A L.length c ∧ vs.length = L.length ∧ (∀ (j : Nat) (l : List UInt8), L[j]? = some l → ∃ v, vs[j]? = some v ∧ IsB w l v) ∧ (L.length = 0 ∨ ∃ b o, A = some ⟨b, o, none⟩ ∧ ∀ j v, vs[j]? = some v → w.cell? ⟨b, o + j, none⟩ = some v) := by
 obtain ⟨A, c, rfl, hc, hm, hP⟩ := h
 by_cases h0 : L.length = 0
 ·refine ⟨A, c, [], rfl, h0.symm, fun j l hj => ?_, .inl h0⟩
  have := (List.getElem?_eq_some_iff.1 hj).1
  omega
 ·obtain ⟨b, o, rfl, hb, hcell⟩ := hP (by omega)
  have hex : ∀ n, n ≤ L.length → ∃ vs : List Value, vs.length = n ∧ (∀ j l, j < n → L[j]? = some l → ∃ v, vs[j]? = some v ∧ IsB w l v) ∧ ∀ j v, vs[j]? = some v → w.cell? ⟨b, o + j, none⟩ = some v := fun n => by
   induction n with
   | zero => intro _; exact ⟨[], rfl, fun j l hj => absurd hj (Nat.not_lt_zero j), fun j v hv => by cases hv⟩
   | succ n ih =>
    intro hn
    obtain ⟨vs, h1, h2, h3⟩ := ih (by omega)
    obtain ⟨l, hl⟩ : ∃ l, L[n]? = some l := ⟨_, List.getElem?_eq_getElem (by omega)⟩
    obtain ⟨A', c', q1, q2, q3, q4, q5⟩ := hcell n l hl
    refine ⟨vs ++ [.slice A' l.length c'], by simp [h1], fun j l2 hj hl2 => ?_, fun j v hv => ?_⟩
    ·by_cases e : j = n
     ·subst e
      obtain rfl : l = l2 := by rw [hl] at hl2; exact Option.some.inj hl2
      exact ⟨_, by rw [List.getElem?_append_right (by omega), h1, Nat.sub_self]; rfl, A', c', rfl, q2, q3, q4, q5⟩
     ·obtain ⟨v, p1, p2⟩ := h2 j l2 (by omega) hl2
      exact ⟨v, by rw [List.getElem?_append_left (by omega)]; exact p1, p2⟩
    ·by_cases e : j < vs.length
     ·rw [List.getElem?_append_left e] at hv; exact h3 j v hv
     ·rw [List.getElem?_append_right (by omega)] at hv
      have h4 : j - vs.length = 0 := by
       have := (List.getElem?_eq_some_iff.1 hv).1
       simp at this; omega
      rw [h4] at hv
      obtain rfl : _ = v := Option.some.inj hv
      rw [show j = n by omega]; exact q1
  obtain ⟨vs, h1, h2, h3⟩ := hex L.length (Nat.le_refl _)
  exact ⟨_, c, vs, rfl, h1, fun j l hj => h2 j l (List.getElem?_eq_some_iff.1 hj).1 hj, .inr ⟨b, o, rfl, h3⟩⟩
theorem isP_row {w : World} {L : List (List UInt8)} {v : Value} {vs : List Value} {T : TypeId} {n : Nat} (h : w.ownsRow 0 T 1 v n vs) (hn : n = L.length) (hv : ∀ (j : Nat) (l : List UInt8), L[j]? = some l → ∃ u, vs[j]? = some u ∧ IsB w l u) : IsP w L v := by
 subst hn
 obtain ⟨A, c, rfl, h1, h2, h3⟩ := row_slice h
 refine ⟨A, c, rfl, h1, h2, fun h0 => ?_⟩
 obtain ⟨g, cur, rfl, hg, ht⟩ := h3 h0
 refine ⟨g, 0, rfl, zyb hg, fun j l hj => ?_⟩
 obtain ⟨u, q1, B, d, rfl, q2, q3, q4, q5⟩ := hv j l hj
 refine ⟨B, d, ?_, q2, q3, q4, q5⟩
 rw [← ht, Nat.mul_one, List.getElem?_take] at q1
 split at q1
 ·rw [Nat.zero_add]
  simp only [World.cell?, hg]
  rw [← Array.getElem?_toList]; exact q1
 ·cases q1
section
variable {G : Option Nat} {w0 w : World} {R : List (Nat × Res)} {a : Act} {o : Oper}
theorem run_appQ (M : Mx G w0 w R) {kb g : Nat} {v0 : Value} (hb : look R kb = some (blkR g 22 #[v0])) (h0 : v0.oneCell' = true) {Au : Option Addr} {n cu : Nat} {vs : List Value} (hvl : vs.length = n) (h1 : ∀ u, u ∈ vs → u.oneCell' = true) (hvc : (Au = none ∧ n = 0) ∨ ∃ ad, Au = some ad ∧ ∀ (j : Nat) (v : Value), vs[j]? = some v → w.cell? (ad.add j) = some v) (hn : n ≤ 100) (s x : Operand)
  (ho : o.op = .call { callee := .builtin .append, args := #[s, x], argTypes := #[54, 54] }) (hs : a.eval s = .slice (some ⟨g, 0, none⟩) 1 1) (hx : a.eval x = .slice Au n cu) :
  ∃ v w', (execOp a.eval o).run Tryz.prog w = .ok (.value v) w' ∧ Mx G w0 w' ((kb, rowR 22 1 (1 + n) (v0 :: vs) v) :: R) := by
 have hT : Tryz.prog.underlying 54 = some (.slice 22) := Tryz.underlying54
 have hinf : (Tryz.prog.info? 22).map (fun i => (i.size, i.bytes, i.zero.map (·.cells.size))) = some (1, 24, some 1) := by kernel_rfl
 obtain ⟨i, hi, hii⟩ := Option.map_eq_some_iff.1 hinf
 simp only [Prod.mk.injEq] at hii
 obtain ⟨hsize, hbytes, hzz⟩ := hii
 obtain ⟨z, hz, hzs⟩ := Option.map_eq_some_iff.1 hzz
 have hblk := M.blk hb
 have hown : w.ownsRow 0 22 1 (.slice (some ⟨g, 0, none⟩) 1 1) 1 [v0] := ⟨rfl, .inr ⟨g, 1, #[v0], rfl, Nat.zero_le _, hblk, Nat.le_refl _, by unfold maxLen; decide, rfl, rfl⟩⟩
 have fin : ∀ (v : Value) (w' : World), w'.ownsRow 0 22 1 v (1 + n) (v0 :: vs) → w.grownBy w' (some g) → (v.ownBlock = some g ∨ v.ownBlock = some w.heap.size) → Mx G w0 w' ((kb, rowR 22 1 (1 + n) (v0 :: vs) v) :: R) := fun v w' h2 h3 h4 => M.write hb rfl h3 (fun _ e => by cases e; rfl) _ h2 row_dep fun b hb2 => by
  have hb3 : v.ownBlock = some b := hb2
  have hlt : b < w'.heap.size := by
   obtain ⟨A, c, rfl, -, -, hA⟩ := row_slice h2
   obtain ⟨g2, cur, rfl, hg2, -⟩ := hA (by omega)
   obtain rfl : g2 = b := Option.some.inj hb3
   exact zyb hg2
  refine ⟨hlt, ?_⟩
  rcases h4 with h4 | h4
  ·rw [hb3] at h4; cases h4; exact .inl rfl
  ·rw [hb3] at h4; cases h4; exact .inr (Nat.le_refl _)
 rcases hvc with ⟨rfl, rfl⟩ | ⟨ad, rfl, hvc⟩
 ·have hr := run_append_room_src (P := Tryz.prog) w 54 54 o.type 22 i hT hi g 0 1 1 (.slice none 0 cu) 0 [] (Src.ofNil w hT cu) (Nat.le_refl _) (fun j hj => absurd hj (Nat.not_lt_zero j)) (fun j hj => absurd hj (Nat.not_lt_zero j))
  obtain rfl : vs = [] := List.eq_nil_of_length_eq_zero hvl
  refine ⟨.slice (some ⟨g, 0, none⟩) 1 1, w, ?_, fin _ _ hown (World.grownBy.refl w (some g)) (.inl rfl)⟩
  unfold execOp
  simp only [ho, resolve, invoke, builtin, Sem.run_bind, Sem.run_pure, Result.andThen_ok, List.map_toArray, List.map_cons, List.map_nil, hs, hx]
  rw [hr]
  rfl
 ·obtain ⟨v', w', hrun, q1, q2, -, q3⟩ := run_append_own_at (P := Tryz.prog) w 0 54 o.type 22 i z 1 24 hT hi hz hsize hbytes hzs (by decide) (.slice (some ⟨g, 0, none⟩) 1 1) 1 [v0] hown ad n cu vs (by rw [hvl, Nat.mul_one]) hvc h1 (by unfold maxLen; omega) (by omega) (Nat.zero_le _)
  refine ⟨v', w', ?_, fin v' w' q1 q2 q3⟩
  unfold execOp
  simp only [ho, resolve, invoke, builtin, Sem.run_bind, Sem.run_pure, Result.andThen_ok, List.map_toArray, List.map_cons, List.map_nil, hs, hx, hrun]
end
theorem cell_below {w w' : World} (hb : Below w.heap.size w w') {b k : Nat} {v : Value} (h : w.cell? ⟨b, k, none⟩ = some v) : w'.cell? ⟨b, k, none⟩ = some v := by
 have hlt : b < w.heap.size := by
  by_cases e : b < w.heap.size
  ·exact e
  ·have : w.heap[b]? = none := Array.getElem?_eq_none (by omega)
   simp [World.cell?, this] at h
 simpa [World.cell?, hb.block b hlt] using h
theorem vals_at {w w' : World} {n : Nat} {Au : Option Addr} {vs : List Value} (h : n = 0 ∨ ∃ b o, Au = some ⟨b, o, none⟩ ∧ ∀ (j : Nat) (v : Value), vs[j]? = some v → w.cell? ⟨b, o + j, none⟩ = some v) (hn : vs.length = n) (ha : n = 0 → Au = none ∨ ∃ ad, Au = some ad) (hb : Below w.heap.size w w') : (Au = none ∧ n = 0) ∨ ∃ ad, Au = some ad ∧ ∀ (j : Nat) (v : Value), vs[j]? = some v → w'.cell? (ad.add j) = some v := by
 rcases h with h | ⟨b, o, e, hc⟩
 ·rcases ha h with h2 | ⟨ad, h2⟩
  ·exact .inl ⟨h2, h⟩
  ·refine .inr ⟨ad, h2, fun j v hj => ?_⟩
   have := (List.getElem?_eq_some_iff.1 hj).1
   omega
 ·exact .inr ⟨_, e, fun j v hj => by rw [zva]; exact cell_below hb (hc j v hj)⟩
theorem vals_one {w : World} {L : List (List UInt8)} {vs : List Value} (hl : vs.length = L.length) (h : ∀ (j : Nat) (l : List UInt8), L[j]? = some l → ∃ v, vs[j]? = some v ∧ IsB w l v) : ∀ u, u ∈ vs → u.oneCell' = true := fun u hu => by
 obtain ⟨j, hj, e⟩ := List.getElem_of_mem hu
 obtain ⟨l, hl2⟩ : ∃ l, L[j]? = some l := ⟨_, List.getElem?_eq_getElem (by omega)⟩
 obtain ⟨v, q1, A, c, rfl, -⟩ := h j l hl2
 rw [List.getElem?_eq_getElem hj, e] at q1
 obtain rfl := Option.some.inj q1
 rfl
theorem isb_sum {w : World} {g : Nat} {y : Nat → Int} {t : TypeId} (hy : ∀ k, 0 ≤ y k ∧ y k < 256) (h : w.heap[g]? = some (.cells (zi y) t (0, 0))) : IsB w (sumY y) (.slice (some ⟨g, 0, none⟩) 16 16) :=
 ⟨some ⟨g, 0, none⟩, 16, (by rw [zsb]), (by rw [zsb]; exact Nat.le_refl _), (by unfold maxLen; decide), (fun e => by cases e), arr16_rd h hy⟩
def texN (Q : Nat) (t : List UInt8) (L : List (List UInt8)) : Nat := expN Q (sumY (outF (macW [] (t :: L))))
def secN (Q : Nat) (s pass salt : List UInt8) : Nat := expN Q (sumY (strA (sumY (outF (macW [] [[120], s, pass]))) salt 2))
theorem isP_nil (w : World) : IsP w [] (zN) := ⟨none, 0, rfl, Nat.le_refl _, Nat.zero_le _, fun h => absurd h (Nat.lt_irrefl 0)⟩
theorem isP_blk {w : World} {L : List (List UInt8)} {g : Nat} {c : Array Value} {T : TypeId} (hg : w.heap[g]? = some (.cells c T (0, 0))) {n : Nat} (hn : n = L.length) (hc : c.size = n) (hm : n ≤ 1000) (hv : ∀ (j : Nat) (l : List UInt8), L[j]? = some l → ∃ u, c.toList[j]? = some u ∧ IsB w l u) : IsP w L (.slice (some ⟨g, 0, none⟩) n n) := by
 by_cases h0 : n = 0
 ·subst h0
  obtain rfl : L = [] := List.eq_nil_of_length_eq_zero hn.symm
  exact ⟨_, 0, rfl, Nat.le_refl _, Nat.zero_le _, fun h => absurd h (Nat.lt_irrefl 0)⟩
 ·exact isP_row (T := T) (vs := c.toList) ⟨by rw [Array.length_toList, hc, Nat.mul_one], .inr ⟨g, n, c, rfl, Nat.zero_le _, hg, Nat.le_refl _, by unfold maxLen; omega, by rw [hc, Nat.mul_one], by rw [Nat.mul_one, ← hc, ← Array.length_toList, List.take_length]⟩⟩ hn hv
theorem stretch_b {w : World} {v u : Value} {pass salt : List UInt8} (hv : IsB w pass v) (hu : IsB w salt u) :
  Calls Tryz.prog 70 #[v, u, .int .i64 3] w fun e w' => e = .returned (.agg (zi (strA pass salt 2))) ∧ Below w.heap.size w w' := by
 obtain ⟨A, c, rfl, h1, h2, h3, h4⟩ := hv
 obtain ⟨B, d, rfl, k1, k2, k3, k4⟩ := hu
 exact stretch_any A pass _ c rfl h1 h2 h3 B salt _ d rfl k1 k2 k3 3 (by decide) (by decide) 2 (by decide) w h4 k4
theorem z8b {Q : Nat} (h2 : 2 < Q) (l : List UInt8) : 1 ≤ expN Q l ∧ expN Q l < Q := by
 have := Nat.mod_lt (zua (sumY (outF (macW [] [[101, 120, 112, 111, 110, 101, 110, 116], l])))) (show 0 < Q - 1 by omega)
 unfold expN
 omega
def kN (Q : Nat) : Nat := texN Q [107] []
def uN (Q a b : Nat) : Nat := texN Q [117] [zq a, zq b]
theorem run_cvL {G : Option Nat} {w0 w : World} {R : List (Nat × Res)} {a : Act} {o : Oper} (M : Mx G w0 w R) {k : Nat} {l : List UInt8} {v : Value} (hk : look R k = some (ownR l v)) (hl : 0 < l.length) (x : Operand) (ho : o.op = .convert 22 22 x) (hx : a.eval x = v) : ∃ v' w', (execOp a.eval o).run Tryz.prog w = .ok (.value v') w' ∧ Mx G w0 w' ((k, bytR l v') :: R) := by
 have hI := M.isO hk
 obtain ⟨hlen, hr⟩ := M.at_ k _ hk
 rcases hr with ⟨e, h0⟩ | ⟨g, c', cur, e, hb, hg, hn, hc, hs, ht⟩
 ·rw [h0] at hl; exact absurd hl (Nat.lt_irrefl 0)
 ·have hsh : w.shape? g = some (5, cur.size) := by unfold World.shape?; rw [hg]
  have hgr : w.grownBy (w.freeze ⟨g, cur.size, none⟩ 1) (some g) := by
   refine ⟨rfl, rfl, rfl, by simp [World.freeze], fun k hk hne => ?_⟩
   simp only [World.freeze, if_neg (by decide : ¬ (1 = 0)), Array.getElem?_modify]
   rw [if_neg (fun e => hne (by rw [e]))]
  have hIs : IsB (w.freeze ⟨g, cur.size, none⟩ 1) l v := by
   obtain ⟨A, d, e1, q1, q2, q3, q4⟩ := hI
   refine ⟨A, d, e1, q1, q2, q3, fun hp => ?_⟩
   obtain ⟨ad, e2, p1, p2⟩ := q4 hp
   have hA : ad = ⟨g, 0, none⟩ := by
    rw [e1, e2] at e
    injection e with e3
    exact Option.some.inj e3
   refine ⟨ad, e2, by simpa [World.freeze] using p1, fun j b hj => ?_⟩
   have := p2 j b hj
   rw [hA, zva] at this ⊢
   simp only [World.cell?, World.freeze, if_neg (by decide : ¬ (1 = 0)), Array.getElem?_modify, hg, if_true, Option.map_some] at this ⊢
   exact this
  refine ⟨v, _, ?_, M.write hk rfl hgr (fun g2 e2 => by cases e2; show v.ownBlock = some g; rw [e]; rfl) (bytR l v) hIs bytR_dep fun b hb2 => ⟨hIs.lt hb2, .inl (bfp_ofp hb2)⟩⟩
  rw [← hx] at e ⊢
  refine run_cv' _ _ x ho e ?_
  simp [convert, run_underlying Tryz.underlying22, run_underlying Tryz.underlying5, markStringish, hsh]
  exact e.symm
variable {ds : List Deferred}
def noDefer (L : List Oper) : Bool := L.all fun o => match o.op with
 | .defer _ => false
 | _ => true
theorem noDefer_at {L : List Oper} (h : noDefer L = true) : ∀ o ∈ L, ∀ c, o.op ≠ .defer c := fun o ho c e => by
 have := List.all_eq_true.1 h o ho
 simp [e] at this
abbrev wideR (r : Option Nat) : Fence := { Fence.wide with round := r }
section
variable {P : Program} {r : Option Nat} {n : Nat} {ops : Array Oper} {Q : Exit → Act → World → Prop} {a : Act} {w : World} {o : Oper} {K : Act → World → Prop}
theorem rows_wide {row : String} {args : Array Value} {R : Value → World → Prop} (h : Rows P row args w R) : RowsIn (wideR r) n P row args w R :=
 fun c cs _ => let ⟨v, w', q, s⟩ := h c cs; ⟨v, w', q, stepsIn_wide.2 s⟩
theorem upon_in : ∀ x : Result Next, o.upon P a K Q x → o.uponIn (wideR r) n P a K Q x := by
 intro x h
 cases x with
 | ok x w' =>
  cases x with
  | value v => exact h
  | skip => exact h
  | defer d => exact h
  | enter f args => exact ⟨fun e => Bool.noConfusion e, (show CallsIn Fence.wide (n - 1) P _ _ _ _ from callsIn_wide.2 h).mono fun e w2 q => by cases e <;> exact q⟩
  | row row args => exact ⟨fun e => Bool.noConfusion e, rows_wide h⟩
  | _ => exact False.elim h
 | halt x w' =>
  cases x with
  | panic v => exact h
  | _ => exact False.elim h
theorem op_in (hd : ∀ c, o.op ≠ .defer c) (h : o.wp P a w K Q) : o.wpIn (wideR r) n P a w K Q := by
 refine ⟨fun _ _ => trivial, ?_⟩
 rw [Oper.semAt_eq _ _ _ hd]
 exact upon_in _ h
theorem list_in (hQ : ¬ LetsOut Q) : ∀ (l : List Oper), (∀ o ∈ l, ∀ c, o.op ≠ .defer c) → ∀ (a : Act) (w : World), wpList P ops Q l a w → wpListIn (wideR r) n P ops Q l a w
 | [], _, _, _, h => h
 | o :: l, hl, a, w, h => by
  unfold wpList at h
  unfold wpListIn
  by_cases hw : Region.wanted o (yielded ops a.tmps) = true
  ·rw [if_pos hw] at h ⊢
   rcases h with h | h
   ·exact Oper.wpIn_mono (fun a w h => list_in hQ l (fun o ho => hl o (List.mem_cons_of_mem _ ho)) a w h) (op_in (hl o List.mem_cons_self) h)
   ·exact absurd h.2 hQ
  ·rw [if_neg hw] at h ⊢
   exact ⟨fun _ _ => trivial, list_in hQ l (fun o ho => hl o (List.mem_cons_of_mem _ ho)) _ w h⟩
theorem opn_in (hQ : ¬ LetsOut Q) (hd : ∀ (i : Nat) (o : Oper), ops[i]? = some o → ∀ c, o.op ≠ .defer c) {i : Nat} {K' : Act → World → Prop} (hK : ∀ a w, K a w → K' a w) (h : wpOp P ops Q i K a w) : wpOpIn (wideR r) n P ops Q i K' a w := by
 unfold wpOp at h
 unfold wpOpIn
 cases ho : ops[i]? with
 | none => rw [ho] at h; exact hK _ _ h
 | some o =>
  rw [ho] at h
  by_cases hw : Region.wanted o (yielded ops a.tmps) = true
  ·simp only [hw, if_true] at h ⊢
   rcases h with h | h
   ·exact Oper.wpIn_mono hK (op_in (hd i o ho) h)
   ·exact absurd h.2 hQ
  ·simp only [hw] at h ⊢
   exact ⟨fun _ _ => trivial, hK _ _ h⟩
theorem any_in (hQ : ¬ LetsOut Q) (hd : ∀ (i : Nat) (o : Oper), ops[i]? = some o → ∀ c, o.op ≠ .defer c) {md : Region.Mode} : ∀ (fuel : Nat) (listed : Array Bool) (a : Act) (w : World), wpAny P md ops Q fuel listed a w → wpAnyIn (wideR r) n P md ops Q fuel listed a w
 | 0, _, _, _, h => h
 | fuel + 1, listed, a, w, h => ⟨h.1, fun i hi => opn_in hQ hd (fun a w h => any_in hQ hd fuel _ a w h) (h.2 i hi)⟩
end
section
variable {P : Program} {l n' : Nat} {Q : Exit → Act → World → Prop} {a : Act} {w : World} {L : List Oper} {id : Nat}
theorem wpIn_lit' (hQ : ¬ LetsOut Q) (hnd : noDefer L = true) (h : wpList P L.toArray Q L a w) : (Code.region id L.toArray false).wpIn (Fence.wide.inRound l) n' P Q a w :=
 wpIn_region_lit (list_in (r := some l) hQ L (noDefer_at hnd) a w h)
theorem wpIn_region_inv (hQ : ¬ LetsOut Q) (hnd : noDefer L = true) (hm : P.follows .mixedOrders = true) (Inv : Array Bool → Act → World → Prop)
  (hstart : Inv (Array.replicate L.toArray.size false) a w.drew)
  (hstep : ∀ listed a w i, listed.size = L.toArray.size → Inv listed a w → i ∈ Region.ready .any L.toArray listed → wpOp P L.toArray Q i (fun a' w' => Inv (listed.setIfInBounds i true) a' w') a w)
  (hend : ∀ listed a w, listed.size = L.toArray.size → Inv listed a w → Region.ready .any L.toArray listed = [] → Q .normal a w) : (Code.region id L.toArray true).wpIn (Fence.wide.inRound l) n' P Q a w :=
 wpIn_region_any hm (any_in (r := some l) hQ (fun i o ho => noDefer_at hnd o (by have := List.mem_of_getElem? (l := L) (i := i) (by simpa using ho); exact this)) _ _ _ _ (wpAny_inv Inv hstep hend _ _ _ _ (by simp) (by simp [List.count_replicate]) hstart))
end
theorem RegInv.wpIn {P : Program} {L : List Oper} {Q : Exit → Act → World → Prop} {a : Act} {w : World} {id l n' : Nat} (hQ : ¬ LetsOut Q) (hnd : noDefer L = true) (hm : P.follows .mixedOrders = true) : RegInv P L Q a w ((Code.region id L.toArray true).wpIn (Fence.wide.inRound l) n' P Q a w) := fun Inv h1 h2 h3 => wpIn_region_inv hQ hnd hm Inv h1 h2 h3
/-! What is no cells. -/
def othR (W0 : World) : Res := ⟨false, fun g => ∃ o, W0.heap[g]? = some o ∧ o.isCells = false, fun w => KeepsOthers W0 w⟩
theorem othR_dep {W0 : World} : ∀ u u', Same (othR W0).fp u u' → (othR W0).F u → (othR W0).F u' := fun u u' hs h =>
 ⟨Nat.le_trans h.size hs.size, fun k o hk ho => hs k o ⟨o, hk, ho⟩ (h.same k o hk ho)⟩
def CellsF (w : World) (r : Res) : Prop := ∀ g, r.fp g → ∃ o, w.heap[g]? = some o ∧ o.isCells = true
def CellsA (w : World) : List (Nat × Res) → Prop
 | [] => True
 | p :: L => CellsF w p.2 ∧ CellsA w L
theorem CellsA.at {w : World} : ∀ {R : List (Nat × Res)} {i : Nat} {r : Res}, CellsA w R → look R i = some r → CellsF w r
 | [], _, _, _, h => by cases h
 | p :: L, i, r, h, e => by
  obtain ⟨k, x⟩ := p
  rw [z5a] at e
  split at e
  ·cases e; exact h.1
  ·exact h.2.at e
section
variable {G : Option Nat} {w0 w : World} {R : List (Nat × Res)}
theorem Mx.oth (M : Mx G w0 w R) (h : CellsA w R) (i : Nat) : Mx G w0 w ((i, othR w) :: R) :=
 M.cons i _ (KeepsOthers.refl w) othR_dep (fun g ⟨o, hg, _⟩ => (Array.getElem?_eq_some_iff.1 hg).1) (fun e => by cases e) fun k s e _ _ g ⟨o, hg, ho⟩ hs => by
  obtain ⟨o', h1, h2⟩ := h.at e g hs
  rw [hg] at h1; cases h1; rw [ho] at h2; cases h2
theorem Mx.keeps (M : Mx G w0 w R) {i : Nat} {W : World} (h : look R i = some (othR W)) : KeepsOthers W w := M.at_ i _ h
theorem Mx.putObj (M : Mx G w0 w R) (h : CellsA w R) {l : Nat} (hl : w0.heap.size ≤ l) (hnc : NotCells w l) (o : Obj) : Mx G w0 (w.putObj l o) R := by
 have hg := grownBy_putObj' w l o
 have hr : ∀ g, (∃ o', w.heap[g]? = some o' ∧ o'.isCells = true) → g ≠ l := fun g ⟨o', h1, h2⟩ e => by
  subst e
  rw [hnc o' h1] at h2; cases h2
 refine ⟨⟨hg.os.trans M.grown.os, hg.tape.trans M.grown.tape, hg.output.trans M.grown.output, Nat.le_trans M.grown.size hg.size, fun k hk hn => ?_⟩, fun i r e => ?_, M.dep, fun i r e g hgp => Nat.lt_of_lt_of_le (M.lt i r e g hgp) hg.size, M.own, M.dis⟩
 ·exact (World.putObj_heap_other (by omega)).trans (M.grown.block k hk hn)
 ·exact M.dep i r e w _ (Same.of_grown hg fun g hgp e2 => hr g (h.at e g hgp) (Option.some.inj e2).symm) (M.at_ i r e)
end
theorem cell_cells {w : World} {g k : Nat} {v : Value} (h : w.cell? ⟨g, k, none⟩ = some v) : ∃ o, w.heap[g]? = some o ∧ o.isCells = true := by
 unfold World.cell? at h
 cases ho : w.heap[g]? with
 | none => rw [ho] at h; cases h
 | some o => cases o <;> first | exact ⟨_, rfl, rfl⟩ | (rw [ho] at h; cases h)
theorem zoa {w : World} {g : Nat} {t : TypeId} {c : Array Value} (h : w.heap[g]? = some (.cells c t (0, 0))) : CellsF w (blkR g t c) := fun b hb => by cases hb; exact ⟨_, h, rfl⟩
theorem zab {w : World} {l : List UInt8} {v : Value} (h : IsB w l v) : CellsF w (bytR l v) := fun g hg => by
 obtain ⟨A, c, rfl, h1, h2, h3, h4⟩ := h
 obtain ⟨o, s, n, c', e, hn⟩ := hg
 injection e with e1 e2 e3
 subst e1 e2
 obtain ⟨b, o', e4, hb, hc⟩ := h4.at hn
 injection e4 with e4
 injection e4 with e5 e6 e7
 subst e5
 obtain ⟨x, hx⟩ : ∃ x, l[0]? = some x := ⟨_, List.getElem?_eq_getElem hn⟩
 exact cell_cells (hc 0 x hx)
section
variable {P : Program} {ops : Array Oper} {Q : Exit → Act → World → Prop} {a : Act} {w w' : World} {rest : List Oper} {o : Oper} {n m : Nat} {V : List (Nat × Value)} {r : Option Nat}
theorem wi_run (hnd : ∀ c, o.op ≠ .defer c) (hw : Region.wanted o (yielded ops a.tmps) = true) {d : Nat} (hd : o.dst = some d) (F : Fx n a V ds) (hn : Nat.blt d n = true) (v : Value) (hr : (execOp a.eval o).run P w = .ok (.value v) w')
  (h : ∀ a', Fx n a' ((d, v) :: V) ds → wpListIn (wideR r) m P ops Q rest a' w') : wpListIn (wideR r) m P ops Q (o :: rest) a w := by
 unfold wpListIn
 rw [if_pos hw]
 refine op_in hnd ?_
 unfold Oper.wp
 rw [hr]
 have := F.put d v hn
 rw [← hd] at this
 exact h _ this
theorem calls_fxM {f : FuncId} {fn : Func} {c : Code} {args : List Value} {w : World} {R : Ending → World → Prop} (n : Nat) (hf : P.funcs[f]? = some fn) (hb : fn.body = some c) (hn : fn.ntmps = n) (hl : Nat.ble args.length n = true)
  (h : ∀ a, Fx n a (file 0 args) → c.wp P (bodyPostM Fence.wide 3 P fn R) a w) : Calls P f args.toArray w R := by
 have hl' : args.length ≤ n := Nat.le_of_ble_eq_true hl
 refine (callsIn_wide (n := 3)).1 (callsIn_of_wp_marks hf hb trivial (wpIn_wide.2 (h _ ?_)) rfl)
 refine Fx.zero _ (by simp [hn]; omega) fun t v e => ?_
 have := (look_file args 0 t v e).2
 simpa using this
theorem bodyM_ret1 {fn : Func} {R : Ending → World → Prop} {a : Act} {v : Value} {D : Nat} (hd : a.defers = [{ target := .collected D, args := #[] }]) (hD : w.heap[D]? = some (.deferred (some [])))
  (hr : (results fn a.tmps).run P (w.putObj D (.deferred none)) = .ok v (w.putObj D (.deferred none))) (hR : R (.returned v) (w.putObj D (.deferred none))) : bodyPostM Fence.wide 3 P fn R .ret a w := by
 show LeavesInM _ _ _ _ _ _ a.defers _ _
 rw [hd]
 exact ⟨by simp, .inl ⟨_, _, rfl, run_takeDeferred hD, ⟨v, hr, hR⟩⟩⟩
end
theorem one_slc {v : Value} {A : Option Addr} {n c : Nat} (h : v = .slice A n c) : (#[v]).all (·.oneCell') = true := by subst h; simp [Value.oneCell']
def objR (D : Nat) (o : Obj) : Res := ⟨false, fun g => g = D, fun w => w.heap[D]? = some o⟩
theorem Mx.obj {G : Option Nat} {w0 w : World} {R : List (Nat × Res)} (M : Mx G w0 w R) (h : CellsA w R) (i D : Nat) (o : Obj) (hD : w.heap[D]? = some o) (ho : o.isCells = false) : Mx G w0 w ((i, objR D o) :: R) :=
 M.cons i _ hD (fun u u' hs h => hs D o rfl h) (fun g hg => by cases hg; exact (Array.getElem?_eq_some_iff.1 hD).1) (fun e => by cases e) fun k s e _ _ g hg hs => by
  cases hg
  obtain ⟨o', h1, h2⟩ := h.at e D hs
  rw [hD] at h1; cases h1; rw [ho] at h2; cases h2
theorem Mx.anObj {G : Option Nat} {w0 w : World} {R : List (Nat × Res)} (M : Mx G w0 w R) {i D : Nat} {o : Obj} (h : look R i = some (objR D o)) : w.heap[D]? = some o := M.at_ i _ h
theorem RecAt.below {l D : Nat} {o1 o2 : Obj} {W W' : World} (h : RecAt l D o1 o2 W) (hb : Below W.heap.size W W') : RecAt l D o1 o2 W' :=
 ⟨(hb.block l (Array.getElem?_eq_some_iff.1 h.1).1).trans h.1, (hb.block D (Array.getElem?_eq_some_iff.1 h.2.1).1).trans h.2.1, h.2.2⟩
end Go.Proofs.YtcfepoopkfhojaaGreat
namespace Go.Proofs.YtcfepoopkfhojaaGreat
open Go.ChangeShapes Go.WideShapes Go.ChangeAt Go.RowKit Go.Shelf
variable {ds : List Deferred}
theorem Fx.fresh {n : Nat} {a : Act} {V : List (Nat × Value)} (F : Fx n a V ds) (ds' : List Deferred) : Fx n { a with defers := ds' } V ds' := ⟨F.size, rfl, F.at_⟩
end Go.Proofs.YtcfepoopkfhojaaGreat
namespace Go.Proofs.YtcfepoopkfhojaaGreat
open Go.ChangeShapes Go.WideShapes Go.ChangeAt Go.RowKit Go.Shelf
variable {ds : List Deferred}
theorem IsB.shape {w : World} {l : List UInt8} {v : Value} (h : IsB w l v) : ∃ A c, v = .slice A l.length c := by
 obtain ⟨A, c, e, _⟩ := h
 exact ⟨A, c, e⟩
theorem IsB.cap {w : World} {l : List UInt8} {A : Option Addr} {n c : Nat} (h : IsB w l (.slice A n c)) : l.length ≤ c ∧ c ≤ maxLen ∧ (A = none → c = 0) ∧ Rd w A l ∧ n = l.length := by
 obtain ⟨A', c', e, h1, h2, h3, h4⟩ := h
 injection e with e1 e2 e3
 subst e1 e2 e3
 exact ⟨h1, h2, h3, h4, rfl⟩
section
variable {G : Option Nat} {w0 w w' : World} {R : List (Nat × Res)} {l r : List UInt8} {v u : Value} {i k : Nat} {a : Act} {o : Oper}
end
section
variable {a : Act} {w : World} {o : Oper} {s : ByteArray} {z : Int}
theorem y_nilB (x : Operand) (tz : TypeId) (ho : o.op = .binOp .eql 22 x (.const (zN)) tz) {A : Option Addr} {n c : Nat} (hx : a.eval x = .slice A n c) {b : Bool} (hb : A.isNone = b) : (execOp a.eval o).run Tryz.prog w = .ok (.value (.bool b)) w := by
 subst hb
 have h1 : (binOp .eql 22 (.slice A n c) (zN)).run Tryz.prog w = .ok (.bool A.isNone) w := by
  simp only [binOp]
  simp [run_equal_slice_nil w _ _ _ _ _ Tryz.underlying22]
 unfold execOp
 simp only [ho, hx, Sem.run_bind]
 rw [show a.eval (.const (zN)) = zN from rfl]
 have h2 : (eqGuard .eql 22 x (.const (zN)) (.slice A n c) (zN)).run Tryz.prog w = .ok () w := by
  have hgt : Tryz.prog.eqGuardType Tryz.prog.depth 22 = false := by kernel_rfl
  simp [eqGuard, go_sem, hgt]
 rw [h2]
 simp only [Result.andThen_ok, h1]
 rfl
end
section
variable {P : Program} {ops : Array Oper} {Q : Exit → Act → World → Prop} {a : Act} {w w0 : World} {rest : List Oper} {o : Oper} {n : Nat} {G : Option Nat} {V : List (Nat × Value)}
theorem zgb (hw : Region.wanted o (yielded ops a.tmps) = true) {d : Nat} (hd : o.dst = some d) (F : Fx n a V ds) (hn : Nat.blt d n = true) {Rf : Value → List (Nat × Res)} (hr : ∃ v w', (execOp a.eval o).run P w = .ok (.value v) w' ∧ Mx G w0 w' (Rf v))
  (h : ∀ v a' w', Fx n a' ((d, v) :: V) ds → Mx G w0 w' (Rf v) → wpList P ops Q rest a' w') : wpList P ops Q (o :: rest) a w := by
 obtain ⟨v, w', h1, h2⟩ := hr
 exact zj hw hd F hn v h1 fun a' F' => h v a' w' F' h2
end
section
variable {G : Option Nat} {w0 w : World} {R : List (Nat × Res)} {a : Act} {o : Oper}
def bytN (N : Nat) (l : List UInt8) (v : Value) : Res := ⟨false, bfp v, fun w => IsB w l v ∧ ∀ g, bfp v g → N ≤ g⟩
theorem Mx.frN (M : Mx G w0 w R) {k N : Nat} {l : List UInt8} {v : Value} (h : look R k = some (bytN N l v)) : ∀ g, bfp v g → N ≤ g := (M.at_ k _ h).2
theorem Mx.unN (M : Mx G w0 w R) {k N : Nat} {l : List UInt8} {v : Value} (h : look R k = some (bytN N l v)) : Mx G w0 w ((k, bytR l v) :: R) :=
 M.cons k _ (M.at_ k _ h).1 bytR_dep (fun g hg => M.lt k _ h g hg) (fun e => by cases e) fun j s e hj hh g hg hg2 => by
  rcases hh with hh | hh
  ·cases hh
  ·exact M.dis j k s _ e h (fun e2 => hj e2.symm) hh g hg2 hg
def sBy (s : ByteArray) : List UInt8 := s.data.toList
theorem sBy_len (s : ByteArray) : (sBy s).length = s.size := by unfold sBy; rw [Array.length_toList]; rfl
theorem run_cvSm (M : Mx G w0 w R) (i : Nat) (x : Operand) (ho : o.op = .convert 9 22 x) {s : ByteArray} (hx : a.eval x = .string s) (hs : s.size ≤ maxLen) :
  ∃ v w', (execOp a.eval o).run Tryz.prog w = .ok (.value v) w' ∧ Mx G w0 w' ((i, bytN w0.heap.size (sBy s) v) :: R) := by
 have hc := grownCap_ge w s.size 0 5
 have hm := grownCap_le_maxLen w s.size 0 5 hs
 obtain ⟨w', hw'⟩ : ∃ w', w' = w.drew.alloc (.cells (bytesRow s (grownCap w s.size 0 5)) 5 ((bytesRow s (grownCap w s.size 0 5)).size, (bytesRow s (grownCap w s.size 0 5)).size + 1)) := ⟨_, rfl⟩
 have hh : w'.heap[w.heap.size]? = some (.cells (bytesRow s (grownCap w s.size 0 5)) 5 ((bytesRow s (grownCap w s.size 0 5)).size, (bytesRow s (grownCap w s.size 0 5)).size + 1)) := by
  rw [hw']; exact heap_alloc_new w.drew _
 refine ⟨.slice (some ⟨w.heap.size, 0, none⟩) s.size (grownCap w s.size 0 5), w', ?_, M.fresh (by rw [hw']; exact (zta w).trans (zga w.drew _)) i _ ⟨?_, ?_⟩ (fun u u' hs h => ⟨IsB.same hs h.1, h.2⟩) ?_⟩
 ·have h := run_bytes_of_string w 9 22 5 s Tryz.underlying9 Tryz.underlying22 Tryz.underlying5
  rw [hw']
  exact run_cv' _ _ x ho hx h
 ·refine ⟨_, _, by rw [sBy_len], by rw [sBy_len]; exact hc, hm, (fun e => by cases e), fun _ => ⟨_, rfl, zyb hh, fun j b hj => ?_⟩⟩
  rw [zva, Nat.zero_add]
  have hl := (List.getElem?_eq_some_iff.1 hj).1
  rw [sBy_len] at hl
  have hcell : (bytesRow s (grownCap w s.size 0 5))[j]? = some (bv b) := by
   unfold bytesRow sBy at *
   rw [Array.getElem?_append]
   rw [if_pos (by simpa using hl)]
   rw [Array.getElem?_toList] at hj
   simp [hj, bv]
  simp [World.cell?, hh, hcell]
 ·rintro g ⟨q, s', n, c, e, _⟩
  injection e with e
  injection e with e
  injection e with e
  have := M.le
  omega
 ·rintro g ⟨q, s', n, c, e, _⟩
  injection e with e
  injection e with e
  injection e with e
  subst e
  exact ⟨Nat.le_refl _, zyb hh⟩
theorem run_cvS (M : Mx G w0 w R) (i : Nat) (x : Operand) (ho : o.op = .convert 9 22 x) {s : ByteArray} (hx : a.eval x = .string s) (hs : s.size ≤ 1000000) :
  ∃ v w', (execOp a.eval o).run Tryz.prog w = .ok (.value v) w' ∧ Mx G w0 w' ((i, bytN w0.heap.size (sBy s) v) :: R) :=
 run_cvSm M i x ho hx (Nat.le_trans hs (by unfold maxLen; omega))
end
end Go.Proofs.YtcfepoopkfhojaaGreat
namespace Go.Proofs.YtcfepoopkfhojaaGreat
open Go.ChangeShapes Go.WideShapes Go.ChangeAt Go.RowKit Go.Shelf
theorem one_slcB {w : World} {l : List UInt8} {v : Value} (h : IsB w l v) : (#[v]).all (·.oneCell') = true := by
 obtain ⟨A, c, rfl⟩ := h.shape
 simp [Value.oneCell']
section
variable {P : Program} {a : Act} {w w0 : World} {o : Oper} {G : Option Nat} {R : List (Nat × Res)}
theorem run_st (M : Mx G w0 w R) {k g off : Nat} {t : TypeId} {c : Array Value} (hk : look R k = some (blkR g t c)) (ty : TypeId) (x y : Operand) (ho : o.op = .store ty x y) (hx : a.eval x = .pointer (some ⟨g, off, none⟩)) {v : Value} (hy : a.eval y = v)
  (s c' : Array Value) (hv : v.cells = s) (hos : off + s.size ≤ c.size) (h1 : s.all (·.oneCell') = true) (hc' : (c.toList.take off ++ s.toList ++ c.toList.drop (off + s.size)).toArray = c') (hi : (P.info? ty).map (·.size) = some s.size) :
  ∃ w', (execOp a.eval o).run P w = .ok .skip w' ∧ Mx G w0 w' ((k, blkR g t c') :: R) :=
 ⟨_, y_st ty x y ho hx hy (M.blk hk) s c' hv hos h1 hc' hi, M.put hk (zfb _ _ _) (setRow_heap w g c c' t (0, 0) (M.blk hk))⟩
end
def Tl (w : World) (v : Value) (l : List UInt8) : Prop := (v = zN ∧ l = []) ∨
 ∃ g o c cur, v = .slice (some ⟨g, o, none⟩) l.length c ∧ w.heap[g]? = some (.cells cur 5 (0, 0)) ∧ l.length ≤ c ∧ c ≤ maxLen ∧ o + c ≤ cur.size ∧ ∀ j b, l[j]? = some b → cur[o + j]? = some (bv b)
theorem Tl.same {l : List UInt8} {v : Value} {u u' : World} (hs : Same (ofp v) u u') (h : Tl u v l) : Tl u' v l := by
 rcases h with h | ⟨g, o, c, cur, e, h1, h2⟩
 ·exact .inl h
 ·exact .inr ⟨g, o, c, cur, e, hs g _ (by rw [ofp, e]; rfl) h1, h2⟩
theorem Tl.isb {w : World} {v : Value} {l : List UInt8} (h : Tl w v l) : IsB w l v := by
 rcases h with ⟨rfl, rfl⟩ | ⟨g, o, c, cur, rfl, h1, h2, h3, h4, h5⟩
 ·exact zfa w
 ·refine ⟨_, _, rfl, h2, h3, fun e => (by cases e), fun _ => ⟨_, rfl, (Array.getElem?_eq_some_iff.1 h1).1, fun j b hb => ?_⟩⟩
  rw [zva]
  exact y_cell h1 (h5 j b hb)
theorem Tl.lt {w : World} {v : Value} {l : List UInt8} (h : Tl w v l) : ∀ g, ofp v g → g < w.heap.size := fun g hg => by
 rcases h with ⟨rfl, _⟩ | ⟨g', o, c, cur, rfl, h1, _⟩
 ·cases hg
 ·cases hg; exact (Array.getElem?_eq_some_iff.1 h1).1
section
variable {G : Option Nat} {w0 w : World} {R : List (Nat × Res)} {a : Act} {o : Oper}
end
end Go.Proofs.YtcfepoopkfhojaaGreat
namespace Go.Proofs.YtcfepoopkfhojaaGreat
open Go.ChangeShapes Go.WideShapes Go.ChangeAt Go.RowKit
theorem together_any (a b m : Nat) (ha : a < 4294967296) (hb : b < 4294967296) (h0 : 0 < m) (hm : m < 4294967296 ^ 8) (w : World) :
  Calls Tryz.prog 38 #[numV a, numV b, numV m] w fun e w' => e = .returned (numV ((a + b) % m)) ∧ Below w.heap.size w w' := by
 have ha8 : a < 4294967296 ^ 8 := Nat.lt_trans ha (by decide)
 have hb8 : b < 4294967296 ^ 8 := Nat.lt_trans hb (by decide)
 have hab : a + b < 4294967296 ^ 8 := Nat.lt_trans (show a + b < 4294967296 * 2 by omega) (by decide)
 have kA := fun w => add_any a b ha8 hb8 w
 rw [show carryI a b = 0 by unfold carryI; rw [Nat.div_eq_of_lt hab]; rfl] at kA
 have kO := fun w => from_any 0 (by decide) (by decide) w
 have kR := fun w => rest_pos (a + b) 0 m hab (by decide) hm h0 w
 rw [Nat.zero_mul, Nat.add_zero] at kR
 refine zea (args := [numV a, numV b, numV m]) 27 Tryz.func38 rfl rfl rfl ?_
 intro fa F
 have M := Mx.start w
 refine zT fun _ hK1 => zh (zc rfl) rfl F rfl M 0 (t := 27) (c := numA a) (by unfold execOp; simp only [(F.get (t := 0) rfl)]; kernel_rfl) ?_
 intro g2 a2 w2 F2 M2
 refine zh (zc rfl) rfl F2 rfl M2 1 (t := 27) (c := numA b) (by unfold execOp; simp only [(F2.get (t := 1) rfl)]; kernel_rfl) ?_
 intro g3 a3 w3 F3 M3
 refine zh (zc rfl) rfl F3 rfl M3 2 (t := 27) (c := numA m) (by unfold execOp; simp only [(F3.get (t := 2) rfl)]; kernel_rfl) ?_
 intro g4 a4 w4 F4 M4
 refine zh (zc rfl) rfl F4 rfl M4 3 (t := 27) (c := numA 0) (zu rfl) ?_
 intro g5 a5 w5 F5 M5
 refine hK1 _ _ (zT fun _ hK6 => zAx 2 [(12, numV a), (13, numV b)] [0, 1] (zp (M5.blk (k := 0) rfl) (zp (M5.blk (k := 1) rfl) dnil)) [g2, g3] F5 fun _ F7 => ?_)
 refine zaa (zc rfl) rfl F7 rfl rfl (zE Tryz.func73 rfl) #[numV a, numV b] (z3a (F7.get (t := 12) rfl) (F7.get (t := 13) rfl)) (zca (kA w5)) ?_
 rintro _ w8 a8 ⟨rfl, b8⟩ F8
 have M8 := M5.step b8
 refine zB 3 [(5, .pointer (some ⟨g4, 0, none⟩)), (6, .pointer (some ⟨g5, 0, none⟩)), (15, numV (a + b)), (16, .int .u32 0)] [] dnil [] F8 fun _ F9 => ?_
 refine zh (zc rfl) rfl F9 rfl M8 4 (t := 27) (c := numA 0) (zu rfl) ?_
 intro g10 a10 w10 F10 M10
 refine zr (zc rfl) rfl F10 M10 (k := 4) rfl _ _ _ rfl (F10.get (t := 7) rfl) (F10.get (t := 15) rfl) (numA (a + b)) _ rfl (zL rfl) (zy _) (zo rfl) zd ?_
 intro w11 M11
 refine rm rfl F10 fun _ F12 => hK6 _ _ (zSk fun _ hK13 => ?_)
 have hD14 := (zp (M11.blk (k := 4) rfl) (zp (M11.blk (k := 2) rfl) dnil))
 refine region_fxL F12 (SK [.inl (numV (a + b)), .inl (.int .u32 0), .inl (.int .i64 0), .inl (numV 0), .inl (numV m), .inl (.tuple #[numV ((a + b) % m), .bool true]), .inl (.tuple #[numV ((a + b) % m), .bool true]), .inl (numV ((a + b) % m)), .inl (.bool true), .inr (StK.new w11.heap.size (numA 0) 27 (by decide))]) 10 8 17 1 6 #[numV ((a + b) % m), .bool true] (.bool true) rfl (by kernel_rfl) rfl (by kernel_rfl) (fun _ _ h => h) rfl (fun _ _ => Iff.rfl) rfl ⟨hopP F12 hD14 0 (some g10) (by kernel_rfl), hop0 F12 (by kernel_rfl), hopR F12 [(19, .int .u32 0)] (v := .int .i64 0) fun ua uw hb ⟨e19, _⟩ => (y_cvI _ _ _ rfl e19 Tryz.underlying25 Tryz.underlying3 rfl), hopC F12 [(20, .int .i64 0)] rfl (zE Tryz.func72 rfl) fun uw hb => kO uw, hopP F12 hD14 1 (some g4) (by kernel_rfl), hopC F12 [(18, numV (a + b)), (21, numV 0), (22, numV m)] rfl (zE Tryz.func50 rfl) fun uw hb => kR uw, hop0 F12 (by kernel_rfl), hop0 F12 (by kernel_rfl), hop0 F12 (by kernel_rfl), ?_, trivial⟩ ?_
 ·intro ua uw hb hd
  exact hop_new (zc rfl) hb.size hb.size (by decide) (zu rfl)
 intro p15 a15 w15 b15 G15 y15
 obtain ⟨-, -, -, -, -, -, -, q7, q8, q9, -⟩ := y15
 obtain ⟨gn9x14, r9, hg9, hc9⟩ := q9 (by decide)
 replace r9 : p15 9 = .pointer (some ⟨gn9x14, 0, none⟩) := r9
 have r7 : p15 7 = numV ((a + b) % m) := q7 (by decide)
 have r8 : p15 8 = .bool true := q8 (by decide)
 simp only [List.take, layV, Nat.zero_add, Nat.reduceAdd, r7, r8, r9] at G15
 have M15 := M11.newb b15.below 5 hg9 hc9
 clear hg9 hc9 r9
 clear F12 M11 r7 q7 r8 q8
 refine st_ex M15 (k := 5) rfl _ _ _ rfl (G15.get (t := 9) rfl) (G15.get (t := 24) rfl) (numA ((a + b) % m)) _ rfl (zL rfl) (zy _) (zo rfl) zd ?_
 intro w16 M16
 refine rm rfl G15 fun _ F17 => hK13 _ _ (zT fun _ hK18 => zj (w' := w16) (zc rfl) rfl F17 rfl (numV ((a + b) % m)) (zxa _ _ rfl (F17.get (t := 9) rfl) (M16.blk (k := 5) rfl) (numA ((a + b) % m)) (z1a rfl) Tryz.underlying27 rfl zd) fun _ F19 => ?_)
 refine zr (zc rfl) rfl F19 M16 (k := 3) rfl _ _ _ rfl (F19.get (t := 6) rfl) (F19.get (t := 26) rfl) (numA ((a + b) % m)) _ rfl (zL rfl) (zy _) (zo rfl) zd ?_
 intro w20 M20
 refine hK18 _ _ (wp_ret ?_)
 try simp only [Exit.then, Exit.inBlock, Exit.jump]
 exact bodyPost_ret (results_cell_row rfl _ _ _ _ _ (0, 0) _ (F19.get rfl) (M20.blk (k := 3) rfl) Tryz.underlying27 rfl zd) F19.defers ⟨rfl, M20.below⟩
theorem texp_any (k : Int) (P Q g : Nat) (h2 : 2 < Q) (hQ : Q < 4294967296 ^ 8) (t : ByteArray) (ht : t.size ≤ 1000) (L : List (List UInt8)) (u : Value) (hL : L.length ≤ 90) (w : World) (hu : IsP w L u) :
  Calls Tryz.prog 35 #[.agg (zg k P Q g), .string t, u] w fun e w' => e = .returned (numV (texN Q (sBy t) L)) ∧ Below w.heap.size w w' := by
 obtain ⟨Au, cu, vs, rfl, hvl, hve, hvc⟩ := hu.vals
 have h1 := vals_one hvl hve
 have hAu : L.length = 0 → Au = none ∨ ∃ ad, Au = some ad := fun _ => by
  cases Au with
  | none => exact .inl rfl
  | some ad => exact .inr ⟨ad, rfl⟩
 obtain ⟨S, hS⟩ : ∃ S, macW [] (sBy t :: L) = S := ⟨_, rfl⟩
 have kM := fun (w : World) (u : Value) (h : IsP w (sBy t :: L) u) => of_b h
 rw [hS] at kM
 obtain ⟨N, hN⟩ : ∃ N, expN Q (sumY (outF S)) = N := ⟨_, rfl⟩
 rw [show texN Q (sBy t) L = N by unfold texN; rw [hS, hN]]
 have hbd := zzb S
 have kE := fun (w : World) (v : Value) (h : IsB w (sumY (outF S)) v) => gexp_any k P Q g h2 hQ (sumY (outF S)) v w h
 rw [hN] at kE
 clear hN hS
 refine zea (args := [.agg (zg k P Q g), .string t, .slice Au L.length cu]) 19 Tryz.func35 rfl rfl rfl ?_
 intro fa F
 have M := Mx.start w
 refine zT fun _ hK1 => zh (zc rfl) rfl F rfl M 0 (t := 29) (c := zg k P Q g) (by unfold execOp; simp only [(F.get (t := 0) rfl)]; kernel_rfl) ?_
 intro g2 a2 w2 F2 M2
 refine zh (zc rfl) rfl F2 rfl M2 1 (t := 27) (c := numA 0) (zu rfl) ?_
 intro g3 a3 w3 F3 M3
 refine hK1 _ _ (zT fun _ hK4 => rm rfl F3 fun _ F5 => zgb (zc rfl) rfl F5 rfl (run_cvS M3 2 _ rfl (F5.get (t := 9) rfl) (by omega)) ?_)
 intro v6 a6 w6 F6 M6
 have fr6 := M6.frN (k := 2) rfl
 replace M6 := M6.unN (k := 2) rfl
 obtain ⟨A6, c6, rfl⟩ := (M6.isb (k := 2) rfl).shape
 refine zhc (zc rfl) rfl F6 rfl M6 3 (t := 22) (c := #[.slice A6 ((sBy t)).length c6]) (k := 1) (m := 1) (y_litG 54 22 (s := 1) (zv := zN) Tryz.underlying54 (by kernel_rfl) (by kernel_rfl) rfl (#[.slice A6 ((sBy t)).length c6]) (by decide) (by decide) (by simp only [List.map_toArray, List.map_cons, List.map_nil, (F6.get (t := 10) rfl)]; kernel_rfl)) ?_
 intro g7 a7 w7 F7 M7
 refine rm rfl F7 fun _ F8 => zgb (zc rfl) rfl F8 rfl (run_appQ M7 (kb := 3) rfl rfl hvl h1 (vals_at hvc hvl hAu M7.below) (by omega) _ _ rfl (F8.get (t := 11) rfl) (F8.get (t := 12) rfl)) ?_
 intro v9 a9 w9 F9 M9
 obtain ⟨Ar9, cr9, rfl, -⟩ := row_slice (M9.rowF (k := 3) rfl)
 have hP9 : IsP w9 (sBy t :: L) (.slice Ar9 (1 + L.length) cr9) := isP_row (M9.rowF (k := 3) rfl) (by rw [List.length_cons]; omega) (fun j l hj => by
  match j, hj with
  | 0, hj =>
   obtain rfl : sBy t = l := Option.some.inj hj
   exact ⟨_, rfl, (M9.isb (k := 2) rfl)⟩
  | j + 1, hj =>
   obtain ⟨u, q1, q2⟩ := hve j l hj
   exact ⟨u, q1, q2.step M9.below⟩)
 refine rm rfl F9 fun _ F10 => hK4 _ _ (zT fun _ hK11 => rm rfl F10 fun _ F12 => zaa (zc rfl) rfl F12 rfl rfl (zE Tryz.func69 rfl) #[.slice Ar9 (1 + L.length) cr9] (zwa (F12.get (t := 14) rfl)) (zca ((kM w9 _ hP9))) ?_)
 rintro _ w13 a13 ⟨rfl, b13⟩ F13
 have M13 := M9.step b13
 refine zh (zc rfl) rfl F13 rfl M13 4 (t := 35) (c := zi (fun _ => 0)) (by unfold execOp; kernel_rfl) ?_
 intro g14 a14 w14 F14 M14
 refine zr (zc rfl) rfl F14 M14 (k := 4) rfl _ _ _ rfl (F14.get (t := 8) rfl) (F14.get (t := 15) rfl) (zi (outF S)) _ rfl (zL rfl) (zda _) (zo rfl) (by kernel_rfl) ?_
 intro w15 M15
 refine hK11 _ _ (zSk fun _ hK16 => z4a F14 [fun vE => vE = .agg (zg k P Q g), fun vE => vE = .slice (some ⟨g14, 0, none⟩) 16 16] (JM none w fun SV pV => [(0, blkR g2 29 (zg k P Q g)), (1, blkR g3 27 (numA 0)), (2, bytR (sBy t) (.slice A6 ((sBy t)).length c6)), (3, rowR 22 1 (1 + L.length) (.slice A6 ((sBy t)).length c6 :: vs) (.slice Ar9 (1 + L.length) cr9)), (4, blkR g14 35 (zi (outF S)))]) 2 rfl (by kernel_rfl) rfl ⟨trivial, trivial, trivial⟩ (fun p => (M15.step (zta _)).sub ⟨rfl, rfl, rfl, rfl, rfl, trivial⟩) ⟨?_, ?_, trivial⟩ ?_)
 ·intro ua uw SV pV (M : Mx none w uw _) hk hn hd
  have e3 : ua.eval (.tmp 3) = .pointer (some ⟨g2, 0, none⟩) := (show ua.eval (.tmp 3) = _ from hd 3 (by decide)).trans (F14.get (t := 3) rfl)
  exact zra (zc rfl) _ (zxa _ _ rfl e3 (M.blk (k := 0) rfl) (zg k P Q g) (z1a rfl) Tryz.underlying29 rfl (by kernel_rfl)) rfl (M.sub ⟨rfl, rfl, rfl, rfl, rfl, trivial⟩)
 ·intro ua uw SV pV (M : Mx none w uw _) hk hn hd
  have e8 : ua.eval (.tmp 8) = .pointer (some ⟨g14, 0, none⟩) := (show ua.eval (.tmp 8) = _ from hd 8 (by decide)).trans (F14.get (t := 8) rfl)
  exact zra (zc rfl) (.slice (some ⟨g14, 0, none⟩) 16 16) (zrc _ rfl e8) rfl (M.sub ⟨rfl, rfl, rfl, rfl, rfl, trivial⟩)
 intro p17 a17 w17 M17 G17 y17
 obtain ⟨q0, q1, -⟩ := y17
 have r0 : p17 0 = .agg (zg k P Q g) := q0
 have r1 : p17 1 = .slice (some ⟨g14, 0, none⟩) 16 16 := q1
 replace M17 : Mx _ _ w17 [(0, blkR g2 29 (zg k P Q g)), (1, blkR g3 27 (numA 0)), (2, bytR (sBy t) (.slice A6 ((sBy t)).length c6)), (3, rowR 22 1 (1 + L.length) (.slice A6 ((sBy t)).length c6 :: vs) (.slice Ar9 (1 + L.length) cr9)), (4, blkR g14 35 (zi (outF S)))] := M17
 simp only [List.take, layV, Nat.zero_add, Nat.reduceAdd, r0, r1] at G17
 refine zaa (zc rfl) rfl G17 rfl rfl (zE Tryz.func71 rfl) #[.agg (zg k P Q g), .slice (some ⟨g14, 0, none⟩) 16 16] (z3a (G17.get (t := 16) rfl) (G17.get (t := 17) rfl)) (zca ((kE w17 _ (isb_sum hbd (M17.blk (k := 4) rfl))))) ?_
 rintro _ w18 a18 ⟨rfl, b18⟩ F18
 have M18 := M17.step b18
 refine zr (zc rfl) rfl F18 M18 (k := 1) rfl _ _ _ rfl (F18.get (t := 6) rfl) (F18.get (t := 18) rfl) (numA N) _ rfl (zL rfl) (zy _) (zo rfl) zd ?_
 intro w19 M19
 refine hK16 _ _ (wp_ret ?_)
 try simp only [Exit.then, Exit.inBlock, Exit.jump]
 exact bodyPost_ret (results_cell_row rfl _ _ _ _ _ (0, 0) _ (F18.get rfl) (M19.blk (k := 1) rfl) Tryz.underlying27 rfl zd) F18.defers ⟨rfl, M19.below⟩
theorem cover_any (k : Int) (P Q g : Nat) (ho : P % 2 = 1) (h1 : 1 < P) (hP : P < 4294967296 ^ 8) (h2 : 2 < Q) (hQ : Q < 4294967296 ^ 8) (v : Nat) (hv : v < 4294967296 ^ 8) (w : World) :
  Calls Tryz.prog 39 #[.agg (zg k P Q g), numV v] w fun e w' => e = .returned (numV (kN Q * v % P)) ∧ Below w.heap.size w w' := by
 obtain ⟨K, hK⟩ : ∃ K, kN Q = K := ⟨_, rfl⟩
 have hKl : K < 4294967296 ^ 8 := by rw [← hK]; exact Nat.lt_trans (z8b h2 _).2 hQ
 have kE := fun w => texp_any k P Q g h2 hQ ({ data := #[107] } : ByteArray) (by decide) [] (zN) (by decide) w (isP_nil w)
 rw [show texN Q (sBy ({ data := #[107] } : ByteArray)) [] = K from hK] at kE
 have kT := fun w => gtimes_any k P Q g ho h1 hP K v hKl hv w
 rw [hK]
 obtain ⟨N, hN⟩ : ∃ N, K * v % P = N := ⟨_, rfl⟩
 rw [hN] at kT ⊢
 clear hN hK
 refine zea (args := [.agg (zg k P Q g), numV v]) 10 Tryz.func39 rfl rfl rfl ?_
 intro fa F
 have M := Mx.start w
 refine zT fun _ hK1 => zh (zc rfl) rfl F rfl M 0 (t := 29) (c := zg k P Q g) (by unfold execOp; simp only [(F.get (t := 0) rfl)]; kernel_rfl) ?_
 intro g2 a2 w2 F2 M2
 refine zh (zc rfl) rfl F2 rfl M2 1 (t := 27) (c := numA v) (by unfold execOp; simp only [(F2.get (t := 1) rfl)]; kernel_rfl) ?_
 intro g3 a3 w3 F3 M3
 refine zh (zc rfl) rfl F3 rfl M3 2 (t := 27) (c := numA 0) (zu rfl) ?_
 intro g4 a4 w4 F4 M4
 refine hK1 _ _ (zSk fun _ hK5 => ?_)
 have hD6 := (zp (M4.blk (k := 0) rfl) (zp (M4.blk (k := 1) rfl) dnil))
 refine zha F4 (SK [.inl (.agg (zg k P Q g)), .inl (.agg (zg k P Q g)), .inl (numV K), .inl (numV v), .inl (numV N)]) 5 rfl (by kernel_rfl) ⟨hopP F4 hD6 0 (some g2) (by kernel_rfl), hopP F4 hD6 0 (some g2) (by kernel_rfl), ?_, hopP F4 hD6 1 (some g3) (by kernel_rfl), hopC F4 [(5, .agg (zg k P Q g)), (7, numV K), (8, numV v)] rfl (zE Tryz.func40 rfl) fun uw hb => kT uw, trivial⟩ ?_
 ·intro ua uw hb hd
  have e6 : ua.eval (.tmp 6) = .agg (zg k P Q g) := hd 6 (by decide)
  exact zba (F := (StK.eq (numV K)).F) (zc rfl) hb.size rfl #[.agg (zg k P Q g), .string ({ data := #[107] }), zN] (args3 e6 rfl rfl) (zE Tryz.func35 rfl) (zqa (kE uw))
 intro p7 a7 w7 b7 G7 y7
 obtain ⟨-, -, -, -, q4, -⟩ := y7
 have r4 : p7 4 = numV N := q4 (by decide)
 simp only [List.take, layV, Nat.zero_add, Nat.reduceAdd, r4] at G7
 have M7 := M4.kc b7
 clear F4 M4 r4 q4
 refine zr (zc rfl) rfl G7 M7 (k := 2) rfl _ _ _ rfl (G7.get (t := 4) rfl) (G7.get (t := 9) rfl) (numA N) _ rfl (zL rfl) (zy _) (zo rfl) zd ?_
 intro w8 M8
 refine hK5 _ _ (wp_ret ?_)
 try simp only [Exit.then, Exit.inBlock, Exit.jump]
 exact bodyPost_ret (results_cell_row rfl _ _ _ _ _ (0, 0) _ (G7.get (t := 4) rfl) (M8.blk (k := 2) rfl) Tryz.underlying27 rfl zd) G7.defers ⟨rfl, M8.below⟩
theorem secret_any (k : Int) (P Q g : Nat) (h2 : 2 < Q) (hQ : Q < 4294967296 ^ 8) (t : ByteArray) (ht : t.size ≤ 1000) (lp ls : List UInt8) (vp vs : Value) (w : World) (hp : IsB w lp vp) (hs : IsB w ls vs) :
  Calls Tryz.prog 34 #[.agg (zg k P Q g), .string t, vp, vs] w fun e w' => e = .returned (numV (secN Q (sBy t) lp ls)) ∧ Below w.heap.size w w' := by
 obtain ⟨S, hS⟩ : ∃ S, macW [] [[120], sBy t, lp] = S := ⟨_, rfl⟩
 have kM := fun (w : World) (u : Value) (h : IsP w [[120], sBy t, lp] u) => of_b h
 rw [hS] at kM
 obtain ⟨Y, hY⟩ : ∃ Y, strA (sumY (outF S)) ls 2 = Y := ⟨_, rfl⟩
 have hyb : ∀ k, 0 ≤ Y k ∧ Y k < 256 := by rw [← hY]; exact strA_bd _ _ 2
 have kS := fun (w : World) (v u : Value) (h : IsB w (sumY (outF S)) v) (h2 : IsB w ls u) => stretch_b h h2
 rw [hY] at kS
 obtain ⟨N, hN⟩ : ∃ N, expN Q (sumY Y) = N := ⟨_, rfl⟩
 rw [show secN Q (sBy t) lp ls = N by unfold secN; rw [hS, hY, hN]]
 have hbd := zzb S
 have kE := fun (w : World) (v : Value) (h : IsB w (sumY Y) v) => gexp_any k P Q g h2 hQ (sumY Y) v w h
 rw [hN] at kE
 clear hN hS hY
 obtain ⟨Ap, cp, rfl⟩ := id hp.shape
 obtain ⟨As, cs, rfl⟩ := id hs.shape
 refine zea (args := [.agg (zg k P Q g), .string t, .slice Ap lp.length cp, .slice As ls.length cs]) 24 Tryz.func34 rfl rfl rfl ?_
 intro fa F
 have M := Mx.start w
 replace M := M.argB 0 hp (fun g e => by cases e)
 replace M := M.argB 1 hs (fun g e => by cases e)
 refine zT fun _ hK1 => zh (zc rfl) rfl F rfl M 2 (t := 29) (c := zg k P Q g) (by unfold execOp; simp only [(F.get (t := 0) rfl)]; kernel_rfl) ?_
 intro g2 a2 w2 F2 M2
 refine zh (zc rfl) rfl F2 rfl M2 3 (t := 27) (c := numA 0) (zu rfl) ?_
 intro g3 a3 w3 F3 M3
 refine hK1 _ _ (zT fun _ hK4 => zgb (zc rfl) rfl F3 rfl (run_litO M3 4 [120] 1 rfl (by decide) (by decide) rfl (by simp only [List.map_toArray, List.map_cons, List.map_nil]; kernel_rfl)) ?_)
 intro v5 a5 w5 F5 M5
 obtain ⟨A5, c5, rfl⟩ := (M5.isO (k := 4) rfl).shape
 refine zgb (zc rfl) rfl F5 rfl (run_cvL M5 (k := 4) rfl (by decide) _ rfl (F5.get (t := 11) rfl)) ?_
 intro v6 a6 w6 F6 M6
 obtain ⟨A6, c6, rfl⟩ := (M6.isb (k := 4) rfl).shape
 refine rm rfl F6 fun _ F7 => zgb (zc rfl) rfl F7 rfl (run_cvS M6 5 _ rfl (F7.get (t := 13) rfl) (by omega)) ?_
 intro v8 a8 w8 F8 M8
 have fr8 := M8.frN (k := 5) rfl
 replace M8 := M8.unN (k := 5) rfl
 obtain ⟨A8, c8, rfl⟩ := (M8.isb (k := 5) rfl).shape
 refine rm rfl F8 fun _ F9 => zhc (zc rfl) rfl F9 rfl M8 6 (t := 22) (c := #[.slice A6 ([120]).length c6, .slice A8 ((sBy t)).length c8, .slice Ap lp.length cp]) (k := 3) (m := 3) (y_litG 54 22 (s := 1) (zv := zN) Tryz.underlying54 (by kernel_rfl) (by kernel_rfl) rfl (#[.slice A6 ([120]).length c6, .slice A8 ((sBy t)).length c8, .slice Ap lp.length cp]) (by decide) (by decide) (by simp only [List.map_toArray, List.map_cons, List.map_nil, (F9.get (t := 12) rfl), (F9.get (t := 14) rfl), (F9.get (t := 15) rfl)]; kernel_rfl)) ?_
 intro g10 a10 w10 F10 M10
 refine zaa (zc rfl) rfl F10 rfl rfl (zE Tryz.func69 rfl) #[.slice (some ⟨g10, 0, none⟩) 3 3] (zwa (F10.get (t := 16) rfl)) (zca ((kM w10 _ (isP_blk (M10.blk (k := 6) rfl) rfl rfl (by decide) (fun j l hj => by
   match j, hj with
   | 0, hj => obtain rfl : [120] = l := Option.some.inj hj; exact ⟨_, rfl, (M10.isb (k := 4) rfl)⟩
   | 1, hj => obtain rfl : sBy t = l := Option.some.inj hj; exact ⟨_, rfl, (M10.isb (k := 5) rfl)⟩
   | 2, hj => obtain rfl : lp = l := Option.some.inj hj; exact ⟨_, rfl, (M10.isb (k := 0) rfl)⟩
   | n + 3, hj => cases hj))))) ?_
 rintro _ w11 a11 ⟨rfl, b11⟩ F11
 have M11 := M10.step b11
 refine zh (zc rfl) rfl F11 rfl M11 7 (t := 35) (c := zi (fun _ => 0)) (by unfold execOp; kernel_rfl) ?_
 intro g12 a12 w12 F12 M12
 refine zr (zc rfl) rfl F12 M12 (k := 7) rfl _ _ _ rfl (F12.get (t := 9) rfl) (F12.get (t := 17) rfl) (zi (outF S)) _ rfl (zL rfl) (zda _) (zo rfl) (by kernel_rfl) ?_
 intro w13 M13
 refine hK4 _ _ (zT fun _ hK14 => zj (w' := w13) (zc rfl) rfl F12 rfl (.slice (some ⟨g12, 0, none⟩) 16 16) (zrc _ rfl (F12.get (t := 9) rfl)) fun _ F15 => ?_)
 refine rm rfl F15 fun _ F16 => zaa (zc rfl) rfl F16 rfl rfl (zE Tryz.func70 rfl) #[.slice (some ⟨g12, 0, none⟩) 16 16, .slice As ls.length cs, .int .i64 3] (args3 (F16.get (t := 18) rfl) (F16.get (t := 19) rfl) rfl) (zca ((kS w13 _ _ (isb_sum hbd (M13.blk (k := 7) rfl)) (M13.isb (k := 1) rfl)))) ?_
 rintro _ w17 a17 ⟨rfl, b17⟩ F17
 have M17 := M13.step b17
 refine zh (zc rfl) rfl F17 rfl M17 8 (t := 35) (c := zi (fun _ => 0)) (by unfold execOp; kernel_rfl) ?_
 intro g18 a18 w18 F18 M18
 refine zr (zc rfl) rfl F18 M18 (k := 8) rfl _ _ _ rfl (F18.get (t := 10) rfl) (F18.get (t := 20) rfl) (zi Y) _ rfl (zL rfl) (zda _) (zo rfl) (by kernel_rfl) ?_
 intro w19 M19
 refine hK14 _ _ (zSk fun _ hK20 => ?_)
 refine z4a F18 [fun vE => vE = .agg (zg k P Q g), fun vE => vE = .slice (some ⟨g18, 0, none⟩) 16 16] (JM none w fun SV pV => [(0, bytR lp (.slice Ap lp.length cp)), (1, bytR ls (.slice As ls.length cs)), (2, blkR g2 29 (zg k P Q g)), (3, blkR g3 27 (numA 0)), (4, bytR [120] (.slice A6 ([120]).length c6)), (5, bytR (sBy t) (.slice A8 ((sBy t)).length c8)), (6, blkR g10 22 (#[.slice A6 ([120]).length c6, .slice A8 ((sBy t)).length c8, .slice Ap lp.length cp])), (7, blkR g12 35 (zi (outF S))), (8, blkR g18 35 (zi Y))]) 2 rfl (by kernel_rfl) rfl ⟨trivial, trivial, trivial⟩ (fun p => (M19.step (zta _)).sub ⟨rfl, rfl, rfl, rfl, rfl, rfl, rfl, rfl, rfl, trivial⟩) ⟨?_, ?_, trivial⟩ ?_
 ·intro ua uw SV pV (M : Mx none w uw _) hk hn hd
  have e4 : ua.eval (.tmp 4) = .pointer (some ⟨g2, 0, none⟩) := (show ua.eval (.tmp 4) = _ from hd 4 (by decide)).trans (F18.get (t := 4) rfl)
  exact zra (zc rfl) _ (zxa _ _ rfl e4 (M.blk (k := 2) rfl) (zg k P Q g) (z1a rfl) Tryz.underlying29 rfl (by kernel_rfl)) rfl (M.sub ⟨rfl, rfl, rfl, rfl, rfl, rfl, rfl, rfl, rfl, trivial⟩)
 ·intro ua uw SV pV (M : Mx none w uw _) hk hn hd
  have e10 : ua.eval (.tmp 10) = .pointer (some ⟨g18, 0, none⟩) := (show ua.eval (.tmp 10) = _ from hd 10 (by decide)).trans (F18.get (t := 10) rfl)
  exact zra (zc rfl) (.slice (some ⟨g18, 0, none⟩) 16 16) (zrc _ rfl e10) rfl (M.sub ⟨rfl, rfl, rfl, rfl, rfl, rfl, rfl, rfl, rfl, trivial⟩)
 intro p21 a21 w21 M21 G21 y21
 obtain ⟨q0, q1, -⟩ := y21
 have r0 : p21 0 = .agg (zg k P Q g) := q0
 have r1 : p21 1 = .slice (some ⟨g18, 0, none⟩) 16 16 := q1
 replace M21 : Mx _ _ w21 [(0, bytR lp (.slice Ap lp.length cp)), (1, bytR ls (.slice As ls.length cs)), (2, blkR g2 29 (zg k P Q g)), (3, blkR g3 27 (numA 0)), (4, bytR [120] (.slice A6 ([120]).length c6)), (5, bytR (sBy t) (.slice A8 ((sBy t)).length c8)), (6, blkR g10 22 (#[.slice A6 ([120]).length c6, .slice A8 ((sBy t)).length c8, .slice Ap lp.length cp])), (7, blkR g12 35 (zi (outF S))), (8, blkR g18 35 (zi Y))] := M21
 simp only [List.take, layV, Nat.zero_add, Nat.reduceAdd, r0, r1] at G21
 refine zaa (zc rfl) rfl G21 rfl rfl (zE Tryz.func71 rfl) #[.agg (zg k P Q g), .slice (some ⟨g18, 0, none⟩) 16 16] (z3a (G21.get (t := 21) rfl) (G21.get (t := 22) rfl)) (zca ((kE w21 _ (isb_sum hyb (M21.blk (k := 8) rfl))))) ?_
 rintro _ w22 a22 ⟨rfl, b22⟩ F22
 have M22 := M21.step b22
 refine zr (zc rfl) rfl F22 M22 (k := 3) rfl _ _ _ rfl (F22.get (t := 8) rfl) (F22.get (t := 23) rfl) (numA N) _ rfl (zL rfl) (zy _) (zo rfl) zd ?_
 intro w23 M23
 refine hK20 _ _ (wp_ret ?_)
 try simp only [Exit.then, Exit.inBlock, Exit.jump]
 exact bodyPost_ret (results_cell_row rfl _ _ _ _ _ (0, 0) _ (F22.get rfl) (M23.blk (k := 3) rfl) Tryz.underlying27 rfl zd) F22.defers ⟨rfl, M23.below⟩
theorem verifier_any (k : Int) (P Q g : Nat) (ho : P % 2 = 1) (h1 : 1 < P) (hP : P < 4294967296 ^ 8) (h2 : 2 < Q) (hQ : Q < 4294967296 ^ 8) (hg : g < 4294967296 ^ 8) (t : ByteArray) (ht : t.size ≤ 1000) (lp ls : List UInt8) (vp vs : Value) (w : World) (hp : IsB w lp vp) (hs : IsB w ls vs) :
  Calls Tryz.prog 12 #[.agg (zg k P Q g), .string t, vp, vs] w fun e w' => e = .returned (numV (g ^ secN Q (sBy t) lp ls % P)) ∧ Below w.heap.size w w' := by
 obtain ⟨X, hX⟩ : ∃ X, secN Q (sBy t) lp ls = X := ⟨_, rfl⟩
 have hXl : X < 4294967296 ^ 8 := by rw [← hX]; exact Nat.lt_trans (z8b h2 _).2 hQ
 have kX := fun (w : World) (vp vs : Value) (hp : IsB w lp vp) (hs : IsB w ls vs) => secret_any k P Q g h2 hQ t ht lp ls vp vs w hp hs
 rw [hX] at kX ⊢
 have kR := fun w => zoc k P Q g ho h1 hP g X hg hXl w
 obtain ⟨N, hN⟩ : ∃ N, g ^ X % P = N := ⟨_, rfl⟩
 rw [hN] at kR ⊢
 clear hN hX
 obtain ⟨Ap, cp, rfl⟩ := id hp.shape
 obtain ⟨As, cs, rfl⟩ := id hs.shape
 refine zea (args := [.agg (zg k P Q g), .string t, .slice Ap lp.length cp, .slice As ls.length cs]) 18 Tryz.func12 rfl rfl rfl ?_
 intro fa F
 have M := Mx.start w
 replace M := M.argB 0 hp (fun g e => by cases e)
 replace M := M.argB 1 hs (fun g e => by cases e)
 refine zT fun _ hK1 => zh (zc rfl) rfl F rfl M 2 (t := 29) (c := zg k P Q g) (by unfold execOp; simp only [(F.get (t := 0) rfl)]; kernel_rfl) ?_
 intro g2 a2 w2 F2 M2
 refine zh (zc rfl) rfl F2 rfl M2 3 (t := 27) (c := numA 0) (zu rfl) ?_
 intro g3 a3 w3 F3 M3
 refine hK1 _ _ (zSk fun _ hK4 => ?_)
 have hD5 := (zp (M3.blk (k := 2) rfl) dnil)
 refine zha F3 (SK [.inl (.agg (zg k P Q g)), .inl (.pointer (some ⟨g2, 17, none⟩)), .inl (numV g), .inl (.agg (zg k P Q g)), .inl (.string t), .inl (.slice Ap lp.length cp), .inl (.slice As ls.length cs), .inl (numV X), .inl (numV N)]) 9 rfl (by kernel_rfl) ⟨hopP F3 hD5 0 (some g2) (by kernel_rfl), hop0 F3 (by kernel_rfl), hopP F3 hD5 0 (some g2) (by kernel_rfl), hopP F3 hD5 0 (some g2) (by kernel_rfl), hop0 F3 (by kernel_rfl), hop0 F3 (by kernel_rfl), hop0 F3 (by kernel_rfl), hopC F3 [(12, .agg (zg k P Q g)), (13, .string t), (14, .slice Ap lp.length cp), (15, .slice As ls.length cs)] rfl (zE Tryz.func34 rfl) fun uw hb => (kX uw _ _ ((M3.step hb).isb (k := 0) rfl) ((M3.step hb).isb (k := 1) rfl)), hopC F3 [(9, .agg (zg k P Q g)), (11, numV g), (16, numV X)] rfl (zE Tryz.func33 rfl) fun uw hb => kR uw, trivial⟩ ?_
 intro p6 a6 w6 b6 G6 y6
 obtain ⟨-, -, -, -, -, -, -, -, q8, -⟩ := y6
 have r8 : p6 8 = numV N := q8 (by decide)
 simp only [List.take, layV, Nat.zero_add, Nat.reduceAdd, r8] at G6
 have M6 := M3.kc b6
 clear F3 M3 r8 q8
 refine zr (zc rfl) rfl G6 M6 (k := 3) rfl _ _ _ rfl (G6.get (t := 8) rfl) (G6.get (t := 17) rfl) (numA N) _ rfl (zL rfl) (zy _) (zo rfl) zd ?_
 intro w7 M7
 refine hK4 _ _ (wp_ret ?_)
 try simp only [Exit.then, Exit.inBlock, Exit.jump]
 exact bodyPost_ret (results_cell_row rfl _ _ _ _ _ (0, 0) _ (G6.get (t := 8) rfl) (M7.blk (k := 3) rfl) Tryz.underlying27 rfl zd) G6.defers ⟨rfl, M7.below⟩
theorem clone_none  (w : World) :
  Calls Tryz.prog 36 #[zN] w fun e w' => e = .returned (zN) ∧ Below w.heap.size w w' := by
 refine zea (args := [zN]) 8 Tryz.func36 rfl rfl rfl ?_
 intro fa F
 have M := Mx.start w
 refine zT fun _ hK1 => rm rfl F fun _ F2 => hK1 _ _ (zSk fun _ hK3 => zT fun _ hK4 => rm rfl F2 fun _ F5 => zj (w' := w) (zc rfl) rfl F5 rfl (.bool true) (y_nilB _ _ rfl (F5.get (t := 3) rfl) rfl) fun _ F6 => ?_)
 refine hK4 _ _ (wp_cond_true (F6.get (t := 4) rfl) (zT fun _ hK7 => rm rfl F6 fun _ F8 => hK7 _ _ (wp_ret ?_)))
 try simp only [Exit.then, Exit.inBlock, Exit.jump]
 exact bodyPost_ret (res1 rfl (F8.get rfl)) F8.defers ⟨rfl, M.below⟩
theorem clone_some (l : List UInt8) (p : Addr) (c : Nat) (hm : l.length ≤ 100000) (w : World) (hv : IsB w l (.slice (some p) l.length c)) :
  Calls Tryz.prog 36 #[.slice (some p) l.length c] w fun e w' => ∃ v, e = .returned v ∧ Byt w' w.heap.size v l ∧ Below w.heap.size w w' := by
 refine zea (args := [.slice (some p) l.length c]) 8 Tryz.func36 rfl rfl rfl ?_
 intro fa F
 have M := Mx.start w
 replace M := M.argB 0 hv (fun g e => by cases e)
 refine zT fun _ hK1 => rm rfl F fun _ F2 => hK1 _ _ (zSk fun _ hK3 => zT fun _ hK4 => rm rfl F2 fun _ F5 => zj (w' := w) (zc rfl) rfl F5 rfl (.bool false) (y_nilB _ _ rfl (F5.get (t := 3) rfl) rfl) fun _ F6 => ?_)
 refine hK4 _ _ (wp_cond_false (F6.get (t := 4) rfl) (wp_skip (hK3 _ _ (zT fun _ hK7 => zgb (zc rfl) rfl F6 rfl (run_lit0 M 1 rfl) ?_))))
 intro v8 a8 w8 F8 M8
 obtain ⟨A8, c8, rfl⟩ := (M8.isO (k := 1) rfl).shape
 refine rm rfl F8 fun _ F9 => zgb (zc rfl) rfl F9 rfl (run_app M8 (k := 1) rfl _ _ rfl (F9.get (t := 5) rfl) (F9.get (t := 6) rfl) (M8.isb (k := 0) rfl) (by simp only [List.length_nil]; omega)) ?_
 intro v10 a10 w10 F10 M10
 obtain ⟨A10, c10, rfl⟩ := (M10.isO (k := 1) rfl).shape
 refine rm rfl F10 fun _ F11 => hK7 _ _ (wp_ret ?_)
 try simp only [Exit.then, Exit.inBlock, Exit.jump]
 exact bodyPost_ret (res1 rfl (F11.get rfl)) F11.defers ⟨_, rfl, (by have h := M10.byt (k := 1) rfl; rwa [List.nil_append] at h), M10.below⟩
theorem clone_any (l : List UInt8) (v : Value) (hm : l.length ≤ 100000) (w : World) (hv : IsB w l v) : Calls Tryz.prog 36 #[v] w fun e w' => ∃ u, e = .returned u ∧ Byt w' w.heap.size u l ∧ Below w.heap.size w w' := by
 obtain ⟨A, c, rfl, h1, h2, h3, h4⟩ := id hv
 cases A with
 | none =>
  have hc := h3 rfl
  subst hc
  have hl : l = [] := List.eq_nil_of_length_eq_zero (by omega)
  subst hl
  exact (clone_none w).mono fun e w' h => ⟨_, h.1, Byt.nil _ _, h.2⟩
 | some p => exact clone_some l p c hm w hv
end Go.Proofs.YtcfepoopkfhojaaGreat
namespace Go.Proofs.YtcfepoopkfhojaaGreat
open Go.ChangeShapes Go.WideShapes Go.ChangeAt Go.RowKit Go.Shelf
structure SideN where
 k : Int
 P : Nat
 Q : Nat
 g : Nat
 s : ByteArray
 lp : List UInt8
 A : Nat
 B : Nat
 O : Nat
 ls : List UInt8
 V : Nat
 Ky : Nat → Int
 Pr : Nat → Int
structure SideV where
 vp : Value
 vs : Value
def zk (x : SideN) (y : SideV) : Array Value := #[.int .i64 x.k, numF x.P 0, numF x.P 1, numF x.P 2, numF x.P 3, numF x.P 4, numF x.P 5, numF x.P 6, numF x.P 7, numF x.Q 0, numF x.Q 1, numF x.Q 2, numF x.Q 3, numF x.Q 4, numF x.Q 5, numF x.Q 6, numF x.Q 7, numF x.g 0, numF x.g 1, numF x.g 2, numF x.g 3, numF x.g 4, numF x.g 5, numF x.g 6, numF x.g 7, .string x.s, y.vp, numF x.A 0, numF x.A 1, numF x.A 2, numF x.A 3, numF x.A 4, numF x.A 5, numF x.A 6, numF x.A 7, numF x.B 0, numF x.B 1, numF x.B 2, numF x.B 3, numF x.B 4, numF x.B 5, numF x.B 6, numF x.B 7, numF x.O 0, numF x.O 1, numF x.O 2, numF x.O 3, numF x.O 4, numF x.O 5, numF x.O 6, numF x.O 7, y.vs, numF x.V 0, numF x.V 1, numF x.V 2, numF x.V 3, numF x.V 4, numF x.V 5, numF x.V 6, numF x.V 7, .int .u8 (x.Ky 0), .int .u8 (x.Ky 1), .int .u8 (x.Ky 2), .int .u8 (x.Ky 3), .int .u8 (x.Ky 4), .int .u8 (x.Ky 5), .int .u8 (x.Ky 6), .int .u8 (x.Ky 7), .int .u8 (x.Ky 8), .int .u8 (x.Ky 9), .int .u8 (x.Ky 10), .int .u8 (x.Ky 11), .int .u8 (x.Ky 12), .int .u8 (x.Ky 13), .int .u8 (x.Ky 14), .int .u8 (x.Ky 15), .int .u8 (x.Pr 0), .int .u8 (x.Pr 1), .int .u8 (x.Pr 2), .int .u8 (x.Pr 3), .int .u8 (x.Pr 4), .int .u8 (x.Pr 5), .int .u8 (x.Pr 6), .int .u8 (x.Pr 7), .int .u8 (x.Pr 8), .int .u8 (x.Pr 9), .int .u8 (x.Pr 10), .int .u8 (x.Pr 11), .int .u8 (x.Pr 12), .int .u8 (x.Pr 13), .int .u8 (x.Pr 14), .int .u8 (x.Pr 15)]
structure SideIs (w : World) (x : SideN) (y : SideV) : Prop where
 hp : IsB w x.lp y.vp
 hs : IsB w x.ls y.vs
theorem SideIs.step {w w' : World} {x : SideN} {y : SideV} (h : SideIs w x y) (hb : Below w.heap.size w w') : SideIs w' x y := ⟨h.hp.step hb, h.hs.step hb⟩
structure SideOk (x : SideN) : Prop where
 ky : ∀ k, 0 ≤ x.Ky k ∧ x.Ky k < 256
 pr : ∀ k, 0 ≤ x.Pr k ∧ x.Pr k < 256
section
theorem zpa {w : World} {x : SideN} {y : SideV} (h : SideIs w x y) : (zk x y).all (·.oneCell') = true := by
 obtain ⟨vp, vs⟩ := y
 obtain ⟨A2, c2, rfl⟩ := h.hp.shape
 obtain ⟨A5, c5, rfl⟩ := h.hs.shape
 simp [zk, numF, Value.oneCell']
theorem arr_part7 {A B : Array Value} {o n : Nat} (h : (A.toList.drop o).take n = B.toList) : ∀ (i : Nat) (v : Value), B[i]? = some v → A[o + i]? = some v := fun i v hv => by
 rw [← Array.getElem?_toList, ← h, List.getElem?_take] at hv
 split at hv
 ·rw [List.getElem?_drop] at hv
  rw [← Array.getElem?_toList]; exact hv
 ·cases hv
theorem side_Ky (x : SideN) (y : SideV) : ∀ (i : Nat) (v : Value), (zi x.Ky)[i]? = some v → (zk x y)[60 + i]? = some v := arr_part7 (n := 16) (by show _ = _; kernel_rfl)
end
theorem bytes_r (a : Nat) (w : World) : Calls Tryz.prog 74 #[numV a] w fun e w' => ∃ v, e = .returned v ∧ Below w.heap.size w w' ∧ IsB w' (zq a) v :=
 (bytes_any a w).mono fun e w' ⟨g, h1, h2, h3, h4⟩ => ⟨_, h1, h4, some ⟨g, 0, none⟩, 32, by rw [zya], by rw [zya]; exact Nat.le_refl _, by unfold maxLen; decide, fun e => (by cases e), h3.rd⟩
def prR (p : Prop) : Res := ⟨false, fun _ => False, fun _ => p⟩
theorem Mx.prP {G : Option Nat} {w0 w : World} {R : List (Nat × Res)} (M : Mx G w0 w R) (i : Nat) {p : Prop} (h : p) : Mx G w0 w ((i, prR p) :: R) := M.cons i _ h (fun _ _ _ h => h) (fun _ h => h.elim) (fun e => by cases e) fun _ _ _ _ _ _ h => h.elim
theorem res2c {P : Program} {fn : Func} {p q : Tmp} {ty tz : TypeId} (h : fn.results = #[.cell p ty, .cell q tz]) {a : Act} {w : World} {g g2 : Nat} {t t2 : TypeId} {c c2 : Array Value} {d d2 : TypeDesc}
  (hp : a.eval (.tmp p) = .pointer (some ⟨g, 0, none⟩)) (hg : w.heap[g]? = some (.cells c t (0, 0))) (hq : a.eval (.tmp q) = .pointer (some ⟨g2, 0, none⟩)) (hg2 : w.heap[g2]? = some (.cells c2 t2 (0, 0))) (hu : P.underlying ty = some d) (hd : yPlain d = false) (hi : (P.info? ty).map (·.size) = some c.size) (hu2 : P.underlying tz = some d2) (hd2 : yPlain d2 = false) (hi2 : (P.info? tz).map (·.size) = some c2.size) : (results fn a.tmps).run P w = .ok (.tuple #[.agg c, .agg c2]) w := by
 have hp' : a.tmps[p]?.getD undef = .pointer (some ⟨g, 0, none⟩) := by simpa [Act.eval] using hp
 have hq' : a.tmps[q]?.getD undef = .pointer (some ⟨g2, 0, none⟩) := by simpa [Act.eval] using hq
 have l1 : (loadVar ty ⟨g, 0, none⟩).run P w = .ok (.agg c) w := by
  cases d with
  | struct fs => exact run_loadVar_row w g t ty c (0, 0) _ hg hu rfl hi
  | array n e => exact run_loadVar_row w g t ty c (0, 0) _ hg hu rfl hi
  | _ => cases hd
 have l2 : (loadVar tz ⟨g2, 0, none⟩).run P w = .ok (.agg c2) w := by
  cases d2 with
  | struct fs => exact run_loadVar_row w g2 t2 tz c2 (0, 0) _ hg2 hu2 rfl hi2
  | array n e => exact run_loadVar_row w g2 t2 tz c2 (0, 0) _ hg2 hu2 rfl hi2
  | _ => cases hd2
 simp [results, h, hp', hq', asAddr, l1, l2]
theorem clone_r (l : List UInt8) (v : Value) (hm : l.length ≤ 100000) (w : World) (hv : IsB w l v) : Calls Tryz.prog 36 #[v] w fun e w' => ∃ u, e = .returned u ∧ Byt w' w.heap.size u l ∧ Below w.heap.size w w' := clone_any l v hm w hv
theorem condR_off {R : List (Nat × Res)} {i : Nat} {b : Bool} {r r2 : Res} (hb : b = false) (h : look R i = some (z7b b r)) : look R i = some (z7b b r2) := by subst hb; exact h
theorem side_off {R : List (Nat × Res)} {i g : Nat} {T : TypeId} {b : Bool} {X X2 X0 : SideN} {Y Y2 Y0 : SideV} (hb : b = false) (h : look R i = some (blkR g T (zk (cond b X X0) (cond b Y Y0)))) : look R i = some (blkR g T (zk (cond b X2 X0) (cond b Y2 Y0))) := by subst hb; exact h
def ansY (K P : Nat → Int) : Nat → Int := outF (macW (sumY K) [[50], sumY P])
abbrev zSA : Array Value := zk ⟨0, 0, 0, 0, "".toUTF8, [], 0, 0, 0, [], 0, (fun _ => 0), (fun _ => 0)⟩ ⟨zN, zN⟩
abbrev zPS (x : SideN) (l : List UInt8) (b : Nat) : SideN := ⟨x.k, x.P, x.Q, x.g, x.s, x.lp, x.A, b, x.O, l, x.V, x.Ky, x.Pr⟩
end Go.Proofs.YtcfepoopkfhojaaGreat
namespace Go.Proofs.YtcfepoopkfhojaaGreat
open Go.ChangeShapes Go.WideShapes Go.ChangeAt Go.RowKit
theorem answer_any (K P : Nat → Int) (hK : ∀ k, 0 ≤ K k ∧ K k < 256) (hP : ∀ k, 0 ≤ P k ∧ P k < 256) (w : World) :
  Calls Tryz.prog 90 #[.agg (zi K), .agg (zi P)] w fun e w' => e = .returned (.agg (zi (ansY K P))) ∧ Below w.heap.size w w' := by
 obtain ⟨S, hS⟩ : ∃ S, macW (sumY K) [[50], sumY P] = S := ⟨_, rfl⟩
 have kM := fun (w : World) (v u : Value) (h : IsB w (sumY K) v) (h2 : IsP w [[50], sumY P] u) => mac_b h h2
 rw [hS] at kM
 rw [show ansY K P = outF S by unfold ansY; rw [hS]]
 clear hS
 refine zea (args := [.agg (zi K), .agg (zi P)]) 11 Tryz.func90 rfl rfl rfl ?_
 intro fa F
 have M := Mx.start w
 refine zT fun _ hK1 => zh (zc rfl) rfl F rfl M 0 (t := 35) (c := zi K) (by unfold execOp; simp only [(F.get (t := 0) rfl)]; kernel_rfl) ?_
 intro g2 a2 w2 F2 M2
 refine zh (zc rfl) rfl F2 rfl M2 1 (t := 35) (c := zi P) (by unfold execOp; simp only [(F2.get (t := 1) rfl)]; kernel_rfl) ?_
 intro g3 a3 w3 F3 M3
 refine zh (zc rfl) rfl F3 rfl M3 2 (t := 35) (c := zi (fun _ => 0)) (by unfold execOp; kernel_rfl) ?_
 intro g4 a4 w4 F4 M4
 refine hK1 _ _ (zSk fun _ hK5 => zha F4 (SK [.inl (.slice (some ⟨g2, 0, none⟩) 16 16), .inr (StK.lit w4.heap.size [50]), .inr (StK.lit w4.heap.size [50]), .inl (.slice (some ⟨g3, 0, none⟩) 16 16), .inr (StK.parts [[50], (sumY P)]), .inl (.agg (zi (outF S)))]) 6 rfl (by kernel_rfl) ⟨hopR F4 [(2, .pointer (some ⟨g2, 0, none⟩))] fun ua uw hb ⟨e2, _⟩ => (zrc _ rfl e2), ?_, ?_, hopR F4 [(3, .pointer (some ⟨g3, 0, none⟩))] fun ua uw hb ⟨e3, _⟩ => (zrc _ rfl e3), ?_, ?_, trivial⟩ ?_)
 ·intro ua uw hb hd
  exact hop_lit (zc rfl) hb.size [50] (by decide) (by decide) _ rfl (by simp only [List.map_toArray, List.map_cons, List.map_nil]; kernel_rfl)
 ·intro ua uw hb hd
  have l6 : LitB w4.heap.size uw [50] (ua.eval (.tmp 6)) := hd 6 (by decide)
  have e6 := l6.isB
  exact zmc (zc rfl) _ rfl l6
 ·intro ua uw hb hd
  have l7 : LitB w4.heap.size uw [50] (ua.eval (.tmp 7)) := hd 7 (by decide)
  have e7 := l7.isB
  have e8 : ua.eval (.tmp 8) = .slice (some ⟨g3, 0, none⟩) 16 16 := hd 8 (by decide)
  exact hop_parts2 (zc rfl) hb.size (.tmp 7) (.tmp 8) rfl e7 (by rw [e8]; exact (isb_sum hP ((M4.step hb).blk (k := 1) rfl)))
 ·intro ua uw hb hd
  have e5 : ua.eval (.tmp 5) = .slice (some ⟨g2, 0, none⟩) 16 16 := hd 5 (by decide)
  have e9 : IsP uw [[50], (sumY P)] (ua.eval (.tmp 9)) := hd 9 (by decide)
  exact zba (F := (StK.eq (.agg (zi (outF S)))).F) (zc rfl) hb.size rfl #[.slice (some ⟨g2, 0, none⟩) 16 16, (ua.eval (.tmp 9))] (z3a e5 rfl) (zE Tryz.func76 rfl) (zqa ((kM _ _ _ (isb_sum hK ((M4.step hb).blk (k := 0) rfl)) e9)))
 intro p7 a7 w7 b7 G7 y7
 obtain ⟨-, -, -, -, -, q5, -⟩ := y7
 have r5 : p7 5 = .agg (zi (outF S)) := q5 (by decide)
 simp only [List.take, layV, Nat.zero_add, Nat.reduceAdd, r5] at G7
 have M7 := M4.kc b7
 clear F4 M4 r5 q5
 refine zr (zc rfl) rfl G7 M7 (k := 2) rfl _ _ _ rfl (G7.get (t := 4) rfl) (G7.get (t := 10) rfl) (zi (outF S)) _ rfl (zL rfl) (zda _) (zo rfl) (by kernel_rfl) ?_
 intro w8 M8
 refine hK5 _ _ (wp_ret ?_)
 try simp only [Exit.then, Exit.inBlock, Exit.jump]
 exact bodyPost_ret (results_cell_row rfl _ _ _ _ _ (0, 0) _ (G7.get (t := 4) rfl) (M8.blk (k := 2) rfl) Tryz.underlying35 rfl (by kernel_rfl)) G7.defers ⟨rfl, M8.below⟩
theorem sfirst_any (x : SideN) (y : SideV) (w : World) (hx : SideIs w x y) :
  Calls Tryz.prog 52 #[.agg (zk x y)] w fun e w' => e = .returned (.agg (zi x.Pr)) ∧ Below w.heap.size w w' := by
 obtain ⟨Ap, cp, e1⟩ := id hx.hp.shape
 obtain ⟨As, cs, e2⟩ := id hx.hs.shape
 refine zea (args := [.agg (zk x y)]) 5 Tryz.func52 rfl rfl rfl ?_
 intro fa F
 have M := Mx.start w
 replace M := M.argB 0 hx.hp (fun g e => by cases e)
 replace M := M.argB 1 hx.hs (fun g e => by cases e)
 refine zT fun _ hK1 => zh (zc rfl) rfl F rfl M 2 (t := 37) (c := zk x y) (by unfold execOp; simp only [(F.get (t := 0) rfl)]; kernel_rfl) ?_
 intro g2 a2 w2 F2 M2
 refine zh (zc rfl) rfl F2 rfl M2 3 (t := 35) (c := zi (fun _ => 0)) (by unfold execOp; kernel_rfl) ?_
 intro g3 a3 w3 F3 M3
 refine hK1 _ _ (zT fun _ hK4 => zB 2 [(2, .pointer (some ⟨g3, 0, none⟩)), (4, .agg (zi x.Pr))] [0] (zp (M3.blk (k := 2) rfl) dnil) [g2] F3 fun _ F5 => ?_)
 refine zr (zc rfl) rfl F5 M3 (k := 3) rfl _ _ _ rfl (F5.get (t := 2) rfl) (F5.get (t := 4) rfl) (zi x.Pr) _ rfl (zL rfl) (zda _) (zo rfl) (by kernel_rfl) ?_
 intro w6 M6
 refine hK4 _ _ (wp_ret ?_)
 try simp only [Exit.then, Exit.inBlock, Exit.jump]
 exact bodyPost_ret (results_cell_row rfl _ _ _ _ _ (0, 0) _ (F5.get rfl) (M6.blk (k := 3) rfl) Tryz.underlying35 rfl (by kernel_rfl)) F5.defers ⟨rfl, M6.below⟩
theorem second_any (x : SideN) (y : SideV) (ho : SideOk x) (w : World) (hx : SideIs w x y) :
  Calls Tryz.prog 53 #[.agg (zk x y)] w fun e w' => e = .returned (.agg (zi (ansY x.Ky x.Pr))) ∧ Below w.heap.size w w' := by
 refine zea (args := [.agg (zk x y)]) 8 Tryz.func53 rfl rfl rfl ?_
 intro fa F
 have M := Mx.start w
 replace M := M.argB 0 hx.hp (fun g e => by cases e)
 replace M := M.argB 1 hx.hs (fun g e => by cases e)
 refine zT fun _ hK1 => zh (zc rfl) rfl F rfl M 2 (t := 37) (c := zk x y) (by unfold execOp; simp only [(F.get (t := 0) rfl)]; kernel_rfl) ?_
 intro g2 a2 w2 F2 M2
 refine zh (zc rfl) rfl F2 rfl M2 3 (t := 35) (c := zi (fun _ => 0)) (by unfold execOp; kernel_rfl) ?_
 intro g3 a3 w3 F3 M3
 refine hK1 _ _ (zT fun _ hK4 => zB 4 [(2, .pointer (some ⟨g3, 0, none⟩)), (4, .agg (zi x.Ky)), (6, .agg (zi x.Pr))] [0, 0] (zp (M3.blk (k := 2) rfl) dnil) [g2, g2] F3 fun _ F5 => ?_)
 refine zaa (zc rfl) rfl F5 rfl rfl (zE Tryz.func90 rfl) #[.agg (zi x.Ky), .agg (zi x.Pr)] (z3a (F5.get (t := 4) rfl) (F5.get (t := 6) rfl)) (zca ((answer_any x.Ky x.Pr ho.ky ho.pr w3))) ?_
 rintro _ w6 a6 ⟨rfl, b6⟩ F6
 have M6 := M3.step b6
 refine zr (zc rfl) rfl F6 M6 (k := 3) rfl _ _ _ rfl (F6.get (t := 2) rfl) (F6.get (t := 7) rfl) (zi (ansY x.Ky x.Pr)) _ rfl (zL rfl) (zda _) (zo rfl) (by kernel_rfl) ?_
 intro w7 M7
 refine hK4 _ _ (wp_ret ?_)
 try simp only [Exit.then, Exit.inBlock, Exit.jump]
 exact bodyPost_ret (results_cell_row rfl _ _ _ _ _ (0, 0) _ (F6.get rfl) (M7.blk (k := 3) rfl) Tryz.underlying35 rfl (by kernel_rfl)) F6.defers ⟨rfl, M7.below⟩
end Go.Proofs.YtcfepoopkfhojaaGreat
namespace Go.Proofs.YtcfepoopkfhojaaGreat
open Go.ChangeShapes Go.WideShapes Go.ChangeAt Go.RowKit Go.Shelf
def lxI (l : List UInt8) : Nat → Int := fun j => (((l.getD j 0).toNat : Nat) : Int)
theorem isB_rdB {w : World} {l : List UInt8} {v : Value} (h : IsB w l v) : ∃ A c, v = .slice A l.length c ∧ RdB w A l.length (lxI l) := by
 obtain ⟨A, c, rfl, h1, h2, h3, h4⟩ := h
 refine ⟨A, c, rfl, by omega, fun k => ⟨by unfold lxI; omega, by have := UInt8.toNat_lt (l.getD k 0); unfold lxI; omega⟩, fun hp => ?_⟩
 obtain ⟨b, o, e, hb, hc⟩ := h4.at hp
 refine ⟨b, o, e, hb, fun k hk => ?_⟩
 have := hc k _ (List.getElem?_eq_getElem hk)
 rw [this]
 unfold lxI
 rw [List.getD_eq_getElem?_getD, List.getElem?_eq_getElem hk]; rfl
theorem agree_list {l m : List UInt8} (h : l.length = m.length) : AgreeTo (lxI l) (lxI m) l.length ↔ l = m := by
 constructor
 ·intro ha
  apply List.ext_getElem h
  intro j h1 h2
  have := ha j h1
  unfold lxI at this
  rw [List.getD_eq_getElem?_getD, List.getD_eq_getElem?_getD, List.getElem?_eq_getElem h1, List.getElem?_eq_getElem h2] at this
  have h3 : ((l[j].toNat : Nat) : Int) = ((m[j].toNat : Nat) : Int) := this
  exact UInt8.toNat_inj.1 (by omega)
 ·rintro rfl j _; rfl
theorem same_b {w : World} {l m : List UInt8} {v u : Value} (hv : IsB w l v) (hu : IsB w m u) (q : Bool) (hq : decide (l = m) = q) : Calls Tryz.prog 89 #[v, u] w fun e w' => e = .returned (.bool q) ∧ Below w.heap.size w w' := by
 obtain ⟨A, c, rfl, h1⟩ := isB_rdB hv
 obtain ⟨B, d, rfl, h2⟩ := isB_rdB hu
 by_cases e : l.length = m.length
 ·rw [← e] at h2 ⊢
  have h := same_any A B l.length c d (lxI l) (lxI m) w h1 h2
  have hs : sameB (lxI l) (lxI m) l.length = q := by
   rw [← hq]
   unfold sameB
   by_cases e2 : l = m
   ·rw [decide_eq_true e2]; exact @decide_eq_true _ (Classical.propDecidable _) ((agree_list e).2 e2)
   ·rw [decide_eq_false e2]; exact @decide_eq_false _ (Classical.propDecidable _) fun h => e2 ((agree_list e).1 h)
  rwa [hs] at h
 ·have h := same_len A B l.length m.length c d (lxI l) (lxI m) w h1 h2 e
  rw [decide_eq_false (fun h => e (by rw [h]))] at hq
  subst hq
  exact h
end Go.Proofs.YtcfepoopkfhojaaGreat
namespace Go.Proofs.YtcfepoopkfhojaaGreat
open Go.ChangeShapes Go.WideShapes Go.ChangeAt Go.RowKit
theorem holds_first (x : SideN) (y : SideV) (ho : SideOk x) (l : List UInt8) (v : Value) (w : World) (hx : SideIs w x y) (hb : IsB w l v) :
  Calls Tryz.prog 51 #[.agg (zk x y), v, .func (.func 52) #[] #[]] w fun e w' => e = .returned (.bool (decide (sumY x.Pr = l))) ∧ Below w.heap.size w w' := by
 obtain ⟨Y, hY⟩ : ∃ Y, x.Pr = Y := ⟨_, rfl⟩
 have hyb : ∀ k, 0 ≤ Y k ∧ Y k < 256 := by rw [← hY]; exact ho.pr
 have kT := fun (w : World) (h : SideIs w x y) => sfirst_any x y w h
 rw [hY] at kT ⊢
 clear hY
 obtain ⟨q, hq⟩ : ∃ q, decide (sumY Y = l) = q := ⟨_, rfl⟩
 rw [hq]
 obtain ⟨Ab, cb, rfl⟩ := id hb.shape
 refine zea (args := [.agg (zk x y), .slice Ab l.length cb, .func (.func 52) #[] #[]]) 14 Tryz.func51 rfl rfl rfl ?_
 intro fa F
 have M := Mx.start w
 replace M := M.argB 0 hx.hp (fun g e => by cases e)
 replace M := M.argB 1 hx.hs (fun g e => by cases e)
 replace M := M.argB 2 hb (fun g e => by cases e)
 refine zT fun _ hK1 => zh (zc rfl) rfl F rfl M 3 (t := 37) (c := zk x y) (by unfold execOp; simp only [(F.get (t := 0) rfl)]; kernel_rfl) ?_
 intro g2 a2 w2 F2 M2
 refine rm rfl F2 fun _ F3 => hK1 _ _ (zT fun _ hK4 => rm rfl F3 fun _ F5 => zj (w' := w2) (zc rfl) rfl F5 rfl _ (zxa _ _ rfl (F5.get (t := 3) rfl) (M2.blk (k := 3) rfl) (zk x y) (z1a rfl) Tryz.underlying37 rfl (by kernel_rfl)) fun _ F6 => ?_)
 refine wl_callV (zc rfl) rfl F6 rfl rfl (F6.get (t := 8) rfl) (zE Tryz.func52 rfl) #[.agg (zk x y)] (show _ ++ _ = _ from by rw [(zwa (F6.get (t := 9) rfl))]; rfl) (zca ((kT w2 ⟨(M2.isb (k := 0) rfl), (M2.isb (k := 1) rfl)⟩))) ?_
 rintro _ w7 a7 ⟨rfl, b7⟩ F7
 have M7 := M2.step b7
 refine zh (zc rfl) rfl F7 rfl M7 4 (t := 35) (c := zi (fun _ => 0)) (by unfold execOp; kernel_rfl) ?_
 intro g8 a8 w8 F8 M8
 refine zr (zc rfl) rfl F8 M8 (k := 4) rfl _ _ _ rfl (F8.get (t := 7) rfl) (F8.get (t := 10) rfl) (zi Y) _ rfl (zL rfl) (zda _) (zo rfl) (by kernel_rfl) ?_
 intro w9 M9
 refine hK4 _ _ (zT fun _ hK10 => zj (w' := w9) (zc rfl) rfl F8 rfl (.slice (some ⟨g8, 0, none⟩) 16 16) (zrc _ rfl (F8.get (t := 7) rfl)) fun _ F11 => ?_)
 refine rm rfl F11 fun _ F12 => zaa (zc rfl) rfl F12 rfl rfl (zE Tryz.func89 rfl) #[.slice (some ⟨g8, 0, none⟩) 16 16, .slice Ab l.length cb] (z3a (F12.get (t := 11) rfl) (F12.get (t := 12) rfl)) (zca ((same_b (isb_sum hyb (M9.blk (k := 4) rfl)) (M9.isb (k := 2) rfl) q hq))) ?_
 rintro _ w13 a13 ⟨rfl, b13⟩ F13
 have M13 := M9.step b13
 refine rm rfl F13 fun _ F14 => hK10 _ _ (wp_ret ?_)
 try simp only [Exit.then, Exit.inBlock, Exit.jump]
 exact bodyPost_ret (res1 rfl (F14.get rfl)) F14.defers ⟨rfl, M13.below⟩
theorem holds_second (x : SideN) (y : SideV) (ho : SideOk x) (l : List UInt8) (v : Value) (w : World) (hx : SideIs w x y) (hb : IsB w l v) :
  Calls Tryz.prog 51 #[.agg (zk x y), v, .func (.func 53) #[] #[]] w fun e w' => e = .returned (.bool (decide (sumY (ansY x.Ky x.Pr) = l))) ∧ Below w.heap.size w w' := by
 obtain ⟨Y, hY⟩ : ∃ Y, (ansY x.Ky x.Pr) = Y := ⟨_, rfl⟩
 have hyb : ∀ k, 0 ≤ Y k ∧ Y k < 256 := by rw [← hY]; exact zzb _
 have kT := fun (w : World) (h : SideIs w x y) => second_any x y ho w h
 rw [hY] at kT ⊢
 clear hY
 obtain ⟨q, hq⟩ : ∃ q, decide (sumY Y = l) = q := ⟨_, rfl⟩
 rw [hq]
 obtain ⟨Ab, cb, rfl⟩ := id hb.shape
 refine zea (args := [.agg (zk x y), .slice Ab l.length cb, .func (.func 53) #[] #[]]) 14 Tryz.func51 rfl rfl rfl ?_
 intro fa F
 have M := Mx.start w
 replace M := M.argB 0 hx.hp (fun g e => by cases e)
 replace M := M.argB 1 hx.hs (fun g e => by cases e)
 replace M := M.argB 2 hb (fun g e => by cases e)
 refine zT fun _ hK1 => zh (zc rfl) rfl F rfl M 3 (t := 37) (c := zk x y) (by unfold execOp; simp only [(F.get (t := 0) rfl)]; kernel_rfl) ?_
 intro g2 a2 w2 F2 M2
 refine rm rfl F2 fun _ F3 => hK1 _ _ (zT fun _ hK4 => rm rfl F3 fun _ F5 => zj (w' := w2) (zc rfl) rfl F5 rfl _ (zxa _ _ rfl (F5.get (t := 3) rfl) (M2.blk (k := 3) rfl) (zk x y) (z1a rfl) Tryz.underlying37 rfl (by kernel_rfl)) fun _ F6 => ?_)
 refine wl_callV (zc rfl) rfl F6 rfl rfl (F6.get (t := 8) rfl) (zE Tryz.func53 rfl) #[.agg (zk x y)] (show _ ++ _ = _ from by rw [(zwa (F6.get (t := 9) rfl))]; rfl) (zca ((kT w2 ⟨(M2.isb (k := 0) rfl), (M2.isb (k := 1) rfl)⟩))) ?_
 rintro _ w7 a7 ⟨rfl, b7⟩ F7
 have M7 := M2.step b7
 refine zh (zc rfl) rfl F7 rfl M7 4 (t := 35) (c := zi (fun _ => 0)) (by unfold execOp; kernel_rfl) ?_
 intro g8 a8 w8 F8 M8
 refine zr (zc rfl) rfl F8 M8 (k := 4) rfl _ _ _ rfl (F8.get (t := 7) rfl) (F8.get (t := 10) rfl) (zi Y) _ rfl (zL rfl) (zda _) (zo rfl) (by kernel_rfl) ?_
 intro w9 M9
 refine hK4 _ _ (zT fun _ hK10 => zj (w' := w9) (zc rfl) rfl F8 rfl (.slice (some ⟨g8, 0, none⟩) 16 16) (zrc _ rfl (F8.get (t := 7) rfl)) fun _ F11 => ?_)
 refine rm rfl F11 fun _ F12 => zaa (zc rfl) rfl F12 rfl rfl (zE Tryz.func89 rfl) #[.slice (some ⟨g8, 0, none⟩) 16 16, .slice Ab l.length cb] (z3a (F12.get (t := 11) rfl) (F12.get (t := 12) rfl)) (zca ((same_b (isb_sum hyb (M9.blk (k := 4) rfl)) (M9.isb (k := 2) rfl) q hq))) ?_
 rintro _ w13 a13 ⟨rfl, b13⟩ F13
 have M13 := M9.step b13
 refine rm rfl F13 fun _ F14 => hK10 _ _ (wp_ret ?_)
 try simp only [Exit.then, Exit.inBlock, Exit.jump]
 exact bodyPost_ret (res1 rfl (F14.get rfl)) F14.defers ⟨rfl, M13.below⟩
theorem scramble_any (x : SideN) (y : SideV) (h2 : 2 < x.Q) (hQ : x.Q < 4294967296 ^ 8) (w : World) (hx : SideIs w x y) :
  Calls Tryz.prog 41 #[.agg (zk x y)] w fun e w' => e = .returned (numV (uN x.Q x.A x.B)) ∧ Below w.heap.size w w' := by
 obtain ⟨N, hN⟩ : ∃ N, uN x.Q x.A x.B = N := ⟨_, rfl⟩
 have kE := fun (w : World) (u : Value) (h : IsP w [zq x.A, zq x.B] u) => texp_any x.k x.P x.Q x.g h2 hQ ({ data := #[117] } : ByteArray) (by decide) [zq x.A, zq x.B] u (show 2 ≤ 90 by decide) w h
 rw [show texN x.Q (sBy ({ data := #[117] } : ByteArray)) [zq x.A, zq x.B] = N from hN] at kE
 rw [hN]
 clear hN
 refine zea (args := [.agg (zk x y)]) 13 Tryz.func41 rfl rfl rfl ?_
 intro fa F
 have M := Mx.start w
 replace M := M.argB 0 hx.hp (fun g e => by cases e)
 replace M := M.argB 1 hx.hs (fun g e => by cases e)
 refine zT fun _ hK1 => zh (zc rfl) rfl F rfl M 2 (t := 37) (c := zk x y) (by unfold execOp; simp only [(F.get (t := 0) rfl)]; kernel_rfl) ?_
 intro g2 a2 w2 F2 M2
 refine zh (zc rfl) rfl F2 rfl M2 3 (t := 27) (c := numA 0) (zu rfl) ?_
 intro g3 a3 w3 F3 M3
 refine hK1 _ _ (zSk fun _ hK4 => ?_)
 have hD5 := (zp (M3.blk (k := 2) rfl) dnil)
 refine zha F3 (SK [.inl (.pointer (some ⟨g2, 0, none⟩)), .inl (.agg (zg x.k x.P x.Q x.g)), .inl (.pointer (some ⟨g2, 27, none⟩)), .inl (numV x.A), .inr (StK.bytes (zq x.A)), .inl (.pointer (some ⟨g2, 35, none⟩)), .inl (numV x.B), .inr (StK.bytes (zq x.B)), .inr (StK.parts [(zq x.A), (zq x.B)]), .inl (numV N)]) 10 rfl (by kernel_rfl) ⟨hop0 F3 (by kernel_rfl), hopP F3 hD5 0 (some g2) (by kernel_rfl), hop0 F3 (by kernel_rfl), hopP F3 hD5 0 (some g2) (by kernel_rfl), ?_, hop0 F3 (by kernel_rfl), hopP F3 hD5 0 (some g2) (by kernel_rfl), ?_, ?_, ?_, trivial⟩ ?_
 ·intro ua uw hb hd
  have e6 : ua.eval (.tmp 6) = numV x.A := hd 6 (by decide)
  exact zba (F := (StK.bytes (zq x.A)).F) (zc rfl) hb.size rfl #[numV x.A] (zwa e6) (zE Tryz.func74 rfl) ((bytes_r x.A uw))
 ·intro ua uw hb hd
  have e9 : ua.eval (.tmp 9) = numV x.B := hd 9 (by decide)
  exact zba (F := (StK.bytes (zq x.B)).F) (zc rfl) hb.size rfl #[numV x.B] (zwa e9) (zE Tryz.func74 rfl) ((bytes_r x.B uw))
 ·intro ua uw hb hd
  have e7 : IsB uw (zq x.A) (ua.eval (.tmp 7)) := hd 7 (by decide)
  have e10 : IsB uw (zq x.B) (ua.eval (.tmp 10)) := hd 10 (by decide)
  exact hop_parts2 (zc rfl) hb.size (.tmp 7) (.tmp 10) rfl e7 e10
 ·intro ua uw hb hd
  have e4 : ua.eval (.tmp 4) = .agg (zg x.k x.P x.Q x.g) := hd 4 (by decide)
  have e11 : IsP uw [(zq x.A), (zq x.B)] (ua.eval (.tmp 11)) := hd 11 (by decide)
  exact zba (F := (StK.eq (numV N)).F) (zc rfl) hb.size rfl #[.agg (zg x.k x.P x.Q x.g), .string ({ data := #[117] }), (ua.eval (.tmp 11))] (args3 e4 rfl rfl) (zE Tryz.func35 rfl) (zqa ((kE _ _ e11)))
 intro p6 a6 w6 b6 G6 y6
 obtain ⟨-, -, -, -, -, -, -, -, -, q9, -⟩ := y6
 have r9 : p6 9 = numV N := q9 (by decide)
 simp only [List.take, layV, Nat.zero_add, Nat.reduceAdd, r9] at G6
 have M6 := M3.kc b6
 clear F3 M3 r9 q9
 refine zr (zc rfl) rfl G6 M6 (k := 3) rfl _ _ _ rfl (G6.get (t := 2) rfl) (G6.get (t := 12) rfl) (numA N) _ rfl (zL rfl) (zy _) (zo rfl) zd ?_
 intro w7 M7
 refine hK4 _ _ (wp_ret ?_)
 try simp only [Exit.then, Exit.inBlock, Exit.jump]
 exact bodyPost_ret (results_cell_row rfl _ _ _ _ _ (0, 0) _ (G6.get (t := 2) rfl) (M7.blk (k := 3) rfl) Tryz.underlying27 rfl zd) G6.defers ⟨rfl, M7.below⟩
theorem check_any (x : SideN) (y : SideV) (ho : SideOk x) (l : List UInt8) (v : Value) (q : Bool) (hq : decide (sumY x.Pr = l) = q) (w : World) (hx : SideIs w x y) (hb : IsB w l v) :
  Calls Tryz.prog 17 #[.agg (zk x y), v] w fun e w' => e = .returned (.tuple #[.agg (zi (cond q (ansY x.Ky x.Pr) (fun _ => 0))), .bool q]) ∧ Below w.heap.size w w' := by
 obtain ⟨Ab, cb, rfl⟩ := id hb.shape
 refine zea (args := [.agg (zk x y), .slice Ab l.length cb]) 13 Tryz.func17 rfl rfl rfl ?_
 intro fa F
 have M := Mx.start w
 replace M := M.argB 0 hx.hp (fun g e => by cases e)
 replace M := M.argB 1 hx.hs (fun g e => by cases e)
 replace M := M.argB 2 hb (fun g e => by cases e)
 refine zT fun _ hK1 => zh (zc rfl) rfl F rfl M 3 (t := 37) (c := zk x y) (by unfold execOp; simp only [(F.get (t := 0) rfl)]; kernel_rfl) ?_
 intro g2 a2 w2 F2 M2
 refine zh (zc rfl) rfl F2 rfl M2 4 (t := 35) (c := zi (fun _ => 0)) (by unfold execOp; kernel_rfl) ?_
 intro g3 a3 w3 F3 M3
 refine rm rfl F3 fun _ F4 => hK1 _ _ (zSk fun _ hK5 => zT fun _ hK6 => zj (w' := w3) (zc rfl) rfl F4 rfl _ (zxa _ _ rfl (F4.get (t := 2) rfl) (M3.blk (k := 3) rfl) (zk x y) (z1a rfl) Tryz.underlying37 rfl (by kernel_rfl)) fun _ F7 => ?_)
 refine rm rfl F7 fun _ F8 => zaa (zc rfl) rfl F8 rfl rfl (zE Tryz.func51 rfl) #[.agg (zk x y), .slice Ab l.length cb, .func (.func 52) #[] #[]] (args3 (F8.get (t := 6) rfl) (F8.get (t := 7) rfl) rfl) (zca ((hq ▸ holds_first x y ho l _ w3 ⟨(M3.isb (k := 0) rfl), (M3.isb (k := 1) rfl)⟩ (M3.isb (k := 2) rfl)))) ?_
 rintro _ w9 a9 ⟨rfl, b9⟩ F9
 have M9 := M3.step b9
 cases q
 ·refine zj (w' := w9) (zc rfl) rfl F9 rfl (.bool true) (zfc _ _ rfl (F9.get (t := 8) rfl)) fun _ F10 => ?_
  refine hK6 _ _ (wp_cond_true (F10.get (t := 9) rfl) (zT fun _ hK11 => zj (w' := w9) (zc rfl) rfl F10 rfl (.agg (zi (fun _ => 0))) (by unfold execOp; kernel_rfl) fun _ F12 => ?_))
  refine zr (zc rfl) rfl F12 M9 (k := 4) rfl _ _ _ rfl (F12.get (t := 4) rfl) (F12.get (t := 10) rfl) (zi (fun _ => 0)) _ rfl (zL rfl) (zda _) (zo rfl) (by kernel_rfl) ?_
  intro w13 M13
  refine rm rfl F12 fun _ F14 => hK11 _ _ (wp_ret ?_)
  try simp only [Exit.then, Exit.inBlock, Exit.jump]
  exact bodyPost_ret (resCT rfl (F14.get rfl) (M13.blk (k := 4) rfl) (F14.get rfl) Tryz.underlying35 rfl (by kernel_rfl)) F14.defers ⟨rfl, M13.below⟩
 ·refine zj (w' := w9) (zc rfl) rfl F9 rfl (.bool false) (zfc _ _ rfl (F9.get (t := 8) rfl)) fun _ F15 => ?_
  refine hK6 _ _ (wp_cond_false (F15.get (t := 9) rfl) (wp_skip (hK5 _ _ (zT fun _ hK16 => zj (w' := w9) (zc rfl) rfl F15 rfl _ (zxa _ _ rfl (F15.get (t := 2) rfl) (M9.blk (k := 3) rfl) (zk x y) (z1a rfl) Tryz.underlying37 rfl (by kernel_rfl)) fun _ F17 => ?_))))
  refine zaa (zc rfl) rfl F17 rfl rfl (zE Tryz.func53 rfl) #[.agg (zk x y)] (zwa (F17.get (t := 11) rfl)) (zca ((second_any x y ho w9 ⟨(M9.isb (k := 0) rfl), (M9.isb (k := 1) rfl)⟩))) ?_
  rintro _ w18 a18 ⟨rfl, b18⟩ F18
  have M18 := M9.step b18
  refine zr (zc rfl) rfl F18 M18 (k := 4) rfl _ _ _ rfl (F18.get (t := 4) rfl) (F18.get (t := 12) rfl) (zi (ansY x.Ky x.Pr)) _ rfl (zL rfl) (zda _) (zo rfl) (by kernel_rfl) ?_
  intro w19 M19
  refine rm rfl F18 fun _ F20 => hK16 _ _ (wp_ret ?_)
  try simp only [Exit.then, Exit.inBlock, Exit.jump]
  exact bodyPost_ret (resCT rfl (F20.get rfl) (M19.blk (k := 4) rfl) (F20.get rfl) Tryz.underlying35 rfl (by kernel_rfl)) F20.defers ⟨rfl, M19.below⟩
theorem done_any (x : SideN) (y : SideV) (ho : SideOk x) (l : List UInt8) (v : Value) (q : Bool) (hq : decide (sumY (ansY x.Ky x.Pr) = l) = q) (w : World) (hx : SideIs w x y) (hb : IsB w l v) :
  Calls Tryz.prog 19 #[.agg (zk x y), v] w fun e w' => e = .returned (.bool q) ∧ Below w.heap.size w w' := by
 obtain ⟨Ab, cb, rfl⟩ := id hb.shape
 refine zea (args := [.agg (zk x y), .slice Ab l.length cb]) 8 Tryz.func19 rfl rfl rfl ?_
 intro fa F
 have M := Mx.start w
 replace M := M.argB 0 hx.hp (fun g e => by cases e)
 replace M := M.argB 1 hx.hs (fun g e => by cases e)
 replace M := M.argB 2 hb (fun g e => by cases e)
 refine zT fun _ hK1 => zh (zc rfl) rfl F rfl M 3 (t := 37) (c := zk x y) (by unfold execOp; simp only [(F.get (t := 0) rfl)]; kernel_rfl) ?_
 intro g2 a2 w2 F2 M2
 refine rm rfl F2 fun _ F3 => hK1 _ _ (zT fun _ hK4 => zj (w' := w2) (zc rfl) rfl F3 rfl _ (zxa _ _ rfl (F3.get (t := 2) rfl) (M2.blk (k := 3) rfl) (zk x y) (z1a rfl) Tryz.underlying37 rfl (by kernel_rfl)) fun _ F5 => ?_)
 refine rm rfl F5 fun _ F6 => zaa (zc rfl) rfl F6 rfl rfl (zE Tryz.func51 rfl) #[.agg (zk x y), .slice Ab l.length cb, .func (.func 53) #[] #[]] (args3 (F6.get (t := 5) rfl) (F6.get (t := 6) rfl) rfl) (zca ((hq ▸ holds_second x y ho l _ w2 ⟨(M2.isb (k := 0) rfl), (M2.isb (k := 1) rfl)⟩ (M2.isb (k := 2) rfl)))) ?_
 rintro _ w7 a7 ⟨rfl, b7⟩ F7
 have M7 := M2.step b7
 refine rm rfl F7 fun _ F8 => hK4 _ _ (wp_ret ?_)
 try simp only [Exit.then, Exit.inBlock, Exit.jump]
 exact bodyPost_ret (res1 rfl (F8.get rfl)) F8.defers ⟨rfl, M7.below⟩
end Go.Proofs.YtcfepoopkfhojaaGreat
namespace Go.Proofs.YtcfepoopkfhojaaGreat
open Go.ChangeShapes Go.WideShapes Go.ChangeAt Go.RowKit Go.Shelf
variable {ds : List Deferred}
def roundEnd3 (D l : Nat) (W2 : World) (R : World → Prop) (S : Code → World → Prop) : Exit → Act → World → Prop
 | .normal, _, W3 => KeepsOthers W2 W3 ∧ ∀ o, R (W3.putObj l o)
 | .ret, _, W3 => KeepsFrom D W2 W3 ∧ ∀ o, S .ret (W3.putObj l o)
 | .exit id, _, W3 => KeepsFrom D W2 W3 ∧ ∀ o, S (.exit id) (W3.putObj l o)
 | _, _, _ => False
def MidOk3 (n : Nat) (P : Program) (D l : Nat) (body : Code) (W : World) (R : World → Prop) (S : Code → World → Prop) (a₁ : Act) (W1 : World) : Prop :=
 KeepsOthers W W1 ∧ ∀ o, NotCells W1 l → o.isCells = false → body.wpIn (Fence.wide.inRound l) n P (roundEnd3 D l (W1.putObj l o) R S) a₁ (W1.putObj l o)
def LeftAt (l D : Nat) (S : Code → World → Prop) (W : World) : Prop :=
 ∃ c r, W.heap[l]? = some (.loop r) ∧ r.pending = some c ∧ r.state ≠ .busy ∧ W.heap[D]? = some (.deferred (some [])) ∧ S c W
theorem LeftAt.put {l D : Nat} {S : Code → World → Prop} {W : World} (h : LeftAt l D S W) {l' : Nat} {o : Obj} (h1 : l ≠ l') (h2 : D ≠ l') (hS : ∀ c, S c W → S c (W.putObj l' o)) : LeftAt l D S (W.putObj l' o) := by
 obtain ⟨c, r, k1, k2, k3, k4, k5⟩ := h
 exact ⟨c, r, (World.putObj_heap_other h1).trans k1, k2, k3, (World.putObj_heap_other h2).trans k4, hS c k5⟩
theorem LeftAt.below {l D : Nat} {S : Code → World → Prop} {W W' : World} (h : LeftAt l D S W) (hb : Below W.heap.size W W') (hS : ∀ c, S c W → S c W') : LeftAt l D S W' := by
 obtain ⟨c, r, k1, k2, k3, k4, k5⟩ := h
 exact ⟨c, r, (hb.block l (Array.getElem?_eq_some_iff.1 k1).1).trans k1, k2, k3, (hb.block D (Array.getElem?_eq_some_iff.1 k4).1).trans k4, hS c k5⟩
def YieldsAt (P : Program) (l D : Nat) (o1 o2 : Obj) (args : Array Value) (W : World) (Post Sx : World → Prop) : Prop :=
 YieldAt Fence.wide 1 P l args W fun e W' => (e = .returned (.bool true) ∧ RecAt l D o1 o2 W' ∧ KeepsOthers W W' ∧ Post W') ∨ (e = .returned (.bool false) ∧ KeepsFrom (l + 1) W W' ∧ Sx W')
theorem wpIn_range3 {P : Program} {g : Operand} {ps : Array Tmp} {assign body : Code} {Q : Exit → Act → World → Prop} {a : Act} {w : World}
  {gf : Nat} {lb : Array Value} (hg : a.eval g = .func (.func gf) #[] lb) (eg : ∀ args w, (callFunc gf args).run P w = .ok (.enter gf args) w)
  {α : Type} (encs : α → Array Value) (hps : ∀ x, (encs x).size = ps.size) (Pre : α → World → Prop) (Post : α → World → Prop) (S : Code → World → Prop) (Fin : World → Prop)
  (hround : ∀ (l : Nat) (x : α) (W : World), w.heap.size < l → l < W.heap.size → Pre x W →
   assign.wpIn (Fence.wide.inRound l) 1 P (Exit.then (MidOk3 1 P w.heap.size l body W (Post x) S) (fun _ _ _ => False)) { tmps := (ps.zip (encs x)).foldl (fun t (p, v) => t.setIfInBounds p v) a.tmps, defers := [] } W)
  (hiter : ∀ (l D : Nat) (o1 o2 : Obj) (W1 : World), D = w.heap.size → l = w.heap.size + 1 → W1 = (w.alloc o2).alloc o1 → RecAt l D o1 o2 W1 →
   (∀ x W, Pre x W → RecAt l D o1 o2 W → YieldsAt P l D o1 o2 (encs x) W (Post x) (LeftAt l D S)) →
   CallsIn Fence.wide 2 P gf (#[.func (.yield l) #[] #[]] ++ lb) W1 fun e W' => (∃ v, e = .returned v) ∧ ((RecAt l D o1 o2 W' ∧ Fin W') ∨ LeftAt l D S W'))
  (hdone : ∀ (l D : Nat) (o : Obj) (W : World), D = w.heap.size → l = w.heap.size + 1 → Fin W → l < W.heap.size → NotCells W l → (W.putObj l o).heap[D]? = some (.deferred (some [])) →
   Q .normal { a with defers := { target := .collected D, args := #[] } :: a.defers } (W.putObj l o))
  (hleft : ∀ (l D : Nat) (o : Obj) (c : Code) (W : World), D = w.heap.size → l = w.heap.size + 1 → S c W → l < W.heap.size → NotCells W l → (W.putObj l o).heap[D]? = some (.deferred (some [])) →
   c.wpIn Fence.wide 3 P Q { a with defers := { target := .collected D, args := #[] } :: a.defers } (W.putObj l o)) :
  (Code.rangeFunc g ps assign body).wpIn Fence.wide 3 P Q a w := by
 refine wpIn_rangeFunc ?_
 intro fn hfn
 show ∃ (l : Nat) (mark : List Deferred) (w₁ : World) (d : Deferred) (w₁' : World) (f : FuncId) (args : Array Value) (w₂ : World), (Instr.enterLoop fn a.tmps ps assign body none).run P w = .ok (l, mark) w₁ ∧ _
 obtain ⟨rec, hrec⟩ : ∃ rec : LoopState → Option Code → Loop, rec = fun st pe => { state := st, pending := pe, fn, tmps := a.tmps, params := ps, assign, body, defers := w.heap.size } := ⟨_, rfl⟩
 obtain ⟨W1, hW1⟩ : ∃ W1, (w.alloc (.deferred (some []))).alloc (.loop (rec .ready none)) = W1 := ⟨_, rfl⟩
 have hL1 : W1.heap[w.heap.size + 1]? = some (.loop (rec .ready none)) := by
  rw [← hW1]; have := World.alloc_heap_new (w.alloc (.deferred (some []))) (.loop (rec .ready none)); rwa [World.size_alloc] at this
 have hK1 : W1.heap[w.heap.size]? = some (.deferred (some [])) := by
  rw [← hW1]; exact (Below.heap_alloc _ _ _ (by simp)).trans (World.alloc_heap_new w _)
 refine ⟨w.heap.size + 1, [{ target := .collected w.heap.size, args := #[] }], W1, { target := .fn (.func gf) lb, args := #[.func (.yield (w.heap.size + 1)) #[] #[]] }, W1, gf,
  #[.func (.yield (w.heap.size + 1)) #[] #[]] ++ lb, W1, ?_, ?_, ?_, ?_, fun _ => by omega, ?_⟩
 ·rw [← hW1, hrec]; exact run_enterLoop_outer _ _ _ _ _
 ·simp only [resolve, hg]
  simp [go_sem]
 ·intro f' hf'; trivial
 ·simp [invoke, go_sem, eg]
 ·refine (hiter (w.heap.size + 1) w.heap.size (.loop (rec .ready none)) (.deferred (some [])) W1 rfl rfl hW1.symm ⟨hL1, hK1, rfl, rfl⟩ ?_).mono ?_
  ·rintro x W hpre ⟨hl, hk, -, -⟩
   have hlt : w.heap.size + 1 < W.heap.size := (Array.getElem?_eq_some_iff.1 hl).1
   have hlW := hl
   have hy := run_yield (P := P) (args := encs x) hl (by rw [hrec]; exact hps x)
   rw [hrec] at hy
   refine ⟨fn, _, assign, body, hy, roundIn_of_wpIn hfn (wpIn_mono (hround (w.heap.size + 1) x W (by omega) hlt hpre) ?_)⟩
   rintro e a1 W2 hp
   cases e with
   | normal =>
    obtain ⟨hk2, hb⟩ := hp
    have hl2 := hk2.same _ _ hl rfl
    have hd2 := hk2.same _ _ hk rfl
    have hlt2 := (Array.getElem?_eq_some_iff.1 hl2).1
    refine ⟨_, run_beginRound hl2 (by rw [hrec]), ?_⟩
    refine wpIn_mono (hb (.loop { rec .ready none with state := .busy }) (fun o' ho' => by rw [hl2] at ho'; cases ho'; rfl) rfl) ?_
    have left : ∀ (c : Code) (W3 : World), KeepsFrom w.heap.size (W2.putObj (w.heap.size + 1) (.loop { rec .ready none with state := .busy })) W3 → (∀ o, S c (W3.putObj (w.heap.size + 1) o)) →
      ∃ v w', (Instr.endRound (w.heap.size + 1) (some c)).run P W3 = .ok v w' ∧ ((Ending.returned v = .returned (.bool true) ∧ RecAt (w.heap.size + 1) w.heap.size (.loop (rec .ready none)) (.deferred (some [])) w' ∧ KeepsOthers W w' ∧ Post x w') ∨ (Ending.returned v = .returned (.bool false) ∧ KeepsFrom (w.heap.size + 1 + 1) W w' ∧ LeftAt (w.heap.size + 1) w.heap.size S w')) := by
     intro c W3 hk3 hS
     have hl3 : W3.heap[w.heap.size + 1]? = some (.loop { rec .ready none with state := .busy }) := hk3.same _ _ (by omega) (World.putObj_heap_same hlt2) rfl
     have hd3 : W3.heap[w.heap.size]? = some (.deferred (some [])) := hk3.same _ _ (Nat.le_refl _) ((World.putObj_heap_other (by omega)).trans hd2) rfl
     have hend := run_endRound (P := P) (some c) hl3
     rw [hrec] at hend
     have hkf : ∀ ob, KeepsFrom (w.heap.size + 1 + 1) W (W3.putObj (w.heap.size + 1) ob) := fun ob => ⟨by
       have h1 := hk2.size
       have h2 := hk3.size
       simp only [World.putObj_size] at h2 ⊢
       omega, fun k o hk0 hko ho => (World.putObj_heap_other (by omega)).trans (hk3.same k o (by omega) ((World.putObj_heap_other (by omega)).trans (hk2.same k o hko ho)) ho)⟩
     refine ⟨_, _, hend, .inr ⟨rfl, hkf _, c, _, World.putObj_heap_same (Array.getElem?_eq_some_iff.1 hl3).1, rfl, by simp, (World.putObj_heap_other (by omega)).trans hd3, hS _⟩⟩
    rintro e3 a3 W3 hp3
    cases e3 with
    | normal =>
     obtain ⟨hk3, hR⟩ := hp3
     have hl3 : W3.heap[w.heap.size + 1]? = some (.loop { rec .ready none with state := .busy }) := hk3.same _ _ (World.putObj_heap_same hlt2) rfl
     have hd3 : W3.heap[w.heap.size]? = some (.deferred (some [])) := hk3.same _ _ ((World.putObj_heap_other (by omega)).trans hd2) rfl
     have hend := run_endRound (P := P) none hl3
     rw [hrec] at hend
     refine ⟨_, _, hend, .inl ⟨rfl, ⟨?_, ?_, rfl, rfl⟩, ⟨?_, ?_⟩, hR _⟩⟩
     rotate_left 2
     ·have h1 := hk2.size
      have h2 := hk3.size
      simp only [World.putObj_size] at h2 ⊢
      omega
     ·intro k o hko ho
      by_cases hkl : k = w.heap.size + 1
      ·subst hkl
       rw [hlW] at hko
       cases hko
       rw [World.putObj_heap_same (Array.getElem?_eq_some_iff.1 hl3).1, hrec]; rfl
      ·exact (World.putObj_heap_other hkl).trans (hk3.same k o ((World.putObj_heap_other hkl).trans (hk2.same k o hko ho)) ho)
     ·rw [hrec]; exact World.putObj_heap_same (Array.getElem?_eq_some_iff.1 hl3).1
     ·exact (World.putObj_heap_other (by omega)).trans hd3
    | ret => exact left .ret W3 hp3.1 hp3.2
    | exit id => exact left (.exit id) W3 hp3.1 hp3.2
    | goto t => exact hp3.elim
    | panic ch => exact hp3.elim
    | outgrown => exact hp3.elim
   | _ => exact hp.elim
  ·rintro e W2 ⟨⟨v, rfl⟩, h⟩
   rcases h with ⟨⟨hl, hk, -, -⟩, hf⟩ | ⟨c, r, hl, hp, hb, hk, hS⟩
   ·refine ⟨none, _, by have := run_endLoop (P := P) hl (by rw [hrec]; simp); rw [hrec] at this; exact this, ?_⟩
    exact hdone (w.heap.size + 1) w.heap.size _ W2 rfl rfl hf (Array.getElem?_eq_some_iff.1 hl).1 (fun o' ho' => by rw [hl] at ho'; cases ho'; rfl) ((World.putObj_heap_other (by omega)).trans hk)
   ·refine ⟨some c, _, by have := run_endLoop (P := P) hl hb; rw [hp] at this; exact this, ?_⟩
    exact hleft (w.heap.size + 1) w.heap.size _ c W2 rfl rfl hS (Array.getElem?_eq_some_iff.1 hl).1 (fun o' ho' => by rw [hl] at ho'; cases ho'; rfl) ((World.putObj_heap_other (by omega)).trans hk)
theorem range_fx3 {n : Nat} {P : Program} {g : Operand} {p1 : Tmp} {assign body : Code} {Q : Exit → Act → World → Prop} {a : Act} {w : World} {V : List (Nat × Value)} (F : Fx n a V ds)
  {gf : Nat} {lb : Array Value} (hg : a.eval g = .func (.func gf) #[] lb) (eg : ∀ args w, (callFunc gf args).run P w = .ok (.enter gf args) w) (b1 : Nat.blt p1 n = true)
  {α : Type} (f1 : α → Value) (Pre : α → World → Prop) (Post : α → World → Prop) (S : Code → World → Prop) (Fin : World → Prop)
  (hiter : ∀ (l D : Nat) (o1 o2 : Obj) (W1 : World), D = w.heap.size → l = w.heap.size + 1 → Below w.heap.size w W1 → RecAt l D o1 o2 W1 →
   (∀ x W, Pre x W → RecAt l D o1 o2 W → YieldsAt P l D o1 o2 #[f1 x] W (Post x) (LeftAt l D S)) →
   CallsIn Fence.wide 2 P gf (#[.func (.yield l) #[] #[]] ++ lb) W1 fun e W' => (∃ v, e = .returned v) ∧ ((RecAt l D o1 o2 W' ∧ Fin W') ∨ LeftAt l D S W'))
  (hround : ∀ (l : Nat) (x : α) (W : World) (ra : Act), Fx n ra ((p1, f1 x) :: V) [] → w.heap.size < l → l < W.heap.size → Pre x W →
   assign.wpIn (Fence.wide.inRound l) 1 P (Exit.then (MidOk3 1 P w.heap.size l body W (Post x) S) (fun _ _ _ => False)) ra W)
  (hdone : ∀ (l D : Nat) (o : Obj) (W : World) (a' : Act), D = w.heap.size → l = w.heap.size + 1 → Fin W → NotCells W l → (W.putObj l o).heap[D]? = some (.deferred (some [])) → Fx n a' V ({ target := .collected D, args := #[] } :: ds) →
   Q .normal a' (W.putObj l o))
  (hleft : ∀ (l D : Nat) (o : Obj) (c : Code) (W : World) (a' : Act), D = w.heap.size → l = w.heap.size + 1 → S c W → NotCells W l → (W.putObj l o).heap[D]? = some (.deferred (some [])) → Fx n a' V ({ target := .collected D, args := #[] } :: ds) →
   c.wp P Q a' (W.putObj l o)) :
  (Code.rangeFunc g #[p1] assign body).wp P Q a w := by
 refine (wpIn_wide (n := 3)).1 (wpIn_range3 hg eg (fun x => #[f1 x]) (fun _ => rfl) Pre Post S Fin ?_ ?_ ?_ ?_)
 ·intro l x W h1 h2 h3
  have e : ({ tmps := (#[p1].zip #[f1 x]).foldl (fun t (p, v) => t.setIfInBounds p v) a.tmps, defers := [] } : Act) = (({ a with defers := [] } : Act).put (some p1) (f1 x)) := by simp [Act.put]
  show assign.wpIn _ _ _ _ ({ tmps := (#[p1].zip #[f1 x]).foldl (fun t (p, v) => t.setIfInBounds p v) a.tmps, defers := [] } : Act) W
  rw [e]
  exact hround l x W _ ((F.fresh []).put p1 (f1 x) b1) h1 h2 h3
 ·intro l D o1 o2 W1 hD hl hW hr hY
  refine hiter l D o1 o2 W1 hD hl ?_ hr hY
  rw [hW]
  exact ((Below.refl _ _).alloc (Nat.le_refl _) _).alloc (by simp) _
 ·intro l D o W hD hl hf hlt hnc hdd
  have F' := F.fresh ({ target := .collected D, args := #[] } :: a.defers)
  rw [F.defers] at F'
  have := hdone l D o W _ hD hl hf hnc hdd F'
  rw [← F.defers] at this
  exact this
 ·intro l D o c W hD hl hf hlt hnc hdd
  have F' := F.fresh ({ target := .collected D, args := #[] } :: a.defers)
  rw [F.defers] at F'
  have := hleft l D o c W _ hD hl hf hnc hdd F'
  rw [← F.defers] at this
  exact wpIn_wide.2 this
section
variable {P : Program} {ops : Array Oper} {Q : Exit → Act → World → Prop} {a : Act} {w w' : World} {rest : List Oper} {o : Oper} {n m : Nat} {V : List (Nat × Value)} {r : Option Nat}
theorem roundIn_lvl {n m : Nat} {l : Nat} {fn : FuncId} {tmps : Array Value} {assign body : Code} {w : World} {R : Ending → World → Prop} (h : RoundIn Fence.wide n P l fn tmps assign body w R) : RoundIn Fence.wide m P l fn tmps assign body w R :=
 ⟨h.1, fun c cs _ => h.2 c cs (fun d hd => by cases hd)⟩
theorem wi_yields (hw : Region.wanted o (yielded ops a.tmps) = true) {d : Nat} (hd : o.dst = some d) (F : Fx n a V ds) (hn : Nat.blt d n = true) {args : Array Operand} {ts : Array TypeId} {t : Tmp} (ho : o.op = .call { callee := .value (.tmp t), args := args, argTypes := ts }) {l D : Nat} {o1 o2 : Obj} (hf : a.eval (.tmp t) = .func (.yield l) #[] #[])
  (vals : Array Value) (hv : args.map a.eval = vals) {Z Sx : World → Prop} (hy : YieldsAt P l D o1 o2 vals w Z Sx)
  (h : ∀ w' a', RecAt l D o1 o2 w' → KeepsOthers w w' → Z w' → Fx n a' ((d, .bool true) :: V) ds → wpListIn (wideR r) m P ops Q rest a' w')
  (h2 : ∀ w' a', KeepsFrom (l + 1) w w' → Sx w' → Fx n a' ((d, .bool false) :: V) ds → wpListIn (wideR r) m P ops Q rest a' w') : wpListIn (wideR r) m P ops Q (o :: rest) a w := by
 subst hv
 obtain ⟨fn, tmps, assign, body, h1, hR⟩ := hy
 unfold wpListIn
 rw [if_pos hw]
 refine ⟨fun _ _ => trivial, ?_⟩
 have e : (o.semAt (wideR r).round a.eval).run P w = .ok (.round l fn tmps assign body) w := by
  rw [Oper.semAt_plain _ _ _ (by rw [ho]; intro c hc'; cases hc')]
  unfold execOp
  simp only [ho, resolve, hf]
  simp [invoke, go_sem, h1]
 rw [e]
 refine ⟨fun e => Bool.noConfusion e, RoundIn.mono (show RoundIn Fence.wide (m - 1) P l fn tmps assign body w _ from roundIn_lvl hR) fun e w' he => ?_⟩
 rcases he with ⟨rfl, hr, hk, hz⟩ | ⟨rfl, hk, hs⟩
 ·have := F.put d (.bool true) hn
  rw [← hd] at this
  exact h _ _ hr hk hz this
 ·have := F.put d (.bool false) hn
  rw [← hd] at this
  exact h2 _ _ hk hs this
end
end Go.Proofs.YtcfepoopkfhojaaGreat
namespace Go.Proofs.YtcfepoopkfhojaaGreat
open Go.ChangeShapes Go.WideShapes Go.ChangeAt Go.RowKit Go.Shelf
def JQ {α : Type} (G : Option Nat) (w0 : World) (PRE : (Nat → Bool) → Prop) (RL : α → (Nat → Bool) → (Nat → Value) → List (Nat × Res)) (S : Nat → Bool) (p : Nat → Value) (w : World) : Prop := PRE S ∧ ∃ x, Mx G w0 w (RL x S p)
theorem JQ.mk {α : Type} {G : Option Nat} {w0 : World} {PRE : (Nat → Bool) → Prop} {RL : α → (Nat → Bool) → (Nat → Value) → List (Nat × Res)} {S : Nat → Bool} {p : Nat → Value} {w : World} (h : PRE S) (x : α) (M : Mx G w0 w (RL x S p)) : JQ G w0 PRE RL S p w := ⟨h, x, M⟩
def ifp (A : Option Addr) (n : Nat) (g : Nat) : Prop := 0 < n ∧ ∃ o, A = some ⟨g, o, none⟩
theorem RdI.same {u u' : World} {A : Option Addr} {n : Nat} {x : Nat → Int} (hs : Same (ifp A n) u u') (h : RdI u A n x) : RdI u' A n x :=
 ⟨h.1, h.2.1, fun hn => by
  obtain ⟨b, o, e, h1, h2⟩ := h.2.2 hn
  refine ⟨b, o, e, Nat.lt_of_lt_of_le h1 hs.size, fun k hk => ?_⟩
  have hb := hs.at_ b _ ⟨hn, o, e⟩ (Array.getElem?_eq_getElem h1)
  rw [← h2 k hk]
  simp only [World.cell?, hb, Array.getElem?_eq_getElem h1]⟩
section
variable {G : Option Nat} {w0 w : World} {R : List (Nat × Res)}
end
section
variable {a : Act} {w : World} {o : Oper} {A : Option Addr} {n c : Nat} {x : Nat → Int}
end
end Go.Proofs.YtcfepoopkfhojaaGreat
namespace Go.Proofs.YtcfepoopkfhojaaGreat
open Go.ChangeShapes Go.WideShapes Go.ChangeAt Go.RowKit
theorem wi_call {P : Program} {ops : Array Oper} {Q : Exit → Act → World → Prop} {a : Act} {w : World} {rest : List Oper} {o : Oper} {n m : Nat} {ds : List Deferred} {V : List (Nat × Value)} {r : Option Nat} (hw : Region.wanted o (yielded ops a.tmps) = true) {d : Nat} (hd : o.dst = some d) (F : Fx n a V ds) (hn : Nat.blt d n = true) {f : FuncId} {args : Array Operand} {ts : Array TypeId} (ho : o.op = .call { callee := .value (.func f), args := args, argTypes := ts })
  (hr : ∀ args w, (callFunc f args).run P w = .ok (.enter f args) w) (vals : Array Value) (hv : args.map a.eval = vals) {G : Value → World → Prop}
  (hc : Calls P f vals w fun e w' => ∃ v, e = .returned v ∧ G v w')
  (h : ∀ v w' a', G v w' → Fx n a' ((d, v) :: V) ds → wpListIn (wideR r) m P ops Q rest a' w') : wpListIn (wideR r) m P ops Q (o :: rest) a w := by
 unfold wpListIn
 rw [if_pos hw]
 refine op_in (fun c e => by rw [ho] at e; cases e) ?_
 subst hv
 unfold Oper.wp
 have : (execOp a.eval o).run P w = .ok (.enter f (args.map a.eval)) w := by
  simp [execOp, ho, resolve, invoke, Act.eval, go_sem, hr]
 rw [this]
 refine hc.mono fun e w' ⟨v, he, hb⟩ => ?_
 subst he
 have := F.put d v hn
 rw [← hd] at this
 exact h _ _ _ hb this
theorem bytes_o (a : Nat) (w : World) : Calls Tryz.prog 74 #[numV a] w fun e w' => ∃ v, e = .returned v ∧ Byt w' w.heap.size v (zq a) ∧ Below w.heap.size w w' :=
 (bytes_any a w).mono fun e w' ⟨g, h1, h2, h3, h4⟩ => ⟨_, h1, ⟨by simp [zq], .inr ⟨g, 32, bvs (zq a), by simp [zq], h2, h3, by simp [zq], by unfold maxLen; omega, by simp [bvs, zq], by simp only [bvs, Nat.mul_one]; exact List.take_of_length_le (by simp)⟩⟩, h4⟩
def nn2 (a b : Nat) : Array Value := #[numF a 0, numF a 1, numF a 2, numF a 3, numF a 4, numF a 5, numF a 6, numF a 7, numF b 0, numF b 1, numF b 2, numF b 3, numF b 4, numF b 5, numF b 6, numF b 7]
def sel2 (a b : Nat) (k : Nat) : Nat := if k = 0 then a else b
theorem written_any (gs : Nat) (w : World) :
  Calls Tryz.prog 75 #[.slice (some ⟨gs, 0, none⟩) 2 2] w fun e w' => ∃ gb, e = .returned (.func (.func 108) #[] #[.pointer (some ⟨gb, 0, none⟩)]) ∧ w.heap.size ≤ gb ∧ w'.heap[gb]? = some (.cells #[.slice (some ⟨gs, 0, none⟩) 2 2] 137 (0, 0)) ∧ Below w.heap.size w w' := by
 refine zea (args := [.slice (some ⟨gs, 0, none⟩) 2 2]) 4 Tryz.func75 rfl rfl rfl ?_
 intro fa F
 have M := Mx.start w
 refine zT fun _ hK1 => zh (zc rfl) rfl F rfl M 0 (t := 137) (c := #[.slice (some ⟨gs, 0, none⟩) 2 2]) (by unfold execOp; simp only [(F.get (t := 0) rfl)]; kernel_rfl) ?_
 intro g2 a2 w2 F2 M2
 refine rm rfl F2 fun _ F3 => hK1 _ _ (zT fun _ hK4 => zj (w' := w2) (zc rfl) rfl F3 rfl (.func (.func 108) #[] #[.pointer (some ⟨g2, 0, none⟩)]) (by unfold execOp; simp only [List.map_toArray, List.map_cons, List.map_nil, (F3.get (t := 1) rfl)]; kernel_rfl) fun _ F5 => ?_)
 refine rm rfl F5 fun _ F6 => hK4 _ _ (wp_ret ?_)
 try simp only [Exit.then, Exit.inBlock, Exit.jump]
 exact bodyPost_ret (res1 rfl (F6.get rfl)) F6.defers ⟨g2, rfl, (M2.own 0 _ rfl rfl g2 rfl).resolve_right (fun e => by cases e), M2.blk (k := 0) rfl, M2.below⟩
theorem written1_any (gb gs A B : Nat) (C : Nat → World → Prop) (Sx : World → Prop) (l D : Nat) (o1 o2 : Obj) (w : World)
  (hC : ∀ k W, C k W → W.heap[gb]? = some (.cells #[.slice (some ⟨gs, 0, none⟩) 2 2] 137 (0, 0)) ∧ W.heap[gs]? = some (.cells (nn2 A B) 27 (0, 0)))
  (hyield : ∀ (k : Nat) (W W' : World) (v : Value), k < 2 → C k W → Below W.heap.size W W' → IsB W' (zq (sel2 A B k)) v → (∀ b, bfp v b → W.heap.size ≤ b) → RecAt l D o1 o2 W' → YieldsAt Tryz.prog l D o1 o2 #[v] W' (C (k + 1)) Sx)
  (h0 : C 0 w) (hr : RecAt l D o1 o2 w) :
  CallsIn Fence.wide 2 Tryz.prog 108 #[.func (.yield l) #[] #[], .pointer (some ⟨gb, 0, none⟩)] w fun e W' => (∃ v, e = .returned v) ∧ ((RecAt l D o1 o2 W' ∧ C 2 W') ∨ Sx W') := by
 refine callsIn_wide.2 ?_
 refine zea (args := [.func (.yield l) #[] #[], .pointer (some ⟨gb, 0, none⟩)]) 17 Tryz.func108 rfl rfl rfl ?_
 intro fa F
 have M := Mx.start w
 have M9 := M.argO 0 (hC _ _ h0).1 (fun b e => by cases e)
 refine zT fun _ hK1 => zj (w' := w) (zc rfl) rfl F rfl (.slice (some ⟨gs, 0, none⟩) 2 2) (zkb _ _ rfl (F.get (t := 1) rfl) (M9.roB (k := 0) rfl) rfl Tryz.underlying137 rfl) fun _ F2 => ?_
 refine zj (w' := w) (zc rfl) rfl F2 rfl (.int .i64 2) (y_lnG 137 Tryz.underlying137 _ rfl (F2.get (t := 5) rfl) rfl) fun _ F3 => ?_
 refine rm rfl F3 fun _ F4 => hK1 _ _ (wp_block (wp_loop_ghost (fun k a w => ∃ q : Nat, k = 2 - q ∧ q ≤ 2 ∧ Fx 17 a [(0, .func (.yield l) #[] #[]), (1, .pointer (some ⟨gb, 0, none⟩)), (5, .slice (some ⟨gs, 0, none⟩) 2 2), (6, .int .i64 2), (7, .int .i64 (q : Int))] ∧ C q w ∧ RecAt l D o1 o2 w) 2 ⟨0, rfl, by omega, F4.sub ⟨rfl, rfl, rfl, rfl, rfl, trivial⟩, h0, hr⟩ ?_))
 rintro kk la lw ⟨q, ek, hx, LF, hc, hre⟩
 replace LF : Fx 17 la [(0, .func (.yield l) #[] #[]), (1, .pointer (some ⟨gb, 0, none⟩)), (5, .slice (some ⟨gs, 0, none⟩) 2 2), (6, .int .i64 2), (7, .int .i64 (q : Int))] := LF
 have hq : q = 0 ∨ q = 1 ∨ q = 2 := by omega
 rcases hq with rfl | rfl | rfl
 ·have LM0 := Mx.start lw
  have LM := LM0.argO 1 (hC _ _ hc).2 (fun b e => by cases e)
  clear LM0
  refine zT fun _ hK5 => zj (w' := lw) (zc rfl) rfl LF rfl (.bool true) (y_lss _ _ _ _ rfl (LF.get (t := 7) rfl) (LF.get (t := 6) rfl) (decide_eq_true (by decide))) fun _ F6 => ?_
  clear LF
  refine hK5 _ _ (zSk fun _ hK7 => wp_cond_true (F6.get (t := 8) rfl) (wp_skip (hK7 _ _ (zSk fun _ hK8 => wp_block (zT fun _ hK9 => zj (w' := lw) (zc rfl) rfl F6 rfl (.pointer (some ⟨gs, 0, none⟩)) (y_ixG 137 (s := 8) Tryz.underlying137 (by kernel_rfl) _ _ rfl (F6.get (t := 5) rfl) (F6.get (t := 7) rfl) rfl (by decide) rfl) fun _ F10 => ?_)))))
  refine zj (w' := lw) (zc rfl) rfl F10 rfl (numV A) (zxa _ _ rfl (F10.get (t := 9) rfl) (LM.roB (k := 1) rfl) (numA A) (y_part8 rfl rfl rfl rfl rfl rfl rfl rfl) Tryz.underlying27 rfl zd) fun _ F11 => ?_
  refine zh (zc rfl) rfl F11 rfl LM 5 (t := 27) (c := numA 0) (zu rfl) ?_
  intro g12 a12 w12 F12 M12
  clear F11 LM
  refine zr (zc rfl) rfl F12 M12 (k := 5) rfl _ _ _ rfl (F12.get (t := 4) rfl) (F12.get (t := 10) rfl) (numA A) _ rfl (zL rfl) (zy _) (zo rfl) zd ?_
  intro w13 M13
  refine hK9 _ _ (zSk fun _ hK14 => (wpIn_wide (n := 2)).1 (wpIn_region_lit ?_))
  refine wi_run (r := none) (fun c e => by cases e) (w' := w13) (zc rfl) rfl F12 rfl (.func (.yield l) #[] #[]) (run_mv _ (.inl rfl) (F12.get (t := 0) rfl)) fun _ F15 => ?_
  refine wi_run (r := none) (fun c e => by cases e) (w' := w13) (zc rfl) rfl F15 rfl (numV A) (zxa _ _ rfl (F15.get (t := 4) rfl) (M13.blk (k := 5) rfl) (numA A) (z1a rfl) Tryz.underlying27 rfl zd) fun _ F16 => ?_
  refine wi_call (r := none) (zc rfl) rfl F16 rfl rfl (zE Tryz.func74 rfl) #[numV A] (zwa (F16.get (t := 12) rfl)) ((bytes_o A w13)) ?_
  rintro v17 w17 a17 h17 F17
  have M17 := M13.newO h17.2 6 h17.1
  clear M13 h17
  obtain ⟨A17, c17, rfl⟩ := (M17.isO (k := 6) rfl).shape
  refine wi_yields (r := none) (zc rfl) rfl F17 rfl rfl (F17.get (t := 11) rfl) #[.slice A17 ((zq A)).length c17] (zwa (F17.get (t := 13) rfl)) (hyield 0 lw w17 _ (by decide) hc M17.below (M17.isO (k := 6) rfl) (fun b hb => (M17.owns (k := 6) rfl b (bfp_ofp hb))) (hre.below M17.below)) ?_ ?_
  ·intro w18 a18 re18 ko18 hc18 F18
   refine wi_run (r := none) (fun c e => by cases e) (w' := w18) (zc rfl) rfl F18 rfl (.bool false) (zfc _ _ rfl (F18.get (t := 14) rfl)) fun _ F19 => ?_
   refine hK14 _ _ (wp_cond_false (F19.get (t := 15) rfl) (wp_skip (hK8 _ _ (zR (zj (w' := w18) (zc rfl) rfl F19 rfl (.int .i64 1) (y_addI _ _ _ _ rfl (F19.get (t := 7) rfl) rfl rfl (by omega)) fun _ F20 => ?_)))))
   refine rm rfl F20 fun _ F21 => ?_
   exact ⟨1, by omega, 1, by omega, by omega, F21.sub ⟨rfl, rfl, rfl, rfl, rfl, trivial⟩, hc18, re18⟩
  ·intro w18 a18 kf18 hs18 F18
   refine wi_run (r := none) (fun c e => by cases e) (w' := w18) (zc rfl) rfl F18 rfl (.bool true) (zfc _ _ rfl (F18.get (t := 14) rfl)) fun _ F22 => ?_
   refine hK14 _ _ (wp_cond_true (F22.get (t := 15) rfl) (wp_ret ?_))
   try simp only [Exit.then, Exit.inBlock, Exit.jump]
   exact bodyPost_ret (res0 rfl) F22.defers ⟨⟨_, rfl⟩, .inr hs18⟩
 ·have LM0 := Mx.start lw
  have LM := LM0.argO 1 (hC _ _ hc).2 (fun b e => by cases e)
  clear LM0
  refine zT fun _ hK23 => zj (w' := lw) (zc rfl) rfl LF rfl (.bool true) (y_lss _ _ _ _ rfl (LF.get (t := 7) rfl) (LF.get (t := 6) rfl) (decide_eq_true (by decide))) fun _ F24 => ?_
  clear LF
  refine hK23 _ _ (zSk fun _ hK25 => wp_cond_true (F24.get (t := 8) rfl) (wp_skip (hK25 _ _ (zSk fun _ hK26 => wp_block (zT fun _ hK27 => zj (w' := lw) (zc rfl) rfl F24 rfl (.pointer (some ⟨gs, 8, none⟩)) (y_ixG 137 (s := 8) Tryz.underlying137 (by kernel_rfl) _ _ rfl (F24.get (t := 5) rfl) (F24.get (t := 7) rfl) rfl (by decide) rfl) fun _ F28 => ?_)))))
  refine zj (w' := lw) (zc rfl) rfl F28 rfl (numV B) (zxa _ _ rfl (F28.get (t := 9) rfl) (LM.roB (k := 1) rfl) (numA B) (y_part8 rfl rfl rfl rfl rfl rfl rfl rfl) Tryz.underlying27 rfl zd) fun _ F29 => ?_
  refine zh (zc rfl) rfl F29 rfl LM 5 (t := 27) (c := numA 0) (zu rfl) ?_
  intro g30 a30 w30 F30 M30
  clear F29 LM
  refine zr (zc rfl) rfl F30 M30 (k := 5) rfl _ _ _ rfl (F30.get (t := 4) rfl) (F30.get (t := 10) rfl) (numA B) _ rfl (zL rfl) (zy _) (zo rfl) zd ?_
  intro w31 M31
  refine hK27 _ _ (zSk fun _ hK32 => (wpIn_wide (n := 2)).1 (wpIn_region_lit ?_))
  refine wi_run (r := none) (fun c e => by cases e) (w' := w31) (zc rfl) rfl F30 rfl (.func (.yield l) #[] #[]) (run_mv _ (.inl rfl) (F30.get (t := 0) rfl)) fun _ F33 => ?_
  refine wi_run (r := none) (fun c e => by cases e) (w' := w31) (zc rfl) rfl F33 rfl (numV B) (zxa _ _ rfl (F33.get (t := 4) rfl) (M31.blk (k := 5) rfl) (numA B) (z1a rfl) Tryz.underlying27 rfl zd) fun _ F34 => ?_
  refine wi_call (r := none) (zc rfl) rfl F34 rfl rfl (zE Tryz.func74 rfl) #[numV B] (zwa (F34.get (t := 12) rfl)) ((bytes_o B w31)) ?_
  rintro v35 w35 a35 h35 F35
  have M35 := M31.newO h35.2 6 h35.1
  clear M31 h35
  obtain ⟨A35, c35, rfl⟩ := (M35.isO (k := 6) rfl).shape
  refine wi_yields (r := none) (zc rfl) rfl F35 rfl rfl (F35.get (t := 11) rfl) #[.slice A35 ((zq B)).length c35] (zwa (F35.get (t := 13) rfl)) (hyield 1 lw w35 _ (by decide) hc M35.below (M35.isO (k := 6) rfl) (fun b hb => (M35.owns (k := 6) rfl b (bfp_ofp hb))) (hre.below M35.below)) ?_ ?_
  ·intro w36 a36 re36 ko36 hc36 F36
   refine wi_run (r := none) (fun c e => by cases e) (w' := w36) (zc rfl) rfl F36 rfl (.bool false) (zfc _ _ rfl (F36.get (t := 14) rfl)) fun _ F37 => ?_
   refine hK32 _ _ (wp_cond_false (F37.get (t := 15) rfl) (wp_skip (hK26 _ _ (zR (zj (w' := w36) (zc rfl) rfl F37 rfl (.int .i64 2) (y_addI _ _ _ _ rfl (F37.get (t := 7) rfl) rfl rfl (by omega)) fun _ F38 => ?_)))))
   refine rm rfl F38 fun _ F39 => ?_
   exact ⟨0, by omega, 2, by omega, by omega, F39.sub ⟨rfl, rfl, rfl, rfl, rfl, trivial⟩, hc36, re36⟩
  ·intro w36 a36 kf36 hs36 F36
   refine wi_run (r := none) (fun c e => by cases e) (w' := w36) (zc rfl) rfl F36 rfl (.bool true) (zfc _ _ rfl (F36.get (t := 14) rfl)) fun _ F40 => ?_
   refine hK32 _ _ (wp_cond_true (F40.get (t := 15) rfl) (wp_ret ?_))
   try simp only [Exit.then, Exit.inBlock, Exit.jump]
   exact bodyPost_ret (res0 rfl) F40.defers ⟨⟨_, rfl⟩, .inr hs36⟩
 ·have LM0 := Mx.start lw
  have LM := LM0.argO 1 (hC _ _ hc).2 (fun b e => by cases e)
  clear LM0
  refine zT fun _ hK41 => zj (w' := lw) (zc rfl) rfl LF rfl (.bool false) (y_lss _ _ _ _ rfl (LF.get (t := 7) rfl) (LF.get (t := 6) rfl) (decide_eq_false (by decide))) fun _ F42 => ?_
  clear LF
  refine hK41 _ _ (zSk fun _ hK43 => wp_cond_false (F42.get (t := 8) rfl) (wp_exit ?_))
  simp only [Exit.then, Exit.inBlock, ↓reduceIte, Nat.reduceEqDiff]
  try simp only [Exit.then, Exit.inBlock, Exit.jump]
  exact bodyPost_end (res0 rfl) F42.defers ⟨⟨_, rfl⟩, .inl ⟨hre, hc⟩⟩
end Go.Proofs.YtcfepoopkfhojaaGreat
