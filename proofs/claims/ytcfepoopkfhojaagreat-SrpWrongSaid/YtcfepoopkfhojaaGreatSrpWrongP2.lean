/- What SrpWrong stands on, part 2. -/
import Derived.StillTail
import Derived.Barred
import Derived.Deep.CutRange
import Derived.Laws.AppendOwn
import Derived.Laws.AppendOwnNone
import Derived.Laws.IdiomStrings
import Derived.Deep.AppendLies
import Derived.Deep.RegionHeld3
import Derived.OpenShut
import Derived.Shelf.Abstract
import Derived.ScopeJumps
import Derived.Tactics
import Derived.Test.YtcfepoopkfhojaaGreatSrpWrongP1
set_option maxRecDepth 100000
set_option maxHeartbeats 8000000
set_option linter.unusedVariables false
set_option linter.unusedSimpArgs false
namespace Go.Proofs.YtcfepoopkfhojaaGreat
open Go.ChangeShapes Go.WideShapes Go.ChangeAt Go.RowKit
def calm : List Oper → List Oper
 | [] => []
 | [t] => [{ t with op := .move (.const undef) }]
 | o :: p :: rest => o :: calm (p :: rest)
def headOps : List Oper → List Oper
 | [] => []
 | [_] => []
 | o :: p :: rest => o :: headOps (p :: rest)
theorem calm_spec : ∀ (l : List Oper) (t : Oper), calm (l ++ [t]) = l ++ [{ t with op := .move (.const undef) }]
 | [], t => rfl
 | [o], t => rfl
 | o :: p :: l, t => by
  have := calm_spec (p :: l) t
  simp only [List.cons_append, calm] at this ⊢
  rw [this]
theorem head_spec : ∀ (l : List Oper) (t : Oper), headOps (l ++ [t]) = l
 | [], t => rfl
 | [o], t => rfl
 | o :: p :: l, t => by
  have := head_spec (p :: l) t
  simp only [List.cons_append, headOps] at this ⊢
  rw [this]
def backB (ops : Array Oper) : Bool := (List.range ops.size).all fun i => ((ops[i]?).map fun o => o.after.all fun e => !Region.binds .any e || decide (e.on < i)).getD true
def sinkB (ops : Array Oper) (n : Nat) : Bool := (List.range n).all fun i => Region.waitsFor .any ops n i
theorem backB_spec {ops : Array Oper} (h : backB ops = true) {i : Nat} {o : Oper} (ho : ops[i]? = some o) : ∀ e ∈ o.after, Region.binds .any e = true → e.on < i := by
 intro e he hb
 have hi : i < ops.size := (Array.getElem?_eq_some_iff.1 ho).1
 have h1 := List.all_eq_true.1 h i (List.mem_range.2 hi)
 rw [ho] at h1
 simp only [Option.map_some, Option.getD_some, Array.all_eq_true_iff_forall_mem] at h1
 have h2 := h1 e he
 simp [hb] at h2
 exact h2
theorem zcb {ops : Array Oper} (hE : backB ops = true) {listed : Array Bool} (hs : listed.size = ops.size) : ∀ (n : Nat), n < ops.size → listed.getD n true = false → Region.ready .any ops listed ≠ [] := by
 intro n
 induction n using Nat.strongRecOn with
 | _ n ih =>
  intro hn hu h0
  obtain ⟨o, ho⟩ : ∃ o, ops[n]? = some o := ⟨ops[n], Array.getElem?_eq_getElem hn⟩
  by_cases hall : ∀ e ∈ o.after, Region.binds .any e = true → listed.getD e.on false = true
  ·have : n ∈ Region.ready .any ops listed := mem_ready.2 ⟨hu, o, ho, hall⟩
   rw [h0] at this
   cases this
  ·obtain ⟨e, he⟩ := Classical.not_forall.1 hall
   obtain ⟨he1, he2⟩ := Classical.not_imp.1 he
   obtain ⟨hb, hl⟩ := Classical.not_imp.1 he2
   have hlt := backB_spec hE ho e he1 hb
   refine ih e.on hlt (by omega) ?_ h0
   have : listed.getD e.on false = false := by simpa using hl
   exact getD_in (by omega) this
section
variable {P : Program} {C : World → Prop} {l : List Oper} {t : Oper} {Q : Exit → Act → World → Prop}
theorem calm_get (i : Nat) : (l ++ [{ t with op := .move (.const undef) }] : List Oper).toArray[i]? = ((l ++ [t]).toArray[i]?).map fun o => if i = l.length then { o with op := .move (.const undef) } else o := by
 simp only [List.getElem?_toArray]
 by_cases h : i < l.length
 ·rw [List.getElem?_append_left h, List.getElem?_append_left h]
  have hne : ¬ i = l.length := by omega
  cases l[i]? <;> simp [hne]
 ·by_cases h2 : i = l.length
  ·subst h2; simp
  ·rw [List.getElem?_eq_none (by simp; omega), List.getElem?_eq_none (by simp; omega)]; rfl
theorem calm_ready (listed : Array Bool) : Region.ready .any (l ++ [{ t with op := .move (.const undef) }] : List Oper).toArray listed = Region.ready .any (l ++ [t]).toArray listed := by
 unfold Region.ready
 have hsz : (l ++ [{ t with op := .move (.const undef) }] : List Oper).toArray.size = (l ++ [t]).toArray.size := by simp
 rw [hsz]
 apply List.filter_congr
 intro i hi
 rw [calm_get]
 cases (l ++ [t]).toArray[i]? with
 | none => rfl
 | some o => simp only [Option.map_some]; split <;> rfl
theorem calm_yielded (tmps : Array Value) : yielded (l ++ [{ t with op := .move (.const undef) }] : List Oper).toArray tmps = yielded (l ++ [t]).toArray tmps := by
 funext j
 unfold yielded
 rw [calm_get]
 cases (l ++ [t]).toArray[j]? with
 | none => rfl
 | some o =>
  simp only [Option.map_some]
  by_cases hj : j = l.length
  ·rw [if_pos hj]; rfl
  ·rw [if_neg hj]
theorem getD_set_same {listed : Array Bool} {n : Nat} : (listed.setIfInBounds n true).getD n true = true := by
 by_cases h : n < listed.size
 ·simp [h]
 ·simp [Array.getElem?_eq_none (by simpa using h : listed.size ≤ n)]
theorem wpAny_of_calm (hE : backB (l ++ [t]).toArray = true) (hS : sinkB (l ++ [t]).toArray l.length = true) (hd : t.dst = none) (hg : t.guard = none) :
  ∀ (fuel : Nat) (listed : Array Bool) (a : Act) (w : World), C w → listed.size = (l ++ [t]).toArray.size → listed.getD l.length true = false →
   wpAnyQ P .any (l ++ [{ t with op := .move (.const undef) }] : List Oper).toArray C (fun a' => ∀ w', C w' → wpList P (l ++ [t]).toArray Q [t] a' w') fuel listed a →
   wpAny P .any (l ++ [t]).toArray Q fuel listed a w := by
 intro fuel
 induction fuel with
 | zero =>
  intro listed a w hC hs hu h
  have h1 := h.1
  rw [calm_ready] at h1
  exact absurd h1 (zcb hE hs l.length (by simp) hu)
 | succ fuel ih =>
  intro listed a w hC hs hu h
  refine ⟨fun h0 => absurd h0 (zcb hE hs l.length (by simp) hu), fun i hi => ?_⟩
  have h2 := h.2 i (by rw [calm_ready]; exact hi)
  have hsz : (listed.setIfInBounds i true).size = (l ++ [t]).toArray.size := by simpa using hs
  by_cases hin : i = l.length
  ·subst hin
   have ht : (l ++ [t]).toArray[l.length]? = some t := by simp
   have ht' : (l ++ [{ t with op := .move (.const undef) }] : List Oper).toArray[l.length]? = some { t with op := .move (.const undef) } := by simp
   have hall : Region.ready .any (l ++ [t]).toArray (listed.setIfInBounds l.length true) = [] := by
    apply List.eq_nil_iff_forall_not_mem.2
    intro j hj
    obtain ⟨hju, oj, hoj, _⟩ := mem_ready.1 hj
    obtain ⟨_, on, hon, hwait⟩ := mem_ready.1 hi
    have : on = t := Option.some.inj (hon.symm.trans ht)
    subst this
    have hjlt : j < (l ++ [on]).toArray.size := (Array.getElem?_eq_some_iff.1 hoj).1
    by_cases hjn : j = l.length
    ·subst hjn
     rw [getD_set_same] at hju
     cases hju
    ·have hjl : j < l.length := by simp at hjlt; omega
     have h3 := List.all_eq_true.1 hS j (List.mem_range.2 hjl)
     obtain ⟨o', ho', e, he, hb, hon'⟩ := Region.waitsFor_spec h3
     have : o' = on := Option.some.inj (ho'.symm.trans ht)
     subst this
     have h4 := hwait e he hb
     rw [hon'] at h4
     rw [getD_set_ne true (fun e => hjn e.symm)] at hju
     have := getD_both hju
     rw [this] at h4
     cases h4
   have hT : ∀ w', C w' → wpList P (l ++ [t]).toArray Q [t] a w' := by
    unfold qOp at h2
    rw [ht'] at h2
    have hw : Region.wanted { t with op := .move (.const undef) } (yielded (l ++ [{ t with op := .move (.const undef) }] : List Oper).toArray a.tmps) = true := by simp [Region.wanted, hg]
    dsimp only at h2
    rw [if_pos hw] at h2
    obtain ⟨v, _, h3⟩ := h2
    have e : a.put t.dst v = a := by rw [hd]; rfl
    change wpAnyQ _ _ _ _ _ _ _ (a.put t.dst v) at h3
    rw [e] at h3
    cases fuel with
    | zero => exact h3.2
    | succ f => exact h3.1 (by rw [calm_ready]; exact hall)
   have h5 := hT w hC
   unfold wpList at h5
   unfold wpOp
   simp only [ht]
   simp only [Region.wanted, hg, if_true] at h5 ⊢
   refine h5.imp (Oper.wp_mono fun a' w' h6 => ?_) id
   have h7 : Q .normal a' w' := h6
   cases fuel with
   | zero => exact ⟨hall, h7⟩
   | succ f => exact ⟨fun _ => h7, fun j hj => by rw [hall] at hj; cases hj⟩
  ·have hq : qOp P (l ++ [t]).toArray C i (wpAnyQ P .any (l ++ [{ t with op := .move (.const undef) }] : List Oper).toArray C (fun a' => ∀ w', C w' → wpList P (l ++ [t]).toArray Q [t] a' w') fuel (listed.setIfInBounds i true)) a := by
    unfold qOp at h2 ⊢
    rw [calm_get, calm_yielded] at h2
    cases ho : (l ++ [t]).toArray[i]? with
    | none => rw [ho] at h2; exact h2
    | some o =>
     rw [ho] at h2
     simp only [Option.map_some, if_neg hin] at h2
     exact h2
   refine wpOp_of_qOp hC (fun a' w' hw' h6 => ih _ a' w' hw' hsz ?_ h6) hq
   rw [getD_set_ne true hin]
   exact hu
theorem wpQuiet_mono' {ops : Array Oper} {K K' : Act → Prop} (hk : ∀ a, K a → K' a) : ∀ (l : List Oper) (a : Act), wpQuiet P ops C K l a → wpQuiet P ops C K' l a
 | [], a, h => hk a h
 | o :: l, a, h => by
  unfold wpQuiet at h ⊢
  split
  ·rename_i hw
   rw [if_pos hw] at h
   exact Oper.quiet_mono (fun a' h' => wpQuiet_mono' hk l a' h') h
  ·rename_i hw
   rw [if_neg hw] at h
   exact wpQuiet_mono' hk l _ h
theorem wpQuiet_append {ops : Array Oper} {K : Act → Prop} : ∀ (l : List Oper) (r : List Oper) (a : Act), wpQuiet P ops C (fun a' => wpQuiet P ops C K r a') l a → wpQuiet P ops C K (l ++ r) a
 | [], r, a, h => h
 | o :: l, r, a, h => by
  rw [List.cons_append]
  unfold wpQuiet at h ⊢
  split
  ·rename_i hw
   rw [if_pos hw] at h
   exact Oper.quiet_mono (fun a' h' => wpQuiet_append l r a' h') h
  ·rename_i hw
   rw [if_neg hw] at h
   exact wpQuiet_append l r _ h
end
def lastOk (L : List Oper) : Bool := (L.getLast?.map fun t => t.dst.isNone && t.guard.isNone).getD false
def tailOps (L : List Oper) : List Oper := L.drop (headOps L).length
theorem wp_region_tail {P : Program} {id : Nat} {Q : Exit → Act → World → Prop} {a : Act} {W : World} {L : List Oper} (hm : P.follows .mixedOrders = true) (hB : Region.lexB .any (calm L).toArray = true) (hE : backB L.toArray = true)
  (hS : sinkB L.toArray (headOps L).length = true) (hO : lastOk L = true)
  (h : wpQuiet P (calm L).toArray (fun w' => ∃ x : Later W, w' = x.w) (fun a' => ∀ x : Later W, wpList P L.toArray Q (tailOps L) a' x.w) (headOps L) a) : (Code.region id L.toArray true).wp P Q a W := by
 rcases List.eq_nil_or_concat L with rfl | ⟨l, t, rfl⟩
 ·cases hO
 rw [List.concat_eq_append] at *
 rw [head_spec] at hS h
 rw [calm_spec] at hB h
 have ht : tailOps (l ++ [t]) = [t] := by unfold tailOps; rw [head_spec]; simp
 rw [ht] at h
 have hO' : t.dst = none ∧ t.guard = none := by
  unfold lastOk at hO
  simp at hO
  exact hO
 obtain ⟨hd, hg⟩ := hO'
 refine wp_region_any hm (wpAny_of_calm (C := fun w' => ∃ x : Later W, w' = x.w) hE hS hd hg _ _ _ _ ⟨⟨_, zta W⟩, rfl⟩ (by simp) (by simp) ?_)
 simp only [Region.lexB, Bool.and_eq_true] at hB
 have e : (fun a' => ∀ w', (∃ x : Later W, w' = x.w) → wpList P (l ++ [t]).toArray Q [t] a' w') = (fun a' => ∀ x : Later W, wpList P (l ++ [t]).toArray Q [t] a' x.w) := by
  funext a'
  apply propext
  exact ⟨fun h x => h _ ⟨x, rfl⟩, fun h w' ⟨x, e⟩ => by rw [e]; exact h x⟩
 rw [e]
 have hq : wpQuiet P (l ++ [{ t with op := .move (.const undef) }] : List Oper).toArray (fun w' => ∃ x : Later W, w' = x.w) (fun a' => ∀ x : Later W, wpList P (l ++ [t]).toArray Q [t] a' x.w) (l ++ [{ t with op := .move (.const undef) }]) a := by
  refine wpQuiet_append l _ a ?_
  have h2 : ∀ a', (∀ x : Later W, wpList P (l ++ [t]).toArray Q [t] a' x.w) → wpQuiet P (l ++ [{ t with op := .move (.const undef) }] : List Oper).toArray (fun w' => ∃ x : Later W, w' = x.w) (fun a' => ∀ x : Later W, wpList P (l ++ [t]).toArray Q [t] a' x.w) [{ t with op := .move (.const undef) }] a' := by
   intro a' h'
   have hw : Region.wanted { t with op := .move (.const undef) } (yielded (l ++ [{ t with op := .move (.const undef) }] : List Oper).toArray a'.tmps) = true := by simp [Region.wanted, hg]
   refine BigFrame.wpQuiet_want hw fun K hK => BigFrame.quiet_move (.const undef) rfl ?_
   refine hK _ ?_
   have e : a'.put t.dst (a'.eval (.const undef)) = a' := by rw [hd]; rfl
   show wpQuiet _ _ _ _ [] (a'.put t.dst (a'.eval (.const undef)))
   rw [e]
   exact h'
  exact wpQuiet_mono' h2 l a h
 have := wpAnyQ_lex (C := fun w' => ∃ x : Later W, w' = x.w) (md := .any) hB.1 (l ++ [{ t with op := .move (.const undef) }]) 0 (Array.replicate (l ++ [{ t with op := .move (.const undef) }] : List Oper).toArray.size false) a (by simp) (by simpa using hB.2) hq
 simpa using this
end Go.Proofs.YtcfepoopkfhojaaGreat
namespace Go.Proofs.YtcfepoopkfhojaaGreat
open Go.ChangeShapes Go.WideShapes Go.ChangeAt Go.RowKit
section
variable {P : Program} {md : Region.Mode} {ops : Array Oper} {Q : Exit → Act → World → Prop}
theorem wpOp_mono {i : Nat} {K K' : Act → World → Prop} {a : Act} {w : World} (h : ∀ a w, K a w → K' a w) (hh : wpOp P ops Q i K a w) : wpOp P ops Q i K' a w := by
 unfold wpOp at *
 cases ho : ops[i]? with
 | none => rw [ho] at hh; exact h _ _ hh
 | some o =>
  rw [ho] at hh
  dsimp only at hh ⊢
  split
  ·rename_i hw
   rw [if_pos hw] at hh
   exact hh.imp (Oper.wp_mono h) id
  ·rename_i hw
   rw [if_neg hw] at hh
   exact h _ _ hh
theorem count_listed {listed : Array Bool} {i : Nat} (h : listed.getD i true = false) : (listed.setIfInBounds i true).toList.count false + 1 = listed.toList.count false := by
 have hi : i < listed.size := by
  refine Nat.lt_of_not_le fun hn => ?_
  rw [Array.getD_eq_getD_getElem?, Array.getElem?_eq_none hn] at h
  cases h
 have he : listed.toList[i]'(by simpa using hi) = false := by
  rw [Array.getD_eq_getD_getElem?, Array.getElem?_eq_getElem hi] at h
  simpa using h
 have hm : false ∈ listed.toList := by rw [← he]; exact List.getElem_mem _
 have hp := List.count_pos_iff.2 hm
 rw [Array.toList_setIfInBounds, List.count_set (by simpa using hi), he, if_pos (by decide), if_neg (by decide)]
 omega
theorem wpAny_inv (Inv : Array Bool → Act → World → Prop)
  (hstep : ∀ listed a w i, listed.size = ops.size → Inv listed a w → i ∈ Region.ready md ops listed → wpOp P ops Q i (fun a' w' => Inv (listed.setIfInBounds i true) a' w') a w)
  (hend : ∀ listed a w, listed.size = ops.size → Inv listed a w → Region.ready md ops listed = [] → Q .normal a w) :
  ∀ (fuel : Nat) (listed : Array Bool) (a : Act) (w : World), listed.size = ops.size → listed.toList.count false ≤ fuel → Inv listed a w → wpAny P md ops Q fuel listed a w := by
 intro fuel
 induction fuel with
 | zero =>
  intro listed a w hs hc hI
  have h0 : Region.ready md ops listed = [] := by
   apply List.eq_nil_iff_forall_not_mem.2
   intro j hj
   have := count_listed (mem_ready.1 hj).1
   omega
  exact ⟨h0, hend listed a w hs hI h0⟩
 | succ fuel ih =>
  intro listed a w hs hc hI
  refine ⟨fun h0 => hend listed a w hs hI h0, fun i hi => ?_⟩
  refine wpOp_mono (fun a' w' h' => ih _ a' w' (by simpa using hs) ?_ h') (hstep listed a w i hs hI hi)
  have := count_listed (mem_ready.1 hi).1
  omega
end
theorem wp_region_inv {P : Program} {ops : Array Oper} {Q : Exit → Act → World → Prop} {id : Nat} {a : Act} {w : World} (hm : P.follows .mixedOrders = true) (Inv : Array Bool → Act → World → Prop)
  (hstart : Inv (Array.replicate ops.size false) a w.drew)
  (hstep : ∀ listed a w i, listed.size = ops.size → Inv listed a w → i ∈ Region.ready .any ops listed → wpOp P ops Q i (fun a' w' => Inv (listed.setIfInBounds i true) a' w') a w)
  (hend : ∀ listed a w, listed.size = ops.size → Inv listed a w → Region.ready .any ops listed = [] → Q .normal a w) : (Code.region id ops true).wp P Q a w :=
 wp_region_any hm (wpAny_inv Inv hstep hend _ _ _ _ (by simp) (by simp [List.count_replicate]) hstart)
end Go.Proofs.YtcfepoopkfhojaaGreat
namespace Go.Proofs.YtcfepoopkfhojaaGreat
open Go.ChangeShapes Go.WideShapes Go.ChangeAt Go.RowKit
/-! One call ends in one value. -/
def lastStop (P : Program) : Frame := { Frame.ofRow P "" #[] .normal with todo := [.extern "" #[], .code (.refuse "")] }
theorem lastStop_ends (P : Program) (v : Value) (w : World) : ∃ o, step P (lone ((lastStop P).finish v) [] w) = .ended o w :=
 ⟨_, step_lone_ended (by simp only [lastStop, Frame.ofRow, Frame.finish, stepG, stepG.exec]; rfl)⟩
theorem calls_reach {P : Program} {f : FuncId} {args : Array Value} {w : World} {v : Value} {R : World → Prop} (h : Calls P f args w fun e w' => e = .returned v ∧ R w') :
  ∃ n w', runN P n (lone (Frame.enter P f args .normal) [lastStop P] w) = .next (lone ((lastStop P).finish v) [] w') := by
 obtain ⟨e, w', fr, ⟨he, hR⟩, hc, hfn, hl⟩ := h [lastStop P]
 subst he
 obtain ⟨n, hn⟩ := hc
 refine ⟨n + 1, w', ?_⟩
 rw [runN_add, hn]
 simp only [runN, step_leave_returned hl]
theorem runN_past {P : Program} {m : Machine} {o : Outcome} {w : World} (h : step P m = .ended o w) : ∀ n, n ≠ 0 → ∀ m', runN P n m ≠ .next m'
 | 0, hn, _ => absurd rfl hn
 | n + 1, _, m' => by simp only [runN, h]; exact fun h => by cases h
theorem calls_det {P : Program} {f : FuncId} {args : Array Value} {w : World} {v u : Value} {R S : World → Prop} (h : Calls P f args w fun e w' => e = .returned v ∧ R w')
  (k : Calls P f args w fun e w' => e = .returned u ∧ S w') : v = u := by
 obtain ⟨n, w1, hn⟩ := calls_reach h
 obtain ⟨m, w2, hm⟩ := calls_reach k
 have key : ∀ (n m : Nat) (v u : Value) (w1 w2 : World), n ≤ m → runN P n (lone (Frame.enter P f args .normal) [lastStop P] w) = .next (lone ((lastStop P).finish v) [] w1) →
   runN P m (lone (Frame.enter P f args .normal) [lastStop P] w) = .next (lone ((lastStop P).finish u) [] w2) → v = u := by
  intro n m v u w1 w2 hle hn hm
  obtain ⟨c, rfl⟩ := Nat.exists_eq_add_of_le hle
  rw [runN_add, hn] at hm
  by_cases hc : c = 0
  ·subst hc
   simp only [runN] at hm
   have := congrArg (fun s => match s with | Stepped.next m => (m.gs[0]?).map fun (g : Goroutine) => g.frame.tmps | _ => none) hm
   simpa [lone, lastStop, Frame.ofRow, Frame.finish] using this
  ·obtain ⟨o, ho⟩ := lastStop_ends P v w1
   exact absurd hm (runN_past ho c hc _)
 rcases Nat.le_total n m with hle | hle
 ·exact key n m v u w1 w2 hle hn hm
 ·exact (key m n u v w2 w1 hle hm hn).symm
theorem quietAt_det {P : Program} {o : Oper} {a : Act} {C D : World → Prop} {w : World} {v u : Value} (h : o.quietAt P a C w v) (k : o.quietAt P a D w u) : v = u := by
 unfold Oper.quietAt at h k
 generalize (execOp a.eval o).run P w = r at *
 cases r with
 | halt x w' => simp only [Oper.quietUpon] at h
 | ok n w' =>
  cases n <;> simp only [Oper.quietUpon] at h k
  case value x => exact h.2.symm.trans k.2
  case skip => exact h.2.trans k.2.symm
  case enter f args =>
   obtain ⟨e, h1⟩ := h
   subst e
   exact calls_det h1 k.2
theorem zyb {w : World} {b : Nat} {o : Obj} (h : w.heap[b]? = some o) : b < w.heap.size := (Array.getElem?_eq_some_iff.1 h).1
theorem num_new (o : Oper) (a : Act) (w : World) (h : o.op = .alloc 27) : (execOp a.eval o).run Tryz.prog w = .ok (.value (.pointer (some ⟨w.heap.size, 0, none⟩)))
  (w.alloc (.cells #[Value.int .u32 0, .int .u32 0, .int .u32 0, .int .u32 0, .int .u32 0, .int .u32 0, .int .u32 0, .int .u32 0] 27)) := by
 unfold execOp
 simp only [h]
 kernel_rfl
theorem zbb {b g : Nat} (h : b ≠ g) : some b ≠ some g := fun e => h (Option.some.inj e)
/-! The calm region: what lays a block, and what stores behind, made harmless. -/
def isNew (o : Oper) : Bool := match o.op with | .alloc _ => true | _ => false
def hush (o : Oper) : Oper := { o with op := .move (.const undef) }
def hushT (o : Oper) : Oper := { o with op := .move (match o.dst with | some d => .tmp d | none => .const undef) }
def calmN : Nat → List Oper → List Oper
 | _, [] => []
 | 0, o :: l => hushT o :: calmN 0 l
 | n + 1, o :: l => (match isNew o with | true => hush o | false => o) :: calmN n l
theorem calmN_get : ∀ (n : Nat) (L : List Oper) (i : Nat), (calmN n L)[i]? = (L[i]?).map fun o => if i < n then (if isNew o = false then o else hush o) else hushT o
 | n, [], i => by simp [calmN]
 | 0, o :: l, 0 => by simp [calmN]
 | 0, o :: l, i + 1 => by
  have := calmN_get 0 l i
  simp only [calmN, List.getElem?_cons_succ, this]
  simp
 | n + 1, o :: l, 0 => by cases h : isNew o <;> simp [calmN, h]
 | n + 1, o :: l, i + 1 => by
  have := calmN_get n l i
  simp only [calmN, List.getElem?_cons_succ, this]
  simp
theorem calmN_length : ∀ (n : Nat) (L : List Oper), (calmN n L).length = L.length
 | _, [] => rfl
 | 0, o :: l => congrArg (· + 1) (calmN_length 0 l)
 | n + 1, o :: l => congrArg (· + 1) (calmN_length n l)
theorem calmN_ready (n : Nat) (L : List Oper) (listed : Array Bool) : Region.ready .any (calmN n L).toArray listed = Region.ready .any L.toArray listed := by
  unfold Region.ready
  rw [show (calmN n L).toArray.size = L.toArray.size by simp [calmN_length]]
  apply List.filter_congr
  intro i hi
  simp only [List.getElem?_toArray, calmN_get]
  cases L[i]? with
  | none => rfl
  | some o => simp only [Option.map_some]; repeat' split
              all_goals rfl
theorem calmN_yielded (n : Nat) (L : List Oper) (tmps : Array Value) : yielded (calmN n L).toArray tmps = yielded L.toArray tmps := by
 funext j
 unfold yielded
 simp only [List.getElem?_toArray, calmN_get]
 cases L[j]? with
 | none => rfl
 | some o =>
  simp only [Option.map_some]
  by_cases h1 : j < n
  ·by_cases h2 : isNew o = false
   ·rw [if_pos h1, if_pos h2]
   ·rw [if_pos h1, if_neg h2]; rfl
  ·rw [if_neg h1]; rfl
def layF (p : Nat → Option Nat) : List Oper → Nat → Act → Act
 | [], _, a => a
 | o :: l, k, a => layF p l (k + 1) (match p k with | some b => a.put o.dst (.pointer (some ⟨b, 0, none⟩)) | none => a)
def layN (p : Nat → Nat) : List Oper → Nat → Act → Act
 | [], _, a => a
 | o :: l, k, a => layN p l (k + 1) (match isNew o with | true => a.put o.dst (.pointer (some ⟨p k, 0, none⟩)) | false => a)
theorem layF_put {p : Nat → Option Nat} {dst : Option Tmp} {v : Value} : ∀ (L : List Oper) (k : Nat) (a : Act), (∀ j o, L[j]? = some o → p (k + j) ≠ none → ∀ d, o.dst = some d → dst ≠ some d) →
  layF p L k (a.put dst v) = (layF p L k a).put dst v
 | [], _, _, _ => rfl
 | o :: l, k, a, h => by
  have h0 := h 0 o (by simp)
  have hr : ∀ j o', l[j]? = some o' → p (k + 1 + j) ≠ none → ∀ d, o'.dst = some d → dst ≠ some d := fun j o' ho' hp => h (j + 1) o' (by simpa using ho') (by rwa [show k + (j + 1) = k + 1 + j by omega])
  unfold layF
  cases hp : p k with
  | none => exact layF_put l (k + 1) a hr
  | some b =>
   dsimp only
   rw [← Act.put_comm a (x := o.dst) (y := dst) _ _ (h0 (by simp [hp]))]
   exact layF_put l (k + 1) _ hr
theorem put_put (a : Act) (d : Option Tmp) (u v : Value) : (a.put d u).put d v = a.put d v := by
 cases d with
 | none => rfl
 | some d => simp [Act.put]
theorem put_self (a : Act) (d : Option Tmp) : a.put d (a.eval (match d with | some d => .tmp d | none => .const undef)) = a := by
 cases d with
 | none => rfl
 | some d =>
  simp only [Act.put, Act.eval]
  have : a.tmps.setIfInBounds d (a.tmps.getD d undef) = a.tmps := by
   apply Array.ext_getElem?
   intro i
   by_cases h : d = i
   ·subst h
    by_cases hs : d < a.tmps.size <;> simp [hs]
   ·rw [Array.getElem?_setIfInBounds_ne h]
  rw [this]
theorem layF_congr {p q : Nat → Option Nat} : ∀ (L : List Oper) (k : Nat) (a : Act), (∀ j, j < L.length → p (k + j) = q (k + j)) → layF p L k a = layF q L k a
 | [], _, _, _ => rfl
 | o :: l, k, a, h => by
  unfold layF
  rw [show p k = q k from h 0 (by simp)]
  exact layF_congr l (k + 1) _ fun j hj => by have := h (j + 1) (by simp; omega); rwa [show k + (j + 1) = k + 1 + j by omega] at this
theorem layF_new {p : Nat → Option Nat} {b : Nat} {o : Oper} : ∀ (L : List Oper) (k i : Nat) (a : Act), L[i]? = some o → p (k + i) = none →
  (∀ j oj, L[j]? = some oj → j ≠ i → p (k + j) ≠ none → ∀ d, oj.dst = some d → o.dst ≠ some d) →
  layF (fun x => if x = k + i then some b else p x) L k a = (layF p L k a).put o.dst (.pointer (some ⟨b, 0, none⟩))
 | [], _, _, _, h, _, _ => by cases h
 | q :: l, k, 0, a, h, hp, hd => by
  simp only [List.getElem?_cons_zero, Option.some.injEq] at h
  subst h
  have hp' : p k = none := hp
  unfold layF
  simp only [Nat.add_zero, if_true, hp']
  rw [layF_congr (q := p) l (k + 1) _ (fun j hj => if_neg (by omega))]
  exact layF_put l (k + 1) a fun j o' ho' hp'' => hd (j + 1) o' (by simpa using ho') (by omega) (by rwa [show k + (j + 1) = k + 1 + j by omega])
 | q :: l, k, i + 1, a, h, hp, hd => by
  have hne : ¬ k = k + (i + 1) := by omega
  unfold layF
  simp only [if_neg hne]
  rw [show k + (i + 1) = k + 1 + i by omega] at hp ⊢
  exact layF_new l (k + 1) i _ (by simpa using h) hp fun j oj hoj hne' hp' => hd (j + 1) oj (by simpa using hoj) (by omega) (by rwa [show k + (j + 1) = k + 1 + j by omega])
theorem layF_eval {p : Nat → Option Nat} {o : Oper} {ops : Array Oper} (hs : ∀ cs b, o.op ≠ .select cs b) : ∀ (L : List Oper) (k : Nat) (a : Act),
  (∀ j oj, L[j]? = some oj → p (k + j) ≠ none → ∀ d, oj.dst = some d → d ∉ o.looksAt ops) →
  execOp (layF p L k a).eval o = execOp a.eval o ∧ Region.wanted o (yielded ops (layF p L k a).tmps) = Region.wanted o (yielded ops a.tmps)
 | [], _, _, _ => ⟨rfl, rfl⟩
 | q :: l, k, a, h => by
  have h0 := h 0 q (by simp)
  have hr : ∀ j o', l[j]? = some o' → p (k + 1 + j) ≠ none → ∀ d, o'.dst = some d → d ∉ o.looksAt ops := fun j o' ho' hp => h (j + 1) o' (by simpa using ho') (by rwa [show k + (j + 1) = k + 1 + j by omega])
  unfold layF
  cases hp : p k with
  | none => exact layF_eval hs l (k + 1) a hr
  | some b =>
   obtain ⟨h1, h2⟩ := layF_eval hs l (k + 1) (a.put q.dst (.pointer (some ⟨b, 0, none⟩))) hr
   exact ⟨h1.trans (execOp_put o hs a q.dst _ (h0 (by simp [hp]))), h2.trans (wanted_put o a q.dst _ (h0 (by simp [hp])))⟩
theorem layF_all {p : Nat → Option Nat} {n : Nat} : ∀ (L : List Oper) (k : Nat) (a : Act), (∀ j o, L[j]? = some o → (p (k + j) ≠ none ↔ isNew o = true)) → layF p L k a = layN (fun i => (p i).getD 0) L k a
 | [], _, _, _ => rfl
 | o :: l, k, a, h => by
  have h0 : p k ≠ none ↔ isNew o = true := h 0 o (by simp)
  have hr : ∀ j o', l[j]? = some o' → (p (k + 1 + j) ≠ none ↔ isNew o' = true) := fun j o' ho' => by
   have := h (j + 1) o' (by simpa using ho')
   rwa [show k + (j + 1) = k + 1 + j by omega] at this
  unfold layF layN
  cases hp : p k with
  | none =>
   have : isNew o = false := by
    cases hn : isNew o with
    | false => rfl
    | true => exact absurd hp (h0.2 hn)
   rw [this]
   exact layF_all (n := n) l (k + 1) a hr
  | some b =>
   rw [show isNew o = true from h0.1 (by simp [hp])]
   exact layF_all (n := n) l (k + 1) _ hr
def newsApart (L : List Oper) (n : Nat) : Bool := (List.range n).all fun i => (match L[i]? with
 | some o => !isNew o || (o.guard.isNone && (List.range n).all fun j => j == i || (match L[j]? with | some oj => o.apart L.toArray oj | none => true))
 | none => true)
def isFloat (o : Oper) : Bool := match o.op with | .extract .. => o.guard.isNone | _ => false
def floatAt (L : List Oper) (i : Nat) : Bool := match L[i]? with | some o => isFloat o | none => false
def waitB (L : List Oper) : Nat → Nat → Nat → Bool
 | 0, _, _ => false
 | f + 1, j, k => match L[j]? with
  | none => false
  | some o => o.after.any fun e => Region.binds .any e && (e.on == k || waitB L f e.on k)
def Closed (L : List Oper) (listed : Array Bool) : Prop := ∀ (j : Nat) (oj : Oper), L[j]? = some oj → listed.getD j true = true → ∀ e ∈ oj.after, Region.binds .any e = true → listed.getD e.on true = true
theorem getD_tf {listed : Array Bool} {i : Nat} (h : listed.getD i false = true) : listed.getD i true = true := by
 rw [Array.getD_eq_getD_getElem?] at h ⊢
 cases hq : listed[i]? with
 | none => rfl
 | some b => rw [hq] at h; exact h
theorem wait_listed {L : List Oper} {listed : Array Bool} (hc : Closed L listed) : ∀ (f j : Nat) (oj : Oper) (k : Nat), L[j]? = some oj → (∀ e ∈ oj.after, Region.binds .any e = true → listed.getD e.on true = true) → waitB L f j k = true → listed.getD k true = true
 | 0, _, _, _, _, _, h => by cases h
 | f + 1, j, oj, k, ho, hl, h => by
  unfold waitB at h
  simp only [ho, Array.any_eq_true, Bool.and_eq_true, Bool.or_eq_true, beq_iff_eq] at h
  obtain ⟨x, hx, hb, h⟩ := h
  have h1 := hl _ (Array.getElem_mem hx) hb
  rcases h with h | h
  ·rw [h] at h1; exact h1
  ·cases hq : L[oj.after[x].on]? with
   | none => cases f with
    | zero => cases h
    | succ f => unfold waitB at h; rw [hq] at h; cases h
   | some oq => exact wait_listed hc f _ oq k hq (hc _ oq hq h1) h
theorem closed_set {L : List Oper} {listed : Array Bool} {i : Nat} {o : Oper} (hc : Closed L listed) (hs : listed.size = L.length) (ho : L[i]? = some o) (hw : ∀ e ∈ o.after, Region.binds .any e = true → listed.getD e.on false = true) : Closed L (listed.setIfInBounds i true) := by
 intro j oj hoj hl e he hb
 have hil : i < listed.size := by rw [hs]; exact (List.getElem?_eq_some_iff.1 ho).1
 have h0 : listed.getD e.on true = true := by
  by_cases hji : i = j
  ·subst hji
   obtain rfl : o = oj := Option.some.inj (ho.symm.trans hoj)
   exact getD_tf (hw e he hb)
  ·rw [getD_set_ne true hji] at hl
   exact hc j oj hoj hl e he hb
 by_cases h4 : i = e.on
 ·rw [← h4, Array.getD_eq_getD_getElem?, Array.getElem?_setIfInBounds_self]; simp [hil]
 ·rw [getD_set_ne true h4]; exact h0
def tailsOk (L : List Oper) (n : Nat) : Bool := ((L.drop n).all fun t => t.guard.isNone && !isNew t) && ((List.range L.length).all fun i => decide (i < n) || (List.range i).all fun j => (decide (j < n) && floatAt L j) || waitB L 40 i j) && decide (n < L.length)
def floatsOk (L : List Oper) (n : Nat) : Bool := (List.range L.length).all fun i => match L[i]? with
 | some o => !isFloat o || (List.range L.length).all fun j => j == i || Region.waitsFor .any L.toArray i j || Region.waitsFor .any L.toArray j i || (match L[j]? with | some oj => o.apart L.toArray oj | none => true)
 | none => true
def typesOk (L : List Oper) (t : TypeId) : Bool := L.all fun o => match o.op with | .alloc u => decide (u = t) | _ => true
def NewsAt (W : World) (L : List Oper) (O : Obj) (p : Nat → Nat) (w : World) : Prop :=
 (∀ i o, L[i]? = some o → isNew o = true → W.heap.size ≤ p i ∧ w.heap[p i]? = some O) ∧ (∀ i j oi oj, L[i]? = some oi → L[j]? = some oj → isNew oi = true → isNew oj = true → p i = p j → i = j)
section
variable {P : Program} {L : List Oper} {n : Nat} {Q : Exit → Act → World → Prop} {W : World} {O : Obj} {t : TypeId}
def QN (P : Program) (L : List Oper) (n : Nat) (Q : Exit → Act → World → Prop) (W : World) (O : Obj) (V : World) (a : Act) : Prop :=
 ∀ x : Later V, ∀ p : Nat → Nat, NewsAt W L O p x.w → wpList P L.toArray Q (L.drop n) (layN p L 0 a) x.w
theorem getD_listed {listed : Array Bool} {i : Nat} (hi : i < listed.size) : listed.getD i true = listed.getD i false := by simp [hi]
theorem tail_run (hE : backB L.toArray = true) (hT : tailsOk L n = true) {C : World → Prop} {w0 : World} (hC : C w0) {Q' : Act → Prop} : ∀ (fuel : Nat) (listed : Array Bool) (m : Nat) (am : Act),
  listed.size = L.length → n ≤ m → (∀ j, j < L.length → (listed.getD j true = true ↔ j < m)) → wpAnyQ P .any (calmN n L).toArray C Q' fuel listed am →
  Q' am ∧ ∀ a w, wpList P L.toArray Q (L.drop m) a w → wpAny P .any L.toArray Q fuel listed a w := by
 unfold tailsOk at hT
 simp only [Bool.and_eq_true, List.all_eq_true, decide_eq_true_eq, Option.isNone_iff_eq_none, Bool.not_eq_true'] at hT
 obtain ⟨⟨hT1, hT2⟩, hT3⟩ := hT
 have hfull : ∀ (listed : Array Bool) (m : Nat), listed.size = L.length → (∀ j, j < L.length → (listed.getD j true = true ↔ j < m)) → Region.ready .any L.toArray listed = [] → L.length ≤ m := by
  intro listed m hs hl h0
  refine Nat.le_of_not_lt fun hlt => ?_
  refine zcb hE (by simpa using hs) m (by simpa using hlt) ?_ h0
  have := hl m hlt
  cases h : listed.getD m true with
  | false => rfl
  | true => exact absurd (this.1 h) (Nat.lt_irrefl _)
 have hdrop : ∀ m, L.length ≤ m → ∀ a w, wpList P L.toArray Q (L.drop m) a w → Q .normal a w := fun m hm a w h => by rw [List.drop_eq_nil_of_le hm] at h; exact h
 intro fuel
 induction fuel with
 | zero =>
  intro listed m am hs hnm hl h
  have h1 := h.1
  rw [calmN_ready] at h1
  exact ⟨h.2, fun a w hw => ⟨h1, hdrop m (hfull _ _ hs hl h1) a w hw⟩⟩
 | succ fuel ih =>
  intro listed m am hs hnm hl h
  by_cases h0 : Region.ready .any L.toArray listed = []
  ·refine ⟨h.1 (by rw [calmN_ready]; exact h0), fun a w hw => ⟨fun _ => hdrop m (hfull _ _ hs hl h0) a w hw, fun i hi => ?_⟩⟩
   rw [h0] at hi; cases hi
  ·-- the one that is ready is m
   have hone : ∀ i ∈ Region.ready .any L.toArray listed, i = m ∧ i < L.length := by
    intro i hi
    obtain ⟨hiu, o, ho, hwait⟩ := mem_ready.1 hi
    have hil : i < L.length := by simpa using (Array.getElem?_eq_some_iff.1 ho).1
    have hge : ¬ i < m := fun hlt => by rw [(hl i hil).2 hlt] at hiu; cases hiu
    refine ⟨?_, hil⟩
    rcases Nat.lt_or_ge m i with hmi | hmi
    ·exfalso
     have h3 := hT2 i (List.mem_range.2 hil)
     simp only [Bool.or_eq_true, decide_eq_true_eq] at h3
     rcases h3 with h3 | h3
     ·omega
     have h4 := List.all_eq_true.1 h3 m (List.mem_range.2 hmi)
     simp only [show ¬ m < n by omega, decide_false, Bool.false_and, Bool.false_or] at h4
     rw [List.getElem?_toArray] at ho
     have hcl : Closed L listed := fun j oj hoj hlj e he hb => by
      have hjl := (List.getElem?_eq_some_iff.1 hoj).1
      have h1 := (hl j hjl).1 hlj
      have h2 := backB_spec hE (i := j) (o := oj) (by simpa using hoj) e he hb
      exact (hl e.on (by omega)).2 (by omega)
     have h5 := wait_listed hcl 40 i o m ho (fun e he hb => getD_tf (hwait e he hb)) h4
     exact absurd ((hl m (by omega)).1 h5) (Nat.lt_irrefl _)
    ·omega
   obtain ⟨i, hi⟩ := List.exists_mem_of_ne_nil _ h0
   obtain ⟨him, hil⟩ := hone i hi
   subst him
   have h2 := h.2 i (by rw [calmN_ready]; exact hi)
   have hL : L[i]? = some L[i] := List.getElem?_eq_getElem hil
   have hd : L.drop i = L[i] :: L.drop (i + 1) := List.drop_eq_getElem_cons hil
   have ht := hT1 L[i] (by
    have : L[i] ∈ L.drop i := by rw [hd]; exact List.mem_cons_self
    rw [show L.drop n = (L.drop n) from rfl]
    have h6 : L.drop i = (L.drop n).drop (i - n) := by rw [List.drop_drop]; congr 1; omega
    rw [h6] at this
    exact List.mem_of_mem_drop this)
   have hset : ∀ j, j < L.length → ((listed.setIfInBounds i true).getD j true = true ↔ j < i + 1) := by
    intro j hj
    by_cases hji : j = i
    ·subst hji; simp [hs, hj]
    ·rw [getD_set_ne true (fun e => hji e.symm), hl j hj]; omega
   unfold qOp at h2
   rw [List.getElem?_toArray, calmN_get, hL] at h2
   simp only [Option.map_some] at h2
   rw [if_neg (Nat.not_lt.2 hnm)] at h2
   have hw : ∀ g, Region.wanted (hushT L[i]) g = true := fun g => by simp [Region.wanted, hushT, ht.1]
   rw [if_pos (hw _)] at h2
   obtain ⟨v, hv, h3⟩ := h2
   have hve : am.put (hushT L[i]).dst v = am := by
    have h7 := hv w0 hC
    unfold Oper.quietAt at h7
    have hx : (execOp am.eval (hushT L[i])).run P w0 = .ok (.value (am.eval (match L[i].dst with | some d => .tmp d | none => .const undef))) w0 := rfl
    rw [hx] at h7
    have h8 : am.eval (match L[i].dst with | some d => .tmp d | none => .const undef) = v := h7.2
    subst h8
    exact put_self am L[i].dst
   rw [hve] at h3
   obtain ⟨k1, k2⟩ := ih _ (i + 1) am (by simpa using hs) (by omega) hset h3
   refine ⟨k1, fun a w hwp => ⟨fun h0' => absurd h0' h0, fun j hj => ?_⟩⟩
   obtain ⟨hjm, _⟩ := hone j hj
   subst hjm
   rw [hd] at hwp
   unfold wpList at hwp
   unfold wpOp
   rw [List.getElem?_toArray, hL]
   have hw' : ∀ g, Region.wanted L[j] g = true := fun g => by simp [Region.wanted, ht.1]
   simp only [hw', if_true] at hwp ⊢
   exact hwp.imp (Oper.wp_mono fun a' w' h' => k2 a' w' h') id
structure OnWay (W : World) (O : Obj) (p : Nat → Option Nat) (w : World) : Prop where
 below : Below W.heap.size W w
 at_ : ∀ i b, p i = some b → W.heap.size ≤ b ∧ b < w.heap.size ∧ w.heap[b]? = some O
 inj : ∀ i j b, p i = some b → p j = some b → i = j
theorem OnWay.later {p : Nat → Option Nat} {w : World} (h : OnWay W O p w) (x : Later w) : OnWay W O p x.w :=
 ⟨h.below.trans (x.h.mono h.below.size), fun i b hb => by
  obtain ⟨h1, h2, h3⟩ := h.at_ i b hb
  exact ⟨h1, Nat.lt_of_lt_of_le h2 x.h.size, (x.h.block b h2).trans h3⟩, h.inj⟩
theorem extract_any (t : Value) (ix : Nat) : (∃ v, Instr.extract t ix = pure v) ∨ ∀ w, ∃ h w', (Instr.extract t ix).run P w = .halt h w' := by
 unfold Instr.extract
 cases t with
 | tuple vs =>
  dsimp only
  cases vs[ix]? with
  | some v => exact .inl ⟨v, rfl⟩
  | none => exact .inr fun w => ⟨_, _, rfl⟩
 | _ => exact .inr fun w => ⟨_, _, rfl⟩
theorem float_run {o : Oper} {a : Act} {C : World → Prop} {w : World} {v : Value} {t : Operand} {ix : Nat} (ho : o.op = .extract t ix) (h : o.quietAt P a C w v) (w' : World) : (execOp a.eval o).run P w' = .ok (.value v) w' := by
 unfold Oper.quietAt at h
 unfold execOp at h ⊢
 simp only [ho] at h ⊢
 rcases extract_any (P := P) (a.eval t) ix with ⟨u, e⟩ | e
 ·rw [e] at h ⊢
  have h1 : u = v := h.2
  subst h1
  rfl
 ·obtain ⟨x, w1, e⟩ := e w
  simp only [Sem.run_bind, e, Result.andThen_halt, Oper.quietUpon] at h
theorem wpAny_of_calmN (hQ : ∀ c (a : Act) (d : Tmp) v w, Q (.panic c) (a.put (some d) v) w → Q (.panic c) a w) (hF : floatsOk L n = true) (hE : backB L.toArray = true) (hT : tailsOk L n = true) (hA : newsApart L n = true) (hty : typesOk L t = true) (hsel : Region.noSelect L.toArray = true)
  (hN : ∀ (o : Oper) (a : Act) (w : World), o.op = .alloc t → (execOp a.eval o).run P w = .ok (.value (.pointer (some ⟨w.heap.size, 0, none⟩))) (w.alloc O)) :
  ∀ (fuel : Nat) (listed : Array Bool) (am : Act) (p : Nat → Option Nat) (w : World), listed.size = L.length → (∀ i o, L[i]? = some o → (p i ≠ none ↔ isNew o = true ∧ listed.getD i true = true)) →
   (∀ i, n ≤ i → i < L.length → listed.getD i true = false) → Closed L listed → OnWay W O p w → (∀ V : Later w, wpAnyQ P .any (calmN n L).toArray (fun w' => ∃ x : Later V.w, w' = x.w) (QN P L n Q W O V.w) fuel listed am) →
   wpAny P .any L.toArray Q fuel listed (layF p L 0 am) w := by
 have hT' := hT
 unfold tailsOk at hT'
 simp only [Bool.and_eq_true, List.all_eq_true, decide_eq_true_eq, Option.isNone_iff_eq_none, Bool.not_eq_true'] at hT'
 obtain ⟨⟨hT1, hT2⟩, hT3⟩ := hT'
 have hAp : ∀ i o, i < n → L[i]? = some o → isNew o = true → o.guard = none ∧ ∀ j oj, j < n → j ≠ i → L[j]? = some oj → o.apart L.toArray oj = true := by
  intro i o hi ho hn
  have h1 := List.all_eq_true.1 hA i (List.mem_range.2 hi)
  rw [ho] at h1
  simp only [hn, Bool.not_true, Bool.false_or, Bool.and_eq_true, Option.isNone_iff_eq_none, List.all_eq_true] at h1
  refine ⟨h1.1, fun j oj hj hne hoj => ?_⟩
  have h2 := h1.2 j (List.mem_range.2 hj)
  rw [hoj] at h2
  simpa [hne] using h2
 have hnew : ∀ i o, L[i]? = some o → isNew o = true → i < n := by
  intro i o ho hn
  refine Nat.lt_of_not_le fun hle => ?_
  have hil : i < L.length := (List.getElem?_eq_some_iff.1 ho).1
  have : o ∈ L.drop n := List.mem_of_getElem? (i := i - n) (by rw [List.getElem?_drop, show n + (i - n) = i by omega]; exact ho)
  rw [(hT1 o this).2] at hn
  cases hn
 intro fuel
 induction fuel with
 | zero =>
  intro listed am p w hs hp htl hcl hw H
  have h1 := (H ⟨w, Below.refl _ _⟩).1
  rw [calmN_ready] at h1
  exact absurd h1 (zcb hE (by simpa using hs) n (by simpa using hT3) (htl n (Nat.le_refl _) hT3))
 | succ fuel ih =>
  intro listed am p w hs hp htl hcl hw H
  by_cases hfl : ∃ f, f ∈ Region.ready .any L.toArray listed ∧ f < n ∧ floatAt L f = true
  ·obtain ⟨i, hi, hin, hfa⟩ := hfl
   obtain ⟨hiu, o, ho, hwait⟩ := mem_ready.1 hi
   rw [List.getElem?_toArray] at ho
   have hil : i < L.length := (List.getElem?_eq_some_iff.1 ho).1
   have hpi : p i = none := by
    cases h : p i with
    | none => rfl
    | some b =>
     have := ((hp i o ho).1 (by simp [h])).2
     rw [this] at hiu; cases hiu
   have hfo : isFloat o = true := by unfold floatAt at hfa; rw [ho] at hfa; exact hfa
   obtain ⟨hg, tv, ix, hop⟩ : o.guard = none ∧ ∃ tv ix, o.op = .extract tv ix := by
    unfold isFloat at hfo
    revert hfo
    cases h : o.op <;> simp
   have hnw : isNew o = false := by unfold isNew; rw [hop]
   have hwt : ∀ g, Region.wanted o g = true := fun g => by simp [Region.wanted, hg]
   have hset : ∀ k, n ≤ k → k < L.length → (listed.setIfInBounds i true).getD k true = false := fun k h1 h2 => by rw [getD_set_ne true (by omega)]; exact htl k h1 h2
   have hs' : (listed.setIfInBounds i true).size = L.length := by simpa using hs
   have H2 : ∀ V : Later w, qOp P (calmN n L).toArray (fun w' => ∃ x : Later V.w, w' = x.w) i (wpAnyQ P .any (calmN n L).toArray (fun w' => ∃ x : Later V.w, w' = x.w) (QN P L n Q W O V.w) fuel (listed.setIfInBounds i true)) am :=
    fun V => (H V).2 i (by rw [calmN_ready]; exact hi)
   unfold qOp at H2
   simp only [List.getElem?_toArray, calmN_get, ho, Option.map_some, calmN_yielded, hnw, if_true, if_pos hin, hwt] at H2
   obtain ⟨v, hv, hK⟩ := H2 ⟨w, Below.refl _ _⟩
   have hdis : ∀ j oj, L[j]? = some oj → p (0 + j) ≠ none → oj.apart L.toArray o = true := fun j oj hoj hpj => by
    rw [Nat.zero_add] at hpj
    have hnj := ((hp j oj hoj).1 hpj).1
    have hji : j ≠ i := fun e => by subst e; exact hpj hpi
    exact (hAp j oj (hnew j oj hoj hnj) hoj hnj).2 i o hin (Ne.symm hji) ho
   obtain ⟨he, _⟩ := layF_eval (ops := L.toArray) (p := p) (o := o) (fun cs b => Region.noSelect_spec hsel i o cs b (by rw [List.getElem?_toArray]; exact ho)) L 0 am (fun j oj hoj hpj d hd => (Oper.apart_spec (hdis j oj hoj hpj)).1 d hd)
   have hput : (layF p L 0 am).put o.dst v = layF p L 0 (am.put o.dst v) := (layF_put L 0 am (fun j oj hoj hpj d hd => (Oper.apart_spec (hdis j oj hoj hpj)).2.1 d hd)).symm
   have hp' : ∀ j oj, L[j]? = some oj → (p j ≠ none ↔ isNew oj = true ∧ (listed.setIfInBounds i true).getD j true = true) := by
    intro j oj hoj
    by_cases hji : j = i
    ·subst hji
     have : oj = o := Option.some.inj (hoj.symm.trans ho)
     subst this
     simp [hnw, hpi]
    ·rw [getD_set_ne true (fun e => hji e.symm)]; exact hp j oj hoj
   refine wpAny_first (oi := o) (v := v) (by rw [List.getElem?_toArray]; exact ho) (fun j o' cs b hj => Region.noSelect_spec hsel j o' cs b hj) (fun c a w h => ?_) fuel listed _ w ?_ hi
    (.inl ⟨hwt _, fun w' => by rw [he]; exact float_run hop (hv w ⟨⟨w, Below.refl _ _⟩, rfl⟩) w'⟩) ?_
   ·cases hd : o.dst with
    | none => rw [hd] at h; exact h
    | some d => rw [hd] at h; exact hQ c a d v w h
   ·intro j oj hoj hji hju hno
    have h1 := List.all_eq_true.1 hF i (List.mem_range.2 hil)
    rw [List.getElem?_toArray] at hoj
    simp only [ho, hfo, Bool.not_true, Bool.false_or, List.all_eq_true] at h1
    have h2 := h1 j (List.mem_range.2 (List.getElem?_eq_some_iff.1 hoj).1)
    simp only [hoj, Bool.or_eq_true, beq_iff_eq] at h2
    rcases h2 with ((h2 | h2) | h2) | h2
    ·exact absurd h2 hji
    ·obtain ⟨o', ho', e, he', hb, hon⟩ := Region.waitsFor_spec h2
     rw [List.getElem?_toArray] at ho'
     have : o' = o := Option.some.inj (ho'.symm.trans ho)
     subst this
     have h5 := hwait e he' hb
     rw [hon, ← getD_listed (by have := (List.getElem?_eq_some_iff.1 hoj).1; omega), hju] at h5
     cases h5
    ·obtain ⟨o', ho', e, he', hb, hon⟩ := Region.waitsFor_spec h2
     rw [List.getElem?_toArray] at ho'
     have : o' = oj := Option.some.inj (ho'.symm.trans hoj)
     subst this
     exact absurd hon (hno e he' hb)
    ·exact h2
   ·rw [hput]
    refine ih _ _ _ _ hs' hp' hset (closed_set hcl hs ho hwait) hw fun V => ?_
    obtain ⟨u, hu, hK'⟩ := H2 V
    have e : u = v := quietAt_det (hu V.w ⟨⟨V.w, Below.refl _ _⟩, rfl⟩) (hv V.w ⟨⟨V.w, V.h⟩, rfl⟩)
    rw [← e]
    exact hK'
  refine ⟨fun h0 => absurd h0 (zcb hE (by simpa using hs) n (by simpa using hT3) (htl n (Nat.le_refl _) hT3)), fun i hi => ?_⟩
  obtain ⟨hiu, o, ho, hwait⟩ := mem_ready.1 hi
  rw [List.getElem?_toArray] at ho
  have hil : i < L.length := (List.getElem?_eq_some_iff.1 ho).1
  have hpi : p i = none := by
   cases h : p i with
   | none => rfl
   | some b =>
    have := ((hp i o ho).1 (by simp [h])).2
    rw [this] at hiu; cases hiu
  by_cases hin : i < n
  ·have hset : ∀ k, n ≤ k → k < L.length → (listed.setIfInBounds i true).getD k true = false := fun k h1 h2 => by rw [getD_set_ne true (by omega)]; exact htl k h1 h2
   have hs' : (listed.setIfInBounds i true).size = L.length := by simpa using hs
   have H2 : ∀ V : Later w, qOp P (calmN n L).toArray (fun w' => ∃ x : Later V.w, w' = x.w) i (wpAnyQ P .any (calmN n L).toArray (fun w' => ∃ x : Later V.w, w' = x.w) (QN P L n Q W O V.w) fuel (listed.setIfInBounds i true)) am :=
    fun V => (H V).2 i (by rw [calmN_ready]; exact hi)
   unfold qOp at H2
   simp only [List.getElem?_toArray, calmN_get, ho, Option.map_some, calmN_yielded] at H2
   unfold wpOp
   rw [List.getElem?_toArray, ho]
   dsimp only
   cases hnw : isNew o with
   | true =>
    obtain ⟨hg, hap⟩ := hAp i o hin ho hnw
    simp only [hnw, Bool.true_eq_false, if_pos hin, if_false] at H2
    have hw1 : ∀ g, Region.wanted (hush o) g = true := fun g => by simp [Region.wanted, hush, hg]
    have hw2 : ∀ g, Region.wanted o g = true := fun g => by simp [Region.wanted, hg]
    simp only [hw1, if_true] at H2
    simp only [hw2, if_true]
    left
    have hop : o.op = .alloc t := by
     have h1 := List.all_eq_true.1 hty o (List.mem_of_getElem? ho)
     unfold isNew at hnw
     revert h1 hnw
     cases o.op <;> simp
    unfold Oper.wp
    rw [hN o _ w hop]
    simp only [Oper.upon]
    rw [← layF_new (p := p) (b := w.heap.size) L 0 i am ho (by simpa using hpi) (fun j oj hoj hne hpj => by
     rw [Nat.zero_add] at hpj
     have hnj := ((hp j oj hoj).1 hpj).1
     have := (Oper.apart_spec ((hAp j oj (hnew j oj hoj hnj) hoj hnj).2 i o hin (Ne.symm hne) ho)).2.1
     exact this)]
    have hpp : ∀ a, layF (fun x => if x = 0 + i then some w.heap.size else p x) L 0 a = layF (fun x => if x = 0 + i then some w.heap.size else p x) L 0 (a.put o.dst undef) := by
     intro a
     have hdis : ∀ j oj, L[j]? = some oj → j ≠ i → p (0 + j) ≠ none → ∀ d, oj.dst = some d → o.dst ≠ some d := fun j oj hoj hne hpj => by
      rw [Nat.zero_add] at hpj
      have hnj := ((hp j oj hoj).1 hpj).1
      exact (Oper.apart_spec ((hAp j oj (hnew j oj hoj hnj) hoj hnj).2 i o hin (Ne.symm hne) ho)).2.1
     rw [layF_new (p := p) L 0 i a ho (by simpa using hpi) hdis, layF_new (p := p) L 0 i (a.put o.dst undef) ho (by simpa using hpi) hdis, layF_put L 0 a (fun j oj hoj hpj => by
      by_cases hji : j = i
      ·subst hji; rw [Nat.zero_add] at hpj; exact absurd hpi hpj
      ·exact hdis j oj hoj hji hpj), put_put]
    rw [hpp]
    refine ih _ _ _ _ hs' ?_ hset (closed_set hcl hs ho hwait) ?_ ?_
    ·intro j oj hoj
     by_cases hji : j = i
     ·subst hji
      have : oj = o := Option.some.inj (hoj.symm.trans ho)
      subst this
      simp [hnw, hs, hil]
     ·rw [Nat.zero_add, if_neg hji, getD_set_ne true (fun e => hji e.symm)]
      exact hp j oj hoj
    ·refine ⟨hw.below.alloc hw.below.size _, fun j b hb => ?_, fun j k b hj hk => ?_⟩
     ·rw [Nat.zero_add] at hb
      split at hb
      ·cases hb
       exact ⟨hw.below.size, by simp, heap_alloc_new _ _⟩
      ·obtain ⟨h1, h2, h3⟩ := hw.at_ j b hb
       exact ⟨h1, by simp; omega, by rw [Below.heap_alloc w O b h2]; exact h3⟩
     ·rw [Nat.zero_add] at hj hk
      split at hj <;> split at hk
      ·omega
      ·cases hj; have := (hw.at_ k _ hk).2.1; omega
      ·cases hk; have := (hw.at_ j _ hj).2.1; omega
      ·exact hw.inj j k b hj hk
    ·intro V
     have hV : Below w.heap.size w V.w := ((Below.refl _ w).alloc (Nat.le_refl _) O).trans (V.h.mono (by simp))
     obtain ⟨v, hv, hK⟩ := H2 ⟨V.w, hV⟩
     have hvu : v = undef := by
      have := hv V.w ⟨⟨V.w, Below.refl _ _⟩, rfl⟩
      unfold Oper.quietAt at this
      have hx : (execOp am.eval (hush o)).run P V.w = .ok (.value undef) V.w := rfl
      rw [hx] at this
      exact this.2.symm
     rw [hvu] at hK
     exact hK
   | false =>
    simp only [hnw, if_true, if_pos hin] at H2
    obtain ⟨he, hwn⟩ := layF_eval (ops := L.toArray) (p := p) (o := o) (fun cs b => Region.noSelect_spec hsel i o cs b (by rw [List.getElem?_toArray]; exact ho)) L 0 am (fun j oj hoj hpj d hd => by
     rw [Nat.zero_add] at hpj
     have hnj := ((hp j oj hoj).1 hpj).1
     have hji : j ≠ i := fun e => by subst e; exact hpj hpi
     exact (Oper.apart_spec ((hAp j oj (hnew j oj hoj hnj) hoj hnj).2 i o hin (Ne.symm hji) ho)).1 d hd)
    rw [hwn]
    have hput : ∀ v, (layF p L 0 am).put o.dst v = layF p L 0 (am.put o.dst v) := fun v => (layF_put L 0 am (fun j oj hoj hpj d hd => by
     rw [Nat.zero_add] at hpj
     have hnj := ((hp j oj hoj).1 hpj).1
     have hji : j ≠ i := fun e => by subst e; exact hpj hpi
     exact (Oper.apart_spec ((hAp j oj (hnew j oj hoj hnj) hoj hnj).2 i o hin (Ne.symm hji) ho)).2.1 d hd)).symm
    have hp' : ∀ j oj, L[j]? = some oj → (p j ≠ none ↔ isNew oj = true ∧ (listed.setIfInBounds i true).getD j true = true) := by
     intro j oj hoj
     by_cases hji : j = i
     ·subst hji
      have : oj = o := Option.some.inj (hoj.symm.trans ho)
      subst this
      simp [hnw, hpi]
     ·rw [getD_set_ne true (fun e => hji e.symm)]; exact hp j oj hoj
    by_cases hwt : Region.wanted o (yielded L.toArray am.tmps) = true
    ·simp only [hwt, if_true] at H2 ⊢
     left
     obtain ⟨v, hv, hK⟩ := H2 ⟨w, Below.refl _ _⟩
     have hnext : ∀ y : Later w, wpAny P .any L.toArray Q fuel (listed.setIfInBounds i true) ((layF p L 0 am).put o.dst v) y.w := by
      intro y
      rw [hput]
      refine ih _ _ _ _ hs' hp' hset (closed_set hcl hs ho hwait) (hw.later y) fun V => ?_
      have hV : Below w.heap.size w V.w := y.h.trans (V.h.mono y.h.size)
      obtain ⟨u, hu, hK'⟩ := H2 ⟨V.w, hV⟩
      have e : u = v := quietAt_det (hu V.w ⟨⟨V.w, Below.refl _ _⟩, rfl⟩) (hv V.w ⟨⟨V.w, hV⟩, rfl⟩)
      rw [← e]
      exact hK'
     have h3 := hv w ⟨⟨w, Below.refl _ _⟩, rfl⟩
     unfold Oper.quietAt at h3
     unfold Oper.wp
     rw [he]
     generalize (execOp am.eval o).run P w = r at *
     cases r with
     | halt x w' => simp only [Oper.quietUpon] at h3
     | ok nx w' =>
      cases nx <;> simp only [Oper.quietUpon] at h3 <;> simp only [Oper.upon]
      case value u =>
       obtain ⟨e1, e2⟩ := h3
       rw [e1, e2]
       exact hnext ⟨w, Below.refl _ _⟩
      case skip =>
       obtain ⟨e1, e2⟩ := h3
       rw [e1, ← e2]
       exact hnext ⟨w, Below.refl _ _⟩
      case enter f args =>
       obtain ⟨e1, hc⟩ := h3
       rw [e1]
       exact hc.mono fun e w'' ⟨he', y, hy⟩ => by subst he'; rw [hy]; exact hnext y
    ·simp only [hwt, Bool.false_eq_true, if_false] at H2 ⊢
     rw [hput]
     exact ih _ _ _ _ hs' hp' hset (closed_set hcl hs ho hwait) hw H2
  ·-- all ahead of the tail has come up
   have hnonf : ∀ j, j < n → floatAt L j ≠ true → listed.getD j true = true := by
    intro j hjn hflj
    have h3 := hT2 i (List.mem_range.2 hil)
    simp only [Bool.or_eq_true, decide_eq_true_eq, hin, false_or] at h3
    have h4 := List.all_eq_true.1 h3 j (List.mem_range.2 (by omega))
    simp only [hflj, Bool.and_false, Bool.false_or] at h4
    exact wait_listed hcl 40 i o j ho (fun e he hb => getD_tf (hwait e he hb)) h4
   have hfloat : ∀ j, j < n → floatAt L j = true → listed.getD j true = true := by
    intro j
    induction j using Nat.strongRecOn with
    | _ j ihj =>
     intro hjn hflj
     cases hlj : listed.getD j true with
     | true => rfl
     | false =>
      exfalso
      refine hfl ⟨j, mem_ready.2 ⟨hlj, L[j]'(by omega), by simp, fun e he hb => ?_⟩, hjn, hflj⟩
      have hlt := backB_spec hE (i := j) (o := L[j]'(by omega)) (by simp) e he hb
      rw [← getD_listed (by omega)]
      by_cases hfe : floatAt L e.on = true
      ·exact ihj e.on hlt (by omega) hfe
      ·exact hnonf e.on (by omega) hfe
   have hall : ∀ j, j < L.length → (listed.getD j true = true ↔ j < n) := by
    intro j hj
    by_cases hjn : j < n
    ·simp only [hjn, iff_true]
     by_cases hflj : floatAt L j = true
     ·exact hfloat j hjn hflj
     exact hnonf j hjn hflj
    ·simp only [hjn, iff_false]
     rw [htl j (by omega) hj]; simp
   have hV := H ⟨w, Below.refl _ _⟩
   obtain ⟨h1, h2⟩ := tail_run (Q := Q) hE hT (w0 := w) ⟨⟨w, Below.refl _ _⟩, rfl⟩ (fuel + 1) listed n am hs (Nat.le_refl _) hall hV
   have hnl : ∀ i o, L[i]? = some o → isNew o = true → p i ≠ none := fun i o ho hn => (hp i o ho).2 ⟨hn, (hall i (List.getElem?_eq_some_iff.1 ho).1).2 (hnew i o ho hn)⟩
   have h3 := h1 ⟨w, Below.refl _ _⟩ (fun i => (p i).getD 0) ⟨fun i o ho hn => by
    obtain ⟨b, hb⟩ := Option.ne_none_iff_exists'.1 (hnl i o ho hn)
    obtain ⟨k1, k2, k3⟩ := hw.at_ i b hb
    simp only [hb, Option.getD_some]
    exact ⟨k1, k3⟩, fun i j oi oj hoi hoj hni hnj he => by
    obtain ⟨b, hb⟩ := Option.ne_none_iff_exists'.1 (hnl i oi hoi hni)
    obtain ⟨c, hc⟩ := Option.ne_none_iff_exists'.1 (hnl j oj hoj hnj)
    simp only [hb, hc, Option.getD_some] at he
    subst he
    exact hw.inj i j b hb hc⟩
   rw [← layF_all (n := n) L 0 am (fun j oj hoj => by rw [Nat.zero_add]; exact ⟨fun h => ((hp j oj hoj).1 h).1, fun h => hnl j oj hoj h⟩)] at h3
   have := h2 _ _ h3
   exact this.2 i hi
end
theorem wp_region_news {P : Program} {id : Nat} {Q : Exit → Act → World → Prop} {a : Act} {W : World} {L : List Oper} (n : Nat) (t : TypeId) (O : Obj) (hQ : ∀ c (a : Act) (d : Tmp) v w, Q (.panic c) (a.put (some d) v) w → Q (.panic c) a w) (hm : P.follows .mixedOrders = true) (hF : floatsOk L n = true) (hB : Region.lexB .any (calmN n L).toArray = true)
  (hE : backB L.toArray = true) (hT : tailsOk L n = true) (hA : newsApart L n = true) (hty : typesOk L t = true) (hsel : Region.noSelect L.toArray = true)
  (hN : ∀ (o : Oper) (a : Act) (w : World), o.op = .alloc t → (execOp a.eval o).run P w = .ok (.value (.pointer (some ⟨w.heap.size, 0, none⟩))) (w.alloc O))
  (h : ∀ V : Later W, wpQuiet P (calmN n L).toArray (fun w' => ∃ x : Later V.w, w' = x.w) (fun a' => ∀ x : Later V.w, ∀ p : Nat → Nat, NewsAt W L O p x.w → wpList P L.toArray Q (L.drop n) (layN p L 0 a') x.w) (calmN n L) a) :
  (Code.region id L.toArray true).wp P Q a W := by
 simp only [Region.lexB, Bool.and_eq_true] at hB
 refine wp_region_any hm ?_
 have e : ∀ (L : List Oper) k, layF (fun _ => none) L k a = a := by
  intro L
  induction L with
  | nil => intro k; rfl
  | cons o l ih => intro k; exact ih (k + 1)
 have h0 : ∀ i, (Array.replicate L.toArray.size false).getD i true = true ↔ L.length ≤ i := by
  intro i
  by_cases hi : i < L.length <;> simp [hi] <;> omega
 have := wpAny_of_calmN (P := P) (Q := Q) (W := W) (O := O) hQ hF hE hT hA hty hsel hN L.toArray.size (Array.replicate L.toArray.size false) a (fun _ => none) W.drew (by simp) (fun i o ho => by
  have hil : i < L.length := (List.getElem?_eq_some_iff.1 ho).1
  rw [h0 i]; simp; omega) (fun i _ hi => by simp [hi]) (fun j oj hj hl => by
  have hjl := (List.getElem?_eq_some_iff.1 hj).1
  simp [hjl] at hl) ⟨zta W, fun _ _ h => (by cases h), fun _ _ _ h => (by cases h)⟩ (fun V => ?_)
 ·rw [e] at this
  simpa using this
 ·have hV : Below W.heap.size W V.w := (zta W).trans V.h
  have h1 := h ⟨V.w, hV⟩
  have := wpAnyQ_lex (C := fun w' => ∃ x : Later V.w, w' = x.w) (md := .any) hB.1 (calmN n L) 0 (Array.replicate (calmN n L).toArray.size false) a (by simp) (by simpa using hB.2) h1
  simp only [List.size_toArray, calmN_length] at this ⊢
  exact this
end Go.Proofs.YtcfepoopkfhojaaGreat
namespace Go.Proofs.YtcfepoopkfhojaaGreat
open Go.ChangeShapes Go.WideShapes Go.ChangeAt Go.RowKit
theorem info_u8 : ∃ i, Tryz.prog.info? 5 = some i ∧ i.zero = some (.int .u8 0) ∧ i.size = 1 ∧ i.bytes = 1 := by
 have h0 : (Tryz.prog.info? 5).isSome = true := by kernel_rfl
 have h1 : (Tryz.prog.info? 5).map (·.size) = some 1 := by kernel_rfl
 have h2 : (Tryz.prog.info? 5).bind (·.zero) = some (.int .u8 0) := by kernel_rfl
 have h3 : (Tryz.prog.info? 5).map (·.bytes) = some 1 := by kernel_rfl
 cases h : Tryz.prog.info? 5 with
 | none => rw [h] at h0; cases h0
 | some i =>
  rw [h] at h1 h2 h3
  exact ⟨i, rfl, h2, Option.some.inj h1, Option.some.inj h3⟩
def Byt (w : World) (base : Nat) (v : Value) (l : List UInt8) : Prop := w.ownsRow base 5 1 v l.length (l.map bv)
section
variable {w w' : World} {base : Nat} {v : Value} {l : List UInt8}
theorem Byt.nil (w : World) (base : Nat) : Byt w base (.slice none 0 0) [] := World.ownsRow_nil w base _ _
theorem Byt.slice (h : Byt w base v l) : ∃ A c, v = .slice A l.length c ∧ l.length ≤ c ∧ c ≤ maxLen ∧ Rd w A l ∧ ∀ k, v.ownBlock = some k → base ≤ k ∧ k < w.heap.size := by
 have hl := h.lt
 rcases h.2 with ⟨e, h0⟩ | ⟨g, c, cur, e, hb, hg, hn, hc, hs, ht⟩
 ·refine ⟨none, 0, by rw [e, h0], by omega, by unfold maxLen; omega, fun hp => absurd hp (by omega), hl⟩
 ·refine ⟨some ⟨g, 0, none⟩, c, e, hn, hc, fun _ => ⟨_, rfl, ?_, fun j b hj => ?_⟩, hl⟩
  ·exact (hl g (by rw [e]; rfl)).2
  ·exact h.cells (g := g) (by rw [e]; rfl) j (bv b) (by rw [List.getElem?_map, hj]; rfl)
theorem Byt.below (h : Byt w base v l) {B : Nat} (hb : Below B w w') (hB : ∀ k, v.ownBlock = some k → k < B) : Byt w' base v l := by
 refine ⟨h.1, ?_⟩
 rcases h.2 with hn | ⟨g, c, cur, e, hbg, hg, rest⟩
 ·exact .inl hn
 ·exact .inr ⟨g, c, cur, e, hbg, (hb.block g (hB g (by rw [e]; rfl))).trans hg, rest⟩
theorem Byt.step (h : Byt w base v l) (hb : Below w.heap.size w w') : Byt w' base v l := h.below hb fun k e => (h.lt k e).2
theorem Byt.alloc (h : Byt w base v l) (o : Obj) : Byt (w.alloc o) base v l := World.ownsRow.alloc h o
end
theorem zia {ops : Array Oper} {rest : List Oper} {o : Oper} {a : Act} {w : World} {Q : Exit → Act → World → Prop} (hgd : o.guard = none) (s x : Operand)
  (ho : o.op = .call { callee := .builtin .append, args := #[s, x], argTypes := #[22, 22] })
  (base : Nat) (v : Value) (l r : List UInt8) (hs : a.eval s = v) (hown : Byt w base v l) (A : Option Addr) (m c : Nat) (hx : a.eval x = .slice A m c) (hr : r.length = m) (hc : A = none → c = 0) (hR : Rd w A r)
  (hle : l.length + r.length ≤ 1000000) (hbase : base ≤ w.heap.size)
  (h : ∀ v' w', Byt w' base v' (l ++ r) → Below base w w' → w.grownBy w' v.ownBlock → wpList Tryz.prog ops Q rest (a.put o.dst v') w') : wpList Tryz.prog ops Q (o :: rest) a w := by
 obtain ⟨i, hi1, hi2, hi3, hi4⟩ := info_u8
 subst hr
 cases A with
 | none =>
  have h0 : r = [] := by
   cases r with
   | nil => rfl
   | cons b r => obtain ⟨ad, e, _⟩ := hR (by simp); cases e
  subst h0
  rw [hc rfl] at hx
  refine wpList_append_own_none hgd s x _ ho base _ i 1 Tryz.underlying22 hi1 v l.length (l.map bv) hs hown hx ?_
  refine h v w ?_ (Below.refl _ _) (World.grownBy.refl _ _)
  rw [List.append_nil]; exact hown
 | some ad =>
  refine wpList_append_own _ hgd s x _ ho base _ i (.int .u8 0) 1 1 Tryz.underlying22 hi1 hi2 hi3 hi4 rfl (by decide) v l.length (l.map bv) hs hown ad r.length c (r.map bv) hx (by simp) (fun j u hj => ?_) (fun u hu => ?_) (by unfold maxLen; omega) (by omega) hbase ?_
  ·rw [List.getElem?_map] at hj
   cases hb : r[j]? with
   | none => rw [hb] at hj; cases hj
   | some b =>
    rw [hb] at hj
    obtain rfl := Option.some.inj hj
    obtain ⟨ad', e, _, hcl⟩ := hR (by have := (List.getElem?_eq_some_iff.1 hb).1; omega)
    cases e
    exact hcl j b hb
  ·obtain ⟨b, _, rfl⟩ := List.mem_map.1 hu
   rfl
  ·intro v' w' h1 h2 _
   refine h v' w' ?_ ((Below.refl _ _).grown h2 hbase (fun k e => (hown.lt k e).1)) h2
   unfold Byt
   rw [List.length_append, List.map_append]
   exact h1
theorem step_append_bytes {ops : Array Oper} {o : Oper} {a : Act} {w : World} {K : Act → World → Prop} {Q : Exit → Act → World → Prop} {E : Prop} (hgd : o.guard = none) (s x : Operand)
  (ho : o.op = .call { callee := .builtin .append, args := #[s, x], argTypes := #[22, 22] })
  (base : Nat) (v : Value) (l r : List UInt8) (hs : a.eval s = v) (hown : Byt w base v l) (ad : Addr) (m c : Nat) (hx : a.eval x = .slice (some ad) m c) (hr : r.length = m) (hm : 0 < m) (hR : Rd w (some ad) r)
  (hle : l.length + r.length ≤ 1000000) (hbase : base ≤ w.heap.size)
  (h : ∀ g cap w', Byt w' base (.slice (some ⟨g, 0, none⟩) (l.length + m) cap) (l ++ r) → Below base w w' → w.grownBy w' v.ownBlock → (v.ownBlock = some g ∨ g = w.heap.size) → g < w'.heap.size → K (a.put o.dst (.slice (some ⟨g, 0, none⟩) (l.length + m) cap)) w') :
  if Region.wanted o (yielded ops a.tmps) = true then Oper.wp Tryz.prog o a w K Q else E := by
 obtain ⟨i, hi1, hi2, hi3, hi4⟩ := info_u8
 subst hr
 refine step_append_lies w hgd s x _ ho base _ i (.int .u8 0) 1 1 Tryz.underlying22 hi1 hi2 hi3 hi4 rfl (by decide) v l.length (l.map bv) hs hown ad r.length c (r.map bv) hx (by simp) (fun j u hj => ?_) (fun u hu => ?_) hm (by unfold maxLen; omega) (by omega) hbase _ rfl ?_
 ·rw [List.getElem?_map] at hj
  cases hb : r[j]? with
  | none => rw [hb] at hj; cases hj
  | some b =>
   rw [hb] at hj
   obtain rfl := Option.some.inj hj
   obtain ⟨ad', e, _, hcl⟩ := hR (by have := (List.getElem?_eq_some_iff.1 hb).1; omega)
   cases e
   exact hcl j b hb
 ·obtain ⟨b, _, rfl⟩ := List.mem_map.1 hu
  rfl
 ·intro g cap w' h1 h2 h3 h4
  refine h g cap w' ?_ ((Below.refl _ _).grown h2 hbase (fun k e => (hown.lt k e).1)) h2 h3 h4
  unfold Byt
  rw [List.length_append, List.map_append]
  exact h1
theorem Rd.at {w : World} {A : Option Addr} {l : List UInt8} (h : Rd w A l) (hp : 0 < l.length) : ∃ b o, A = some ⟨b, o, none⟩ ∧ b < w.heap.size ∧ ∀ j x, l[j]? = some x → w.cell? ⟨b, o + j, none⟩ = some (.int .u8 (x.toNat : Int)) := by
 obtain ⟨⟨b, o, s⟩, e, hb, hc⟩ := h hp
 have h0 := hc 0 l[0] (List.getElem?_eq_getElem hp)
 have h1 : (⟨b, o, s⟩ : Addr).add 0 = ⟨b, o, s⟩ := by simp [Addr.add]
 rw [h1] at h0
 cases s with
 | some t =>
  exfalso
  unfold World.cell? at h0
  split at h0 <;> simp_all
 | none =>
  refine ⟨b, o, e, hb, fun j x hx => ?_⟩
  have := hc j x hx
  rwa [zva] at this
theorem rd_of {w : World} {a : Option Addr} {len cap : Nat} {zs : List Int} (h : (a = none ∧ len = 0 ∧ cap = 0 ∧ zs = []) ∨
  ∃ x, a = some x ∧ len ≤ cap ∧ cap ≤ maxLen ∧ zs.length = cap ∧ (∀ i, i < zs.length → w.cell? (x.add i) = some (.int .u8 (zs.getD i 0))) ∧ ∀ n ∈ zs, (Lit.int .u8 n).wf = true) :
  ∃ l : List UInt8, l.length = len ∧ len ≤ cap ∧ cap ≤ maxLen ∧ (a = none → cap = 0) ∧ Rd w a l := by
 rcases h with ⟨rfl, rfl, rfl, rfl⟩ | ⟨x, rfl, hl, hm, hz, hc, hw⟩
 ·exact ⟨[], rfl, Nat.le_refl _, by unfold maxLen; omega, fun _ => rfl, fun h => absurd h (by simp)⟩
 ·refine ⟨(zs.take len).map fun z => UInt8.ofNat z.toNat, by simp; omega, hl, hm, (fun h => by cases h), fun hp => ?_⟩
  have hp' : 0 < len := by simpa using (by simp at hp; omega : 0 < len)
  refine ⟨x, rfl, ?_, fun j b hj => ?_⟩
  ·have := World.block_lt_of_cell? w _ (hc 0 (by omega))
   have e : (x.add 0).block = x.block := by unfold Addr.add; split <;> rfl
   rwa [e] at this
  ·rw [List.getElem?_map] at hj
   obtain ⟨z, hz1, rfl⟩ := Option.map_eq_some_iff.1 hj
   rw [List.getElem?_take] at hz1
   have hjl : j < len := by
    refine Nat.lt_of_not_le fun h => ?_
    rw [if_neg (by omega)] at hz1; cases hz1
   rw [if_pos hjl] at hz1
   have hjz := (List.getElem?_eq_some_iff.1 hz1)
   obtain ⟨hj1, hj2⟩ := hjz
   have hwz := bounds_u8 (hw z (by rw [← hj2]; exact List.getElem_mem hj1))
   rw [hc j hj1]
   have e : zs.getD j 0 = z := by simp [hz1]
   rw [e]
   unfold bv
   have : (UInt8.ofNat z.toNat).toNat = z.toNat := by simp; omega
   rw [this]
   congr 2
   omega
end Go.Proofs.YtcfepoopkfhojaaGreat
namespace Go.Proofs.YtcfepoopkfhojaaGreat
open Go.ChangeShapes Go.WideShapes Go.ChangeAt Go.RowKit
def zpb (L : List Oper) (t : Tmp) : Option Nat := L.findIdx? fun o => o.dst == some t
def SlotOk (L : List Oper) (Y : Nat → World → Value → Prop) (a0 a : Act) (w : World) (t : Tmp) : Prop :=
 match zpb L t with
 | none => a.eval (.tmp t) = a0.eval (.tmp t)
 | some j => Y j w (a.eval (.tmp t))
def zqb (p : Nat → Value) : List Oper → Nat → Act → Act
 | [], _, a => a
 | o :: l, k, a => zqb p l (k + 1) (a.put o.dst (p k))
def YAll (Y : Nat → World → Value → Prop) (p : Nat → Value) (w : World) : List Oper → Nat → Prop
 | [], _ => True
 | o :: l, k => (o.dst ≠ none → Y k w (p k)) ∧ YAll Y p w l (k + 1)
theorem yall_of {Y : Nat → World → Value → Prop} {p : Nat → Value} {w : World} : ∀ (l : List Oper) (k : Nat), (∀ (i : Nat) (o : Oper), l[i]? = some o → o.dst ≠ none → Y (k + i) w (p (k + i))) → YAll Y p w l k
 | [], _, _ => trivial
 | q :: l, k, h => ⟨fun hd => h 0 q rfl hd, yall_of l (k + 1) fun i o ho hd => by
  have := h (i + 1) o (by simpa using ho) hd
  rwa [show k + (i + 1) = k + 1 + i by omega] at this⟩
theorem zib {a : Act} {dst : Option Tmp} {v : Value} {t : Tmp} (h : dst ≠ some t) : (a.put dst v).eval (.tmp t) = a.eval (.tmp t) :=
 Act.eval_put fun d hd e => by cases e; exact h hd
theorem z4b {a : Act} {d : Tmp} {v : Value} (h : d < a.tmps.size) : (a.put (some d) v).eval (.tmp d) = v := by
 simp [Act.put, Act.eval, h]
theorem put_size (a : Act) (dst : Option Tmp) (v : Value) : (a.put dst v).tmps.size = a.tmps.size := by cases dst <;> simp [Act.put]
theorem zpc (a : Act) (dst : Option Tmp) (v : Value) : (a.put dst v).defers = a.defers := by cases dst <;> rfl
theorem lay_size (p : Nat → Value) : ∀ (l : List Oper) (k : Nat) (a : Act), (zqb p l k a).tmps.size = a.tmps.size ∧ (zqb p l k a).defers = a.defers
 | [], _, _ => ⟨rfl, rfl⟩
 | o :: l, k, a => by
  obtain ⟨h1, h2⟩ := lay_size p l (k + 1) (a.put o.dst (p k))
  exact ⟨h1.trans (put_size _ _ _), h2.trans (zpc _ _ _)⟩
theorem lay_base (p : Nat → Value) {t : Tmp} : ∀ (l : List Oper) (k : Nat) (a : Act), (∀ (j : Nat) (oj : Oper), l[j]? = some oj → oj.dst ≠ some t) → (zqb p l k a).eval (.tmp t) = a.eval (.tmp t)
 | [], _, _, _ => rfl
 | o :: l, k, a, h => (lay_base p l (k + 1) _ fun j oj hj => h (j + 1) oj (by simpa using hj)).trans (zib (h 0 o rfl))
theorem lay_at (p : Nat → Value) {t : Tmp} : ∀ (l : List Oper) (k i : Nat) (a : Act) (o : Oper), l[i]? = some o → o.dst = some t → t < a.tmps.size → (∀ (j : Nat) (oj : Oper), l[j]? = some oj → j ≠ i → oj.dst ≠ some t) → (zqb p l k a).eval (.tmp t) = p (k + i)
 | [], _, _, _, _, h, _, _, _ => by cases h
 | q :: l, k, 0, a, o, h, hd, hs, hn => by
  simp only [List.getElem?_cons_zero, Option.some.injEq] at h
  subst h
  refine (lay_base p l (k + 1) _ fun j oj hj => hn (j + 1) oj (by simpa using hj) (by omega)).trans ?_
  rw [hd]; exact z4b hs
 | q :: l, k, i + 1, a, o, h, hd, hs, hn => by
  have := lay_at p l (k + 1) i (a.put q.dst (p k)) o (by simpa using h) hd (by rw [put_size]; exact hs) fun j oj hj hji => hn (j + 1) oj (by simpa using hj) (by omega)
  rw [show k + 1 + i = k + (i + 1) by omega] at this
  exact this
theorem act_ext {a b : Act} (hs : a.tmps.size = b.tmps.size) (hd : a.defers = b.defers) (h : ∀ t, t < a.tmps.size → a.eval (.tmp t) = b.eval (.tmp t)) : a = b := by
 obtain ⟨ta, da⟩ := a
 obtain ⟨tb, db⟩ := b
 simp only at hs hd h
 subst hd
 congr 1
 refine Array.ext hs fun i h1 h2 => ?_
 have := h i h1
 simpa [Act.eval, h1, h2] using this
theorem zjc {L : List Oper} {t : Tmp} {j : Nat} (h : zpb L t = some j) : ∃ o, L[j]? = some o ∧ o.dst = some t := by
 unfold zpb at h
 obtain ⟨hl, h1, _⟩ := List.findIdx?_eq_some_iff_getElem.1 h
 exact ⟨L[j], List.getElem?_eq_getElem hl, by simpa using h1⟩
theorem z0b {L : List Oper} {t : Tmp} (h : zpb L t = none) : ∀ (j : Nat) (o : Oper), L[j]? = some o → o.dst ≠ some t := by
 intro j o ho e
 unfold zpb at h
 rw [List.findIdx?_eq_none_iff] at h
 have := h o (List.mem_of_getElem? ho)
 simp [e] at this
structure St where
 F : World → Value → Prop
 h : ∀ w w' v, Below w.heap.size w w' → F w v → F w' v
def St.any : St := ⟨fun _ _ => True, fun _ _ _ _ _ => trivial⟩
def St.eq (c : Value) : St := ⟨fun _ v => v = c, fun _ _ _ _ h => h⟩
def IsB (w : World) (l : List UInt8) (v : Value) : Prop := ∃ A c, v = .slice A l.length c ∧ l.length ≤ c ∧ c ≤ maxLen ∧ (A = none → c = 0) ∧ Rd w A l
theorem IsB.step {w w' : World} {l : List UInt8} {v : Value} (h : IsB w l v) (hb : Below w.heap.size w w') : IsB w' l v := by
 obtain ⟨A, c, h1, h2, h3, h4, h5⟩ := h
 exact ⟨A, c, h1, h2, h3, h4, h5.step hb⟩
def St.bytes (l : List UInt8) : St := ⟨fun w v => IsB w l v, fun _ _ _ hb h => h.step hb⟩
section
variable {P : Program} {L : List Oper} {Q : Exit → Act → World → Prop} {a : Act} {w : World} {o : Oper} {F : World → Value → Prop}
theorem zc {ops : Array Oper} (hg : o.guard = none) : Region.wanted o (yielded ops a.tmps) = true := by simp [Region.wanted, hg]
theorem wanted_by {ops : Array Oper} {g : Nat} {b c : Bool} {og : Oper} {d : Tmp} (hg : o.guard = some (g, b)) (ho : ops[g]? = some og) (hd : og.dst = some d) (hv : a.eval (.tmp d) = .bool c) : Region.wanted o (yielded ops a.tmps) = (c == b) := by
 have h1 : a.tmps[d]? = some (.bool c) := by
  simp only [Act.eval, Array.getD_eq_getD_getElem?] at hv
  cases h : a.tmps[d]? with
  | none => rw [h] at hv; cases hv
  | some u => rw [h] at hv; simp at hv; rw [hv]
 simp [Region.wanted, hg, yielded, ho, hd, h1]
theorem zob {ops : Array Oper} {g : Nat} {b : Bool} {og : Oper} {d : Tmp} (hg : o.guard = some (g, b)) (ho : ops[g]? = some og) (hd : og.dst = some d) (hv : a.eval (.tmp d) = .bool b) : Region.wanted o (yielded ops a.tmps) = true := by
 rw [wanted_by hg ho hd hv]; simp
theorem run_mv (x : Operand) (ho : o.op = .move x ∨ o.op = .assign x) {v : Value} (hx : a.eval x = v) : (execOp a.eval o).run P w = .ok (.value v) w := by
 rcases ho with ho | ho <;> simp [execOp, ho, hx]
theorem run_pick {x y z : Operand} (ho : o.op = .pick x y z) {b : Bool} (hx : a.eval x = .bool b) {v : Value} (hy : (if b then a.eval y else a.eval z) = v) : (execOp a.eval o).run P w = .ok (.value v) w := by
 subst hy
 simp [execOp, ho, hx, asBool, Result.andThen]
theorem run_pick_t {x y z : Operand} (ho : o.op = .pick x y z) (hx : a.eval x = .bool true) {v : Value} (hy : a.eval y = v) : (execOp a.eval o).run P w = .ok (.value v) w :=
 run_pick ho hx (by rw [if_pos rfl]; exact hy)
theorem run_pick_f {x y z : Operand} (ho : o.op = .pick x y z) (hx : a.eval x = .bool false) {v : Value} (hy : a.eval z = v) : (execOp a.eval o).run P w = .ok (.value v) w :=
 run_pick ho hx (by rw [if_neg (by simp)]; exact hy)
theorem run_ln (x : Operand) (t : TypeId) (ho : o.op = .call { callee := .builtin .len, args := #[x], argTypes := #[t] }) {A : Option Addr} {n c : Nat} (hx : a.eval x = .slice A n c) (ht : P.underlying t = some (.slice (P.elem t))) : (execOp a.eval o).run P w = .ok (.value (.int .i64 (n : Int))) w := by
 simp only [execOp, ho, resolve, Sem.run_bind, Sem.run_pure, Result.andThen_ok, invoke, List.map_toArray, List.map_cons, List.map_nil, hx]
 simp [builtin, go_sem, run_len_slice w t o.type A n c ht, Result.andThen, goInt]
theorem zfc (t : TypeId) (x : Operand) (ho : o.op = .unOp .not t x) {b : Bool} (hx : a.eval x = .bool b) : (execOp a.eval o).run P w = .ok (.value (.bool (!b))) w := by
 unfold execOp
 simp only [ho, hx]
 rfl
end
end Go.Proofs.YtcfepoopkfhojaaGreat
namespace Go.Proofs.YtcfepoopkfhojaaGreat
open Go.ChangeShapes Go.WideShapes Go.ChangeAt Go.RowKit
end Go.Proofs.YtcfepoopkfhojaaGreat
namespace Go.Proofs.YtcfepoopkfhojaaGreat
open Go.ChangeShapes Go.WideShapes Go.ChangeAt Go.RowKit
def aftB (L : List Oper) : Nat → Nat → Nat → Bool
 | 0, _, _ => false
 | f + 1, j, k => match L[j]? with
  | none => false
  | some o => o.after.any fun e => Region.binds .any e && (e.on == k || aftB L f e.on k)
theorem aft_listed {L : List Oper} {listed : Array Bool} (hc : ∀ (j : Nat) (oj : Oper), L[j]? = some oj → listed.getD j true = true → ∀ e ∈ oj.after, Region.binds .any e = true → listed.getD e.on true = true) : ∀ (f j : Nat) (oj : Oper) (k : Nat), L[j]? = some oj → listed.getD j true = true → aftB L f j k = true → listed.getD k true = true
 | 0, _, _, _, _, _, h => by cases h
 | f + 1, j, oj, k, ho, hl, h => by
  unfold aftB at h
  simp only [ho, Array.any_eq_true, Bool.and_eq_true, Bool.or_eq_true, beq_iff_eq] at h
  obtain ⟨x, hx, hb, h⟩ := h
  have h1 := hc j oj ho hl _ (Array.getElem_mem hx) hb
  rcases h with h | h
  ·rw [h] at h1; exact h1
  ·cases hq : L[oj.after[x].on]? with
   | none => cases f with
    | zero => cases h
    | succ f => unfold aftB at h; rw [hq] at h; cases h
   | some oq => exact aft_listed hc f _ oq k hq h1 h
def relOkC (L : List Oper) (m n : Nat) : Bool :=
 Region.noSelect L.toArray && backB L.toArray &&
 ((List.range m).all fun i => match (L.take m)[i]? with
  | none => true
  | some o => (match o.dst with
    | none => true
    | some d => decide (d < n) && zpb (L.take m) d == some i) &&
   (o.looksAt L.toArray).all fun t => match zpb (L.take m) t with
    | none => true
    | some j => o.after.any fun e => Region.binds .any e && e.on == j) &&
 ((L.drop m).all fun t => t.guard.isNone) && ((List.range L.length).all fun i => decide (i < m) || (List.range i).all fun j => aftB L 40 i j)
end Go.Proofs.YtcfepoopkfhojaaGreat
namespace Go.Proofs.YtcfepoopkfhojaaGreat
end Go.Proofs.YtcfepoopkfhojaaGreat
namespace Go.Proofs.YtcfepoopkfhojaaGreat
open Go.ChangeShapes Go.WideShapes Go.ChangeAt Go.RowKit Go.Shelf
structure Kc (B : Nat) (w w' : World) : Prop where
 below : Below B w w'
 kept : ∀ (g : Nat) (cs : Array Value) (t : TypeId) (fr : Nat × Nat), w.heap[g]? = some (Obj.cells cs t fr) → ∃ fr2 : Nat × Nat, w'.heap[g]? = some (Obj.cells cs t fr2) ∧ (t ≠ 5 → fr2 = fr)
theorem Kc.refl (B : Nat) (w : World) : Kc B w w := ⟨Below.refl _ _, fun _ _ _ fr h => ⟨fr, h, fun _ => rfl⟩⟩
theorem Kc.of_below {B : Nat} {w w' : World} (hB : B ≤ w.heap.size) (h : Below w.heap.size w w') : Kc B w w' := ⟨h.mono hB, fun g _ _ fr hg => ⟨fr, (h.block g (zyb hg)).trans hg, fun _ => rfl⟩⟩
theorem Kc.rd {B : Nat} {w w' : World} {A : Option Addr} {l : List UInt8} (k : Kc B w w') (h : Rd w A l) : Rd w' A l := fun hp => by
 obtain ⟨b, o, e, hb, hc⟩ := h.at hp
 refine ⟨_, e, Nat.lt_of_lt_of_le hb k.below.size, fun j x hx => ?_⟩
 have h1 := hc j x hx
 rw [zva]
 cases hw : w.heap[b]? with
 | none => simp [World.cell?, hw] at h1
 | some ob =>
  cases ob with
  | cells cs t fr =>
   obtain ⟨fr', h2, _⟩ := k.kept b cs t fr hw
   simp only [World.cell?, hw] at h1
   simp only [World.cell?, h2]
   exact h1
  | _ => simp [World.cell?, hw] at h1
theorem run_cv' {P : Program} {a : Act} {w w' : World} {o : Oper} (s d : TypeId) (x : Operand) (ho : o.op = .convert s d x) {u v : Value} (hx : a.eval x = u) (h : (convert s d u).run P w = .ok v w') : (execOp a.eval o).run P w = .ok (.value v) w' := by
 simp [execOp, ho, hx, h, Result.andThen]
structure StK where
 F : World → Value → Prop
 h : ∀ B w w' v, Kc B w w' → F w v → F w' v
def StK.any : StK := ⟨fun _ _ => True, fun _ _ _ _ _ _ => trivial⟩
def StK.eq (c : Value) : StK := ⟨fun _ v => v = c, fun _ _ _ _ _ h => h⟩
theorem IsB.kc {B : Nat} {w w' : World} {l : List UInt8} {v : Value} (h : IsB w l v) (hb : Kc B w w') : IsB w' l v := by
 obtain ⟨A, c, h1, h2, h3, h4, h5⟩ := h
 exact ⟨A, c, h1, h2, h3, h4, hb.rd h5⟩
def StK.bytes (l : List UInt8) : StK := ⟨fun w v => IsB w l v, fun _ _ _ _ hb h => h.kc hb⟩
def LitB (B : Nat) (w : World) (l : List UInt8) (v : Value) : Prop := ∃ g fr, v = .slice (some ⟨g, 0, none⟩) l.length l.length ∧ B ≤ g ∧ l.length ≤ 1000 ∧ w.heap[g]? = some (.cells (bvs l) 5 fr)
def StK.lit (B : Nat) (l : List UInt8) : StK := ⟨fun w v => LitB B w l v, fun _ _ _ _ hb h => by
 obtain ⟨g, fr, h1, h2, h4, h3⟩ := h
 obtain ⟨fr', h3', _⟩ := hb.kept _ _ _ _ h3
 exact ⟨g, fr', h1, h2, h4, h3'⟩⟩
def stYK (S : List StK) (i : Nat) (w : World) (v : Value) : Prop := ((S[i]?).getD StK.any).F w v
section
variable {P : Program} {Q : Exit → Act → World → Prop} {a : Act} {w : World} {o : Oper} {F : World → Value → Prop} {B : Nat}
theorem hop_runK {ops : Array Oper} (hw : Region.wanted o (yielded ops a.tmps) = true) (v : Value) (hr : (execOp a.eval o).run P w = .ok (.value v) w) (hF : F w v) :
  if Region.wanted o (yielded ops a.tmps) = true then o.wp P a w (fun a' w' => ∃ v, a' = a.put o.dst v ∧ Kc B w w' ∧ F w' v) Q else F w undef := by
 rw [if_pos hw]
 unfold Oper.wp
 rw [hr]
 exact ⟨v, rfl, Kc.refl _ _, hF⟩
theorem hop_growK {ops : Array Oper} (hw : Region.wanted o (yielded ops a.tmps) = true) (v : Value) {w1 : World} (hr : (execOp a.eval o).run P w = .ok (.value v) w1) (hb : Kc B w w1) (hF : F w1 v) :
  if Region.wanted o (yielded ops a.tmps) = true then o.wp P a w (fun a' w' => ∃ v, a' = a.put o.dst v ∧ Kc B w w' ∧ F w' v) Q else F w undef := by
 rw [if_pos hw]
 unfold Oper.wp
 rw [hr]
 exact ⟨v, rfl, hb, hF⟩
theorem zba {ops : Array Oper} (hw : Region.wanted o (yielded ops a.tmps) = true) (hB : B ≤ w.heap.size) {f : FuncId} {args : Array Operand} {ts : Array TypeId} (ho : o.op = .call { callee := .value (.func f), args := args, argTypes := ts }) (vals : Array Value) (hv : args.map a.eval = vals) (hr : ∀ args w, (callFunc f args).run P w = .ok (.enter f args) w)
  (hc : Calls P f vals w fun e w' => ∃ v, e = .returned v ∧ Below w.heap.size w w' ∧ F w' v) :
  if Region.wanted o (yielded ops a.tmps) = true then o.wp P a w (fun a' w' => ∃ v, a' = a.put o.dst v ∧ Kc B w w' ∧ F w' v) Q else F w undef := by
 rw [if_pos hw]
 subst hv
 unfold Oper.wp
 have : (execOp a.eval o).run P w = .ok (.enter f (args.map a.eval)) w := by
  simp [execOp, ho, resolve, invoke, Act.eval, go_sem, hr]
 rw [this]
 exact hc.mono fun e w' ⟨v, he, hb, hF⟩ => by subst he; exact ⟨v, rfl, Kc.of_below hB hb, hF⟩
end
def relOkT (L : List Oper) (m n : Nat) : Bool :=
 Region.noSelect L.toArray && backB L.toArray &&
 ((List.range m).all fun i => match (L.take m)[i]? with
  | none => true
  | some o => (match o.dst with
    | none => true
    | some d => decide (d < n) && zpb (L.take m) d == some i) &&
   (o.looksAt L.toArray).all fun t => match zpb (L.take m) t with
    | none => true
    | some j => o.after.any fun e => Region.binds .any e && e.on == j) &&
 ((L.drop m).all fun t => t.guard.isNone) && ((List.range L.length).all fun i => decide (i < m) || (List.range i).all fun j => Region.waitsFor .any L.toArray i j)
def HopT (P : Program) (L : List Oper) (m : Nat) (Q : Exit → Act → World → Prop) (Y : Nat → World → Value → Prop) (a0 : Act) (W : World) (k : Nat) (o : Oper) : Prop :=
 ∀ (a : Act) (w : World), Below W.heap.size W w → (∀ t ∈ o.looksAt L.toArray, SlotOk (L.take m) Y a0 a w t) →
  if Region.wanted o (yielded L.toArray a.tmps) = true then o.wp P a w (fun a' w' => ∃ v, a' = a.put o.dst v ∧ Kc W.heap.size w w' ∧ Y k w' v) Q else Y k w undef
def HopAllT (P : Program) (L : List Oper) (m : Nat) (Q : Exit → Act → World → Prop) (Y : Nat → World → Value → Prop) (a0 : Act) (W : World) : List Oper → Nat → Prop
 | [], _ => True
 | o :: l, k => HopT P L m Q Y a0 W k o ∧ HopAllT P L m Q Y a0 W l (k + 1)
theorem hop_atT {P : Program} {L : List Oper} {m : Nat} {Q : Exit → Act → World → Prop} {Y : Nat → World → Value → Prop} {a0 : Act} {W : World} : ∀ (l : List Oper) (k : Nat), HopAllT P L m Q Y a0 W l k → ∀ (i : Nat) (o : Oper), l[i]? = some o → HopT P L m Q Y a0 W (k + i) o
 | [], _, _, i, o, ho => by cases ho
 | q :: l, k, h, 0, o, ho => by
  simp only [List.getElem?_cons_zero, Option.some.injEq] at ho
  subst ho; exact h.1
 | q :: l, k, h, i + 1, o, ho => by
  have := hop_atT l (k + 1) h.2 i o (by simpa using ho)
  rwa [show k + 1 + i = k + (i + 1) by omega] at this
def RegInv (P : Program) (L : List Oper) (Q : Exit → Act → World → Prop) (a : Act) (w : World) (C : Prop) : Prop := ∀ Inv : Array Bool → Act → World → Prop, Inv (Array.replicate L.toArray.size false) a w.drew →
 (∀ listed a w i, listed.size = L.toArray.size → Inv listed a w → i ∈ Region.ready .any L.toArray listed → wpOp P L.toArray Q i (fun a' w' => Inv (listed.setIfInBounds i true) a' w') a w) →
 (∀ listed a w, listed.size = L.toArray.size → Inv listed a w → Region.ready .any L.toArray listed = [] → Q .normal a w) → C
theorem RegInv.wp {P : Program} {L : List Oper} {Q : Exit → Act → World → Prop} {a : Act} {w : World} {id : Nat} (hm : P.follows .mixedOrders = true) : RegInv P L Q a w ((Code.region id L.toArray true).wp P Q a w) := fun Inv h1 h2 h3 => wp_region_inv hm Inv h1 h2 h3
theorem wp_region_relTC {P : Program} {Q : Exit → Act → World → Prop} {a0 : Act} {W : World} {L : List Oper} {C : Prop} (hC : RegInv P L Q a0 W C) (m n : Nat) (hn : a0.tmps.size = n) (hok : relOkT L m n = true) (Y : Nat → World → Value → Prop)
  (hY : ∀ i w w' v, Kc W.heap.size w w' → Y i w v → Y i w' v) (hop : HopAllT P L m Q Y a0 W (L.take m) 0)
  (hend : ∀ (p : Nat → Value) (w : World), Below W.heap.size W w → YAll Y p w (L.take m) 0 → wpList P L.toArray Q (L.drop m) (zqb p (L.take m) 0 a0) w) : C := by
 unfold relOkT at hok
 simp only [Bool.and_eq_true, List.all_eq_true, Option.isNone_iff_eq_none, Bool.or_eq_true, decide_eq_true_eq] at hok
 obtain ⟨⟨⟨⟨hsel, hE⟩, hall⟩, hT1⟩, hT2⟩ := hok
 have htake : ∀ (i : Nat) (o : Oper), (L.take m)[i]? = some o → i < m ∧ L[i]? = some o := fun i o h => by
  rw [List.getElem?_take] at h
  split at h
  ·exact ⟨by assumption, h⟩
  ·cases h
 have hintake : ∀ (i : Nat) (o : Oper), i < m → L[i]? = some o → (L.take m)[i]? = some o := fun i o h1 h2 => by
  rw [List.getElem?_take, if_pos h1]; exact h2
 have hdst : ∀ (i : Nat) (o : Oper) (d : Tmp), (L.take m)[i]? = some o → o.dst = some d → d < n ∧ zpb (L.take m) d = some i := fun i o d ho hd => by
  have h1 := hall i (List.mem_range.2 (htake i o ho).1)
  simp only [ho, hd, Bool.and_eq_true, decide_eq_true_eq, beq_iff_eq] at h1
  exact h1.1
 have hread : ∀ (i : Nat) (o : Oper) (t : Tmp) (j : Nat), (L.take m)[i]? = some o → t ∈ o.looksAt L.toArray → zpb (L.take m) t = some j → ∃ e ∈ o.after, Region.binds .any e = true ∧ e.on = j := fun i o t j ho ht hj => by
  have h1 := hall i (List.mem_range.2 (htake i o ho).1)
  simp only [ho, Bool.and_eq_true, List.all_eq_true] at h1
  have h2 := h1.2 t ht
  simp only [hj, Array.any_eq_true, Bool.and_eq_true, beq_iff_eq] at h2
  obtain ⟨x, hx, hb, he⟩ := h2
  exact ⟨_, Array.getElem_mem hx, hb, he⟩
 have hdis : ∀ (i j : Nat) (oi oj : Oper) (d : Tmp), (L.take m)[i]? = some oi → (L.take m)[j]? = some oj → j ≠ i → oi.dst = some d → oj.dst ≠ some d := fun i j oi oj d hi hj hne hd e => by
  have h1 := (hdst i oi d hi hd).2
  have h2 := (hdst j oj d hj e).2
  rw [h1] at h2
  exact hne (Option.some.inj h2).symm
 -- a tail operation that is ready: all ahead of it is listed
 have htail : ∀ (listed : Array Bool) (i : Nat), listed.size = L.toArray.size → i ∈ Region.ready .any L.toArray listed → m ≤ i → ∀ j, j < i → listed.getD j true = true := by
  intro listed i hs hi hmi j hj
  obtain ⟨hiu, o, ho, hwait⟩ := mem_ready.1 hi
  have hil : i < L.length := by simpa using (Array.getElem?_eq_some_iff.1 ho).1
  have h3 := hT2 i (List.mem_range.2 hil)
  rcases h3 with h3 | h3
  ·omega
  obtain ⟨o', ho', e, he, hb, hon⟩ := Region.waitsFor_spec (h3 j (List.mem_range.2 hj))
  have : o' = o := Option.some.inj (ho'.symm.trans ho)
  subst this
  have h5 := hwait e he hb
  rw [hon, ← getD_listed (by simp at hs; omega)] at h5
  exact h5
 have hI : ∀ (listed : Array Bool) (a : Act) (w : World), (Below W.heap.size W w ∧ a.tmps.size = n ∧ a.defers = a0.defers ∧
   (∀ t : Tmp, (∀ (j : Nat) (oj : Oper), (L.take m)[j]? = some oj → listed.getD j true = true → oj.dst ≠ some t) → a.eval (.tmp t) = a0.eval (.tmp t)) ∧
   (∀ (j : Nat) (oj : Oper) (d : Tmp), (L.take m)[j]? = some oj → listed.getD j true = true → oj.dst = some d → Y j w (a.eval (.tmp d)))) → (∀ j, j < m → j < L.length → listed.getD j true = true) → wpList P L.toArray Q (L.drop m) a w := by
  rintro listed a w ⟨hB, hz, hd, hbase, hYs⟩ hl
  have hlisted : ∀ (j : Nat) (oj : Oper), (L.take m)[j]? = some oj → listed.getD j true = true := fun j oj hoj => by
   obtain ⟨h1, h2⟩ := htake j oj hoj
   exact hl j h1 (List.getElem?_eq_some_iff.1 h2).1
  have hp : a = zqb (fun j => a.eval (match ((L.take m)[j]?).bind (·.dst) with | some d => .tmp d | none => .const undef)) (L.take m) 0 a0 := by
   obtain ⟨z1, z2⟩ := lay_size (fun j => a.eval (match ((L.take m)[j]?).bind (·.dst) with | some d => .tmp d | none => .const undef)) (L.take m) 0 a0
   refine act_ext (by rw [z1, hz, hn]) (by rw [z2, hd]) fun t ht => ?_
   cases hj : zpb (L.take m) t with
   | none => rw [lay_base _ (L.take m) 0 a0 (z0b hj)]; exact hbase t fun j oj hoj _ => z0b hj j oj hoj
   | some j =>
    obtain ⟨oj, hoj, hdj⟩ := zjc hj
    rw [lay_at _ (L.take m) 0 j a0 oj hoj hdj (by rw [hn, ← hz]; exact ht) fun i oi hi hne => hdis j i oj oi t hoj hi hne hdj]
    rw [Nat.zero_add]
    simp only [hoj, hdj, Option.bind_some]
  rw [hp]
  refine hend _ w hB (yall_of (L.take m) 0 fun i o ho hdn => ?_)
  rw [Nat.zero_add]
  cases hdo : o.dst with
  | none => exact absurd hdo hdn
  | some d =>
   simp only [ho, hdo, Option.bind_some]
   exact hYs i o d ho (hlisted i o ho) hdo
 refine hC (fun listed a w => ((∀ j, m ≤ j → j < L.length → listed.getD j true = false) ∧ Below W.heap.size W w ∧ a.tmps.size = n ∧ a.defers = a0.defers ∧
  (∀ t : Tmp, (∀ (j : Nat) (oj : Oper), (L.take m)[j]? = some oj → listed.getD j true = true → oj.dst ≠ some t) → a.eval (.tmp t) = a0.eval (.tmp t)) ∧
  (∀ (j : Nat) (oj : Oper) (d : Tmp), (L.take m)[j]? = some oj → listed.getD j true = true → oj.dst = some d → Y j w (a.eval (.tmp d)))) ∨
  (∃ k, m ≤ k ∧ (∀ j, j < L.length → (listed.getD j true = true ↔ j < k)) ∧ wpList P L.toArray Q (L.drop k) a w)) ?_ ?_ ?_
 ·refine .inl ⟨fun j _ hj => by simp [hj], zta W, hn, rfl, fun _ _ => rfl, fun j oj d hj hl _ => ?_⟩
  have hjl := (List.getElem?_eq_some_iff.1 (htake j oj hj).2).1
  simp [hjl] at hl
 ·rintro listed a w i hs hinv hi
  obtain ⟨hiu, o, ho, hwait⟩ := mem_ready.1 hi
  have ho' : L[i]? = some o := by simpa using ho
  have hil := (List.getElem?_eq_some_iff.1 ho').1
  have hsl : listed.size = L.length := by simpa using hs
  by_cases him : i < m
  ·rcases hinv with ⟨htl, hB, hz, hd, hbase, hYs⟩ | ⟨k, hmk, hlk, _⟩
   ·have ht' := hintake i o him ho'
    have hh := hop_atT (L.take m) 0 hop i o ht'
    rw [Nat.zero_add] at hh
    have hslots : ∀ t ∈ o.looksAt L.toArray, SlotOk (L.take m) Y a0 a w t := fun t ht => by
     unfold SlotOk
     cases hj : zpb (L.take m) t with
     | none => exact hbase t fun j oj hoj _ => z0b hj j oj hoj
     | some j =>
      obtain ⟨oj, hoj, hdj⟩ := zjc hj
      obtain ⟨e, he, hb, hon⟩ := hread i o t j ht' ht hj
      have h1 := hwait e he hb
      rw [hon] at h1
      refine hYs j oj t hoj ?_ hdj
      have hjl : j < listed.size := by rw [hsl]; exact (List.getElem?_eq_some_iff.1 (htake j oj hoj).2).1
      simpa [hjl] using h1
    have hh := hh a w hB hslots
    have hset : ∀ (v : Value) (w' : World), Kc W.heap.size w w' → Y i w' v → ((∀ j, m ≤ j → j < L.length → (listed.setIfInBounds i true).getD j true = false) ∧ Below W.heap.size W w' ∧ (a.put o.dst v).tmps.size = n ∧ (a.put o.dst v).defers = a0.defers ∧
      (∀ t : Tmp, (∀ (j : Nat) (oj : Oper), (L.take m)[j]? = some oj → (listed.setIfInBounds i true).getD j true = true → oj.dst ≠ some t) → (a.put o.dst v).eval (.tmp t) = a0.eval (.tmp t)) ∧
      (∀ (j : Nat) (oj : Oper) (d : Tmp), (L.take m)[j]? = some oj → (listed.setIfInBounds i true).getD j true = true → oj.dst = some d → Y j w' ((a.put o.dst v).eval (.tmp d)))) := fun v w' hb hy => by
     refine ⟨fun j h1 h2 => by rw [getD_set_ne true (show i ≠ j by omega)]; exact htl j h1 h2, hB.trans hb.below, by rw [put_size]; exact hz, by rw [zpc]; exact hd, fun t ht => ?_, fun j oj d hoj hl hdj => ?_⟩
     ·rw [zib (ht i o ht' (by rw [Array.getD_eq_getD_getElem?, Array.getElem?_setIfInBounds_self]; simp [hsl, hil]))]
      refine hbase t fun j oj hoj hl => ht j oj hoj ?_
      by_cases e : i = j
      ·subst e; rw [hl] at hiu; cases hiu
      ·rw [getD_set_ne true e]; exact hl
     ·by_cases e : i = j
      ·subst e
       obtain rfl : o = oj := Option.some.inj (ht'.symm.trans hoj)
       rw [hdj, z4b (by rw [hz]; exact (hdst i o d ht' hdj).1)]
       exact hy
      ·rw [zib (hdis j i oj o d hoj ht' e hdj)]
       rw [getD_set_ne true e] at hl
       exact hY j w w' _ hb (hYs j oj d hoj hl hdj)
    unfold wpOp
    simp only [ho]
    by_cases hw : Region.wanted o (yielded L.toArray a.tmps) = true
    ·rw [if_pos hw] at hh ⊢
     exact .inl (Oper.wp_mono (fun a' w' ⟨v, e, hb, hy⟩ => by rw [e]; exact .inl (hset v w' hb hy)) hh)
    ·rw [if_neg hw] at hh ⊢
     exact .inl (hset undef w (Kc.refl _ _) hh)
   ·have := (hlk i hil).2 (by omega)
    rw [this] at hiu; cases hiu
  ·have hmi : m ≤ i := Nat.le_of_not_lt him
   have hahead := htail listed i hs hi hmi
   have hk : (∀ j, j < L.length → (listed.getD j true = true ↔ j < i)) ∧ wpList P L.toArray Q (L.drop i) a w := by
    rcases hinv with ⟨htl, hrest⟩ | ⟨k, hmk, hlk, hwp⟩
    ·obtain rfl : i = m := by
      refine Nat.le_antisymm (Nat.le_of_not_lt fun hlt => ?_) hmi
      have h1 := hahead m hlt
      rw [htl m (Nat.le_refl _) (by omega)] at h1; cases h1
     refine ⟨fun j hj => ⟨fun h => Nat.lt_of_not_le fun h2 => ?_, hahead j⟩, hI listed a w hrest fun j h1 _ => hahead j h1⟩
     rw [htl j h2 hj] at h; cases h
    ·obtain rfl : k = i := by
      refine Nat.le_antisymm (Nat.le_of_not_lt fun hlt => ?_) (Nat.le_of_not_lt fun hlt => ?_)
      ·have := (hlk i hil).2 hlt
       rw [this] at hiu; cases hiu
      ·have := (hlk k (by omega)).1 (hahead k hlt)
       omega
     exact ⟨hlk, hwp⟩
   obtain ⟨hlk, hwp⟩ := hk
   have hdr : L.drop i = L[i] :: L.drop (i + 1) := List.drop_eq_getElem_cons hil
   have hoe : L[i] = o := by rw [List.getElem?_eq_getElem hil] at ho'; exact Option.some.inj ho'
   rw [hoe] at hdr
   have hg := hT1 o (by
    have h6 : L.drop i = (L.drop m).drop (i - m) := by rw [List.drop_drop]; congr 1; omega
    have h7 : o ∈ L.drop i := by rw [hdr]; exact List.mem_cons_self
    rw [h6] at h7
    exact List.mem_of_mem_drop h7)
   have hset : ∀ j, j < L.length → ((listed.setIfInBounds i true).getD j true = true ↔ j < i + 1) := by
    intro j hj
    by_cases hji : j = i
    ·subst hji; simp [hsl, hj]
    ·rw [getD_set_ne true (fun e => hji e.symm), hlk j hj]; omega
   rw [hdr] at hwp
   unfold wpList at hwp
   unfold wpOp
   simp only [ho]
   have hw' : ∀ g, Region.wanted o g = true := fun g => by simp [Region.wanted, hg]
   simp only [hw', if_true] at hwp ⊢
   exact hwp.imp (Oper.wp_mono fun a' w' h' => .inr ⟨i + 1, by omega, hset, h'⟩) (fun h => h)
 ·rintro listed a w hs hinv hr
  have hsl : listed.size = L.length := by simpa using hs
  have hlisted : ∀ j, j < L.length → listed.getD j true = true := fun j hj => by
   cases h : listed.getD j true with
   | true => rfl
   | false => exact absurd hr (zcb hE hs j (by simpa using hj) h)
  have hwp : ∃ k, L.length ≤ k ∧ wpList P L.toArray Q (L.drop k) a w := by
   rcases hinv with ⟨htl, hrest⟩ | ⟨k, hmk, hlk, hwp⟩
   ·refine ⟨m, Nat.le_of_not_lt fun hlt => ?_, hI listed a w hrest fun j _ hj => hlisted j hj⟩
    have h1 := htl m (Nat.le_refl _) hlt
    rw [hlisted m hlt] at h1; cases h1
   ·refine ⟨k, Nat.le_of_not_lt fun hlt => ?_, hwp⟩
    exact absurd ((hlk k hlt).1 (hlisted k hlt)) (Nat.lt_irrefl _)
  obtain ⟨k, h1, h2⟩ := hwp
  rw [List.drop_eq_nil_of_le h1] at h2
  exact h2
theorem wp_region_relT {P : Program} {id : Nat} {Q : Exit → Act → World → Prop} {a0 : Act} {W : World} {L : List Oper} (m n : Nat) (hn : a0.tmps.size = n) (hm : P.follows .mixedOrders = true) (hok : relOkT L m n = true) (Y : Nat → World → Value → Prop)
  (hY : ∀ i w w' v, Kc W.heap.size w w' → Y i w v → Y i w' v) (hop : HopAllT P L m Q Y a0 W (L.take m) 0)
  (hend : ∀ (p : Nat → Value) (w : World), Below W.heap.size W w → YAll Y p w (L.take m) 0 → wpList P L.toArray Q (L.drop m) (zqb p (L.take m) 0 a0) w) : (Code.region id L.toArray true).wp P Q a0 W :=
 wp_region_relTC (.wp hm) m n hn hok Y hY hop hend
theorem wp_region_stT {P : Program} {id : Nat} {Q : Exit → Act → World → Prop} {a0 : Act} {W : World} {L : List Oper} (S : List StK) (m n : Nat) (hn : a0.tmps.size = n) (hm : P.follows .mixedOrders = true) (hok : relOkT L m n = true)
  (hop : HopAllT P L m Q (stYK S) a0 W (L.take m) 0)
  (hend : ∀ (p : Nat → Value) (w : World), Below W.heap.size W w → YAll (stYK S) p w (L.take m) 0 → wpList P L.toArray Q (L.drop m) (zqb p (L.take m) 0 a0) w) : (Code.region id L.toArray true).wp P Q a0 W :=
 wp_region_relT m n hn hm hok (stYK S) (fun i w w' v hb h => ((S[i]?).getD StK.any).h _ w w' v hb h) hop hend
def relOkU (L : List Oper) (m n : Nat) : Bool :=
 Region.noSelect L.toArray && backB L.toArray &&
 ((List.range m).all fun i => match (L.take m)[i]? with
  | none => true
  | some o => (match o.dst with
    | none => true
    | some d => decide (d < n) && zpb (L.take m) d == some i) &&
   (o.looksAt L.toArray).all fun t => match zpb (L.take m) t with
    | none => true
    | some j => o.after.any fun e => Region.binds .any e && e.on == j)
theorem wp_region_relU {P : Program} {id : Nat} {Q : Exit → Act → World → Prop} {a0 : Act} {W : World} {L : List Oper} (m n : Nat) (hn : a0.tmps.size = n) (hok : relOkU L m n = true) (hml : m ≤ L.length) (Y : Nat → World → Value → Prop)
  (hY : ∀ i w w' v, Kc W.heap.size w w' → Y i w v → Y i w' v) (hop : HopAllT P L m Q Y a0 W (L.take m) 0)
  (hend : ∀ (p : Nat → Value) (w : World), Below W.heap.size W w → YAll Y p w (L.take m) 0 → wpList P L.toArray Q (L.drop m) (zqb p (L.take m) 0 a0) w) : (Code.region id L.toArray false).wp P Q a0 W := by
 unfold relOkU at hok
 simp only [Bool.and_eq_true, List.all_eq_true] at hok
 obtain ⟨⟨hsel, hE⟩, hall⟩ := hok
 have htake : ∀ (i : Nat) (o : Oper), (L.take m)[i]? = some o → i < m ∧ L[i]? = some o := fun i o h => by
  rw [List.getElem?_take] at h
  split at h
  ·exact ⟨by assumption, h⟩
  ·cases h
 have hintake : ∀ (i : Nat) (o : Oper), i < m → L[i]? = some o → (L.take m)[i]? = some o := fun i o h1 h2 => by
  rw [List.getElem?_take, if_pos h1]; exact h2
 have hdst : ∀ (i : Nat) (o : Oper) (d : Tmp), (L.take m)[i]? = some o → o.dst = some d → d < n ∧ zpb (L.take m) d = some i := fun i o d ho hd => by
  have h1 := hall i (List.mem_range.2 (htake i o ho).1)
  simp only [ho, hd, Bool.and_eq_true, decide_eq_true_eq, beq_iff_eq] at h1
  exact h1.1
 have hread : ∀ (i : Nat) (o : Oper) (t : Tmp) (j : Nat), (L.take m)[i]? = some o → t ∈ o.looksAt L.toArray → zpb (L.take m) t = some j → j < i := fun i o t j ho ht hj => by
  have h1 := hall i (List.mem_range.2 (htake i o ho).1)
  simp only [ho, Bool.and_eq_true, List.all_eq_true] at h1
  have h2 := h1.2 t ht
  simp only [hj, Array.any_eq_true, Bool.and_eq_true, beq_iff_eq] at h2
  obtain ⟨x, hx, hb, he⟩ := h2
  have := backB_spec hE (i := i) (o := o) (by simpa using (htake i o ho).2) _ (Array.getElem_mem hx) hb
  omega
 have hdis : ∀ (i j : Nat) (oi oj : Oper) (d : Tmp), (L.take m)[i]? = some oi → (L.take m)[j]? = some oj → j ≠ i → oi.dst = some d → oj.dst ≠ some d := fun i j oi oj d hi hj hne hd e => by
  have h1 := (hdst i oi d hi hd).2
  have h2 := (hdst j oj d hj e).2
  rw [h1] at h2
  exact hne (Option.some.inj h2).symm
 have main : ∀ (r k : Nat) (a : Act) (w : World), k + r = m → Below W.heap.size W w → a.tmps.size = n → a.defers = a0.defers →
   (∀ t : Tmp, (∀ (j : Nat) (oj : Oper), (L.take m)[j]? = some oj → j < k → oj.dst ≠ some t) → a.eval (.tmp t) = a0.eval (.tmp t)) →
   (∀ (j : Nat) (oj : Oper) (d : Tmp), (L.take m)[j]? = some oj → j < k → oj.dst = some d → Y j w (a.eval (.tmp d))) → wpList P L.toArray Q (L.drop k) a w := by
  intro r
  induction r with
  | zero =>
   intro k a w hk hB hz hd hbase hYs
   obtain rfl : k = m := by omega
   have hp : a = zqb (fun j => a.eval (match ((L.take k)[j]?).bind (·.dst) with | some d => .tmp d | none => .const undef)) (L.take k) 0 a0 := by
    obtain ⟨z1, z2⟩ := lay_size (fun j => a.eval (match ((L.take k)[j]?).bind (·.dst) with | some d => .tmp d | none => .const undef)) (L.take k) 0 a0
    refine act_ext (by rw [z1, hz, hn]) (by rw [z2, hd]) fun t ht => ?_
    cases hj : zpb (L.take k) t with
    | none => rw [lay_base _ (L.take k) 0 a0 (z0b hj)]; exact hbase t fun j oj hoj _ => z0b hj j oj hoj
    | some j =>
     obtain ⟨oj, hoj, hdj⟩ := zjc hj
     rw [lay_at _ (L.take k) 0 j a0 oj hoj hdj (by rw [hn, ← hz]; exact ht) fun i oi hi hne => hdis j i oj oi t hoj hi hne hdj]
     rw [Nat.zero_add]
     simp only [hoj, hdj, Option.bind_some]
   rw [hp]
   refine hend _ w hB (yall_of (L.take k) 0 fun i o ho hdn => ?_)
   rw [Nat.zero_add]
   cases hdo : o.dst with
   | none => exact absurd hdo hdn
   | some d =>
    simp only [ho, hdo, Option.bind_some]
    exact hYs i o d ho (htake i o ho).1 hdo
  | succ r ih =>
   intro k a w hk hB hz hd hbase hYs
   have hkl : k < L.length := by omega
   have hdr : L.drop k = L[k] :: L.drop (k + 1) := List.drop_eq_getElem_cons hkl
   have hok := hintake k L[k] (by omega) (List.getElem?_eq_getElem hkl)
   have hh := hop_atT (L.take m) 0 hop k L[k] hok
   rw [Nat.zero_add] at hh
   have hh := hh a w hB fun t ht => by
    unfold SlotOk
    cases hj : zpb (L.take m) t with
    | none => exact hbase t fun j oj hoj _ => z0b hj j oj hoj
    | some j =>
     obtain ⟨oj, hoj, hdj⟩ := zjc hj
     exact hYs j oj t hoj (hread k L[k] t j hok ht hj) hdj
   have hset : ∀ (v : Value) (w' : World), Kc W.heap.size w w' → Y k w' v → wpList P L.toArray Q (L.drop (k + 1)) (a.put L[k].dst v) w' := fun v w' hb hy => by
    refine ih (k + 1) _ w' (by omega) (hB.trans hb.below) (by rw [put_size]; exact hz) (by rw [zpc]; exact hd) (fun t ht => ?_) (fun j oj d hoj hl hdj => ?_)
    ·rw [zib (ht k L[k] hok (Nat.lt_succ_self k))]
     exact hbase t fun j oj hoj hl => ht j oj hoj (by omega)
    ·by_cases e : k = j
     ·subst e
      obtain rfl : L[k] = oj := Option.some.inj (hok.symm.trans hoj)
      rw [hdj, z4b (by rw [hz]; exact (hdst k _ d hok hdj).1)]
      exact hy
     ·rw [zib (hdis j k oj L[k] d hoj hok e hdj)]
      exact hY j w w' _ hb (hYs j oj d hoj (by omega) hdj)
   rw [hdr]
   unfold wpList
   by_cases hw : Region.wanted L[k] (yielded L.toArray a.tmps) = true
   ·rw [if_pos hw] at hh ⊢
    exact .inl (Oper.wp_mono (fun a' w' ⟨v, e, hb, hy⟩ => by rw [e]; exact hset v w' hb hy) hh)
   ·rw [if_neg hw] at hh ⊢
    exact hset undef w (Kc.refl _ _) hh
 refine wp_region_list ?_
 have := main m 0 a0 W (by omega) (Below.refl _ _) hn rfl (fun _ _ => rfl) (fun _ _ _ _ h => absurd h (by omega))
 simpa using this
theorem wp_region_stU {P : Program} {id : Nat} {Q : Exit → Act → World → Prop} {a0 : Act} {W : World} {L : List Oper} (S : List StK) (m n : Nat) (hn : a0.tmps.size = n) (hok : relOkU L m n = true) (hml : (decide (m ≤ L.length)) = true)
  (hop : HopAllT P L m Q (stYK S) a0 W (L.take m) 0)
  (hend : ∀ (p : Nat → Value) (w : World), Below W.heap.size W w → YAll (stYK S) p w (L.take m) 0 → wpList P L.toArray Q (L.drop m) (zqb p (L.take m) 0 a0) w) : (Code.region id L.toArray false).wp P Q a0 W :=
 wp_region_relU m n hn hok (of_decide_eq_true hml) (stYK S) (fun i w w' v hb h => ((S[i]?).getD StK.any).h _ w w' v hb h) hop hend
def StK.new (B : Nat) (cs : Array Value) (t : TypeId) (ht : t ≠ 5) : StK := ⟨fun w v => ∃ g, v = .pointer (some ⟨g, 0, none⟩) ∧ B ≤ g ∧ w.heap[g]? = some (.cells cs t (0, 0)), fun _ _ _ _ hb h => by
 obtain ⟨g, h1, h2, h3⟩ := h
 obtain ⟨fr', h3', he⟩ := hb.kept _ _ _ _ h3
 rw [he ht] at h3'
 exact ⟨g, h1, h2, h3'⟩⟩
theorem hop_new {P : Program} {Q : Exit → Act → World → Prop} {a : Act} {w : World} {o : Oper} {B B' : Nat} {ops : Array Oper} (hw : Region.wanted o (yielded ops a.tmps) = true) (hB : B ≤ w.heap.size) (hB' : B' ≤ w.heap.size) {cs : Array Value} {t : TypeId} (ht : t ≠ 5)
  (hr : (execOp a.eval o).run P w = .ok (.value (.pointer (some ⟨w.heap.size, 0, none⟩))) (w.alloc (.cells cs t))) :
  if Region.wanted o (yielded ops a.tmps) = true then o.wp P a w (fun a' w' => ∃ v, a' = a.put o.dst v ∧ Kc B w w' ∧ (StK.new B' cs t ht).F w' v) Q else (StK.new B' cs t ht).F w undef :=
 hop_growK (F := (StK.new B' cs t ht).F) hw _ hr (Kc.of_below hB (zga w _)) ⟨w.heap.size, rfl, hB', heap_alloc_new w _⟩
theorem Kc.isCells {B : Nat} {w w' : World} (k : Kc B w w') {b o : Nat} {v : Value} (h : w.cell? ⟨b, o, none⟩ = some v) : w'.cell? ⟨b, o, none⟩ = some v := by
 cases hw : w.heap[b]? with
 | none => simp [World.cell?, hw] at h
 | some ob =>
  cases ob with
  | cells cs t fr =>
   obtain ⟨fr', h2, _⟩ := k.kept b cs t fr hw
   simp only [World.cell?, hw] at h
   simp only [World.cell?, h2]
   exact h
  | _ => simp [World.cell?, hw] at h
variable {ds : List Deferred}
def look {α : Type} : List (Nat × α) → Nat → Option α
 | [], _ => none
 | p :: L, t => match Nat.beq p.1 t with
  | true => some p.2
  | false => look L t
theorem z5a {α : Type} (k : Nat) (x : α) (L : List (Nat × α)) (t : Nat) : look ((k, x) :: L) t = if k = t then some x else look L t := by
 have e : look ((k, x) :: L) t = (match Nat.beq k t with
  | true => some x
  | false => look L t) := rfl
 rw [e]
 by_cases h : k = t
 ·subst h
  rw [if_pos rfl, Nat.beq_refl]
 ·have : Nat.beq k t = false := by cases hb : Nat.beq k t with
   | false => rfl
   | true => exact absurd (Nat.eq_of_beq_eq_true hb) h
  rw [if_neg h, this]
structure Fx (n : Nat) (a : Act) (V : List (Nat × Value)) (ds : List Deferred := []) : Prop where
 size : a.tmps.size = n
 defers : a.defers = ds
 at_ : ∀ t v, look V t = some v → a.eval (.tmp t) = v
theorem Fx.get {n : Nat} {a : Act} {V : List (Nat × Value)} (F : Fx n a V ds) {t : Nat} {v : Value} (h : look V t = some v) : a.eval (.tmp t) = v := F.at_ t v h
theorem Fx.put {n : Nat} {a : Act} {V : List (Nat × Value)} (F : Fx n a V ds) (d : Nat) (v : Value) (hd : Nat.blt d n = true) : Fx n (a.put (some d) v) ((d, v) :: V) ds :=
 ⟨by rw [put_size]; exact F.size, by rw [zpc]; exact F.defers, fun t u h => by
  rw [z5a] at h
  by_cases e : d = t
  ·subst e
   rw [if_pos rfl] at h
   rw [z4b (by rw [F.size]; exact Nat.le_of_ble_eq_true hd)]
   exact Option.some.inj h
  ·rw [if_neg e] at h
   rw [zib (fun e2 => e (Option.some.inj e2))]
   exact F.at_ t u h⟩
theorem Fx.eq {n : Nat} {a : Act} {V V' : List (Nat × Value)} (F : Fx n a V ds) (h : ∀ t v, look V' t = some v → look V t = some v) : Fx n a V' ds := ⟨F.size, F.defers, fun t v e => F.at_ t v (h t v e)⟩
theorem Fx.zero {vs : Array Value} {n m : Nat} (V : List (Nat × Value)) (hn : vs.size + m = n) (h : ∀ t v, look V t = some v → vs[t]? = some v) : Fx n { tmps := vs ++ Array.replicate m undef, defers := [] } V :=
 ⟨by simp [hn], rfl, fun t v e => by
  have h1 := h t v e
  have hl := (Array.getElem?_eq_some_iff.1 h1).1
  simp [Act.eval, Array.getD_eq_getD_getElem?, Array.getElem?_append_left hl, h1]⟩
def file : Nat → List Value → List (Nat × Value)
 | _, [] => []
 | k, v :: L => (k, v) :: file (k + 1) L
theorem look_file : ∀ (L : List Value) (k t : Nat) (v : Value), look (file k L) t = some v → k ≤ t ∧ L[t - k]? = some v
 | [], k, t, v, h => by cases h
 | u :: L, k, t, v, h => by
  unfold file at h
  rw [z5a] at h
  by_cases e : k = t
  ·subst e
   rw [if_pos rfl] at h
   exact ⟨Nat.le_refl _, by rw [Nat.sub_self]; simpa using h⟩
  ·rw [if_neg e] at h
   obtain ⟨h1, h2⟩ := look_file L (k + 1) t v h
   exact ⟨by omega, by rw [show t - k = (t - (k + 1)) + 1 by omega]; simpa using h2⟩
section
variable {P : Program}
theorem zea {f : FuncId} {fn : Func} {c : Code} {args : List Value} {w : World} {R : Ending → World → Prop} (n : Nat) (hf : P.funcs[f]? = some fn) (hb : fn.body = some c) (hn : fn.ntmps = n) (hl : Nat.ble args.length n = true)
  (h : ∀ a, Fx n a (file 0 args) → c.wp P (bodyPost P fn R) a w) : Calls P f args.toArray w R := by
 refine calls_of_wp hf hb (h _ ?_)
 have hl' : args.length ≤ n := Nat.le_of_ble_eq_true hl
 refine Fx.zero _ (by simp [hn]; omega) fun t v e => ?_
 have := (look_file args 0 t v e).2
 simpa using this
section
variable {ops : Array Oper} {Q : Exit → Act → World → Prop} {a : Act} {w w' : World} {rest : List Oper} {o : Oper} {n : Nat} {V : List (Nat × Value)}
theorem zj (hw : Region.wanted o (yielded ops a.tmps) = true) {d : Nat} (hd : o.dst = some d) (F : Fx n a V ds) (hn : Nat.blt d n = true) (v : Value) (hr : (execOp a.eval o).run P w = .ok (.value v) w')
  (h : ∀ a', Fx n a' ((d, v) :: V) ds → wpList P ops Q rest a' w') : wpList P ops Q (o :: rest) a w :=
 zbc hw fun K hK => by
  unfold Oper.wp
  rw [hr]
  have := F.put d v hn
  rw [← hd] at this
  exact hK _ _ (h _ this)
theorem wl_do (hw : Region.wanted o (yielded ops a.tmps) = true) (hd : o.dst = none) (F : Fx n a V ds) (hr : (execOp a.eval o).run P w = .ok .skip w')
  (h : wpList P ops Q rest a w') : wpList P ops Q (o :: rest) a w :=
 zbc hw fun K hK => by
  unfold Oper.wp
  rw [hr]
  have e : a.put o.dst undef = a := by rw [hd]; rfl
  show K (a.put o.dst undef) w'
  rw [e]
  exact hK _ _ h
theorem wl_skip (hw : Region.wanted o (yielded ops a.tmps) = false) {d : Nat} (hd : o.dst = some d) (F : Fx n a V ds) (hn : Nat.blt d n = true)
  (h : ∀ a', Fx n a' ((d, undef) :: V) ds → wpList P ops Q rest a' w) : wpList P ops Q (o :: rest) a w :=
 wpList_skip hw (by
  have := F.put d undef hn
  rw [← hd] at this
  exact h _ this)
theorem wanted_un {ops : Array Oper} {g : Nat} {b : Bool} {og : Oper} {d : Tmp} (hg : o.guard = some (g, b)) (ho : ops[g]? = some og) (hd : og.dst = some d) (hv : a.eval (.tmp d) = undef) : Region.wanted o (yielded ops a.tmps) = false := by
 have h1 : yielded ops a.tmps g = none := by
  simp only [yielded, ho, Option.bind_some, hd]
  simp only [Act.eval, Array.getD_eq_getD_getElem?] at hv
  cases h : a.tmps[d]? with
  | none => simp [h]
  | some u => rw [h] at hv; simp at hv; subst hv; simp [h, undef]
 simp [Region.wanted, hg, h1]
theorem zaa (hw : Region.wanted o (yielded ops a.tmps) = true) {d : Nat} (hd : o.dst = some d) (F : Fx n a V ds) (hn : Nat.blt d n = true) {f : FuncId} {args : Array Operand} {ts : Array TypeId} (ho : o.op = .call { callee := .value (.func f), args := args, argTypes := ts })
  (hr : ∀ args w, (callFunc f args).run P w = .ok (.enter f args) w) (vals : Array Value) (hv : args.map a.eval = vals) {G : Value → World → Prop}
  (hc : Calls P f vals w fun e w' => ∃ v, e = .returned v ∧ G v w')
  (h : ∀ v w' a', G v w' → Fx n a' ((d, v) :: V) ds → wpList P ops Q rest a' w') : wpList P ops Q (o :: rest) a w :=
 zbc hw fun K hK => by
  subst hv
  unfold Oper.wp
  have : (execOp a.eval o).run P w = .ok (.enter f (args.map a.eval)) w := by
   simp [execOp, ho, resolve, invoke, Act.eval, go_sem, hr]
  rw [this]
  refine hc.mono fun e w' ⟨v, he, hb⟩ => ?_
  subst he
  have := F.put d v hn
  rw [← hd] at this
  exact hK _ _ (h _ _ _ hb this)
end
theorem res1 {fn : Func} {t : Tmp} {a : Act} {v : Value} {w : World} (h : fn.results = #[.tmp t]) (e : a.eval (.tmp t) = v) : (results fn a.tmps).run P w = .ok v w := by
 rw [results_tmp h]; exact congrArg (fun v => Result.ok v w) e
theorem res0 {fn : Func} {a : Act} {w : World} (h : fn.results = #[]) : (results fn a.tmps).run P w = .ok (.tuple #[]) w := results_none h _ _ _
def layV (p : Nat → Value) : List Oper → Nat → List (Nat × Value) → List (Nat × Value)
 | [], _, V => V
 | o :: l, k, V => match o.dst with
  | some d => layV p l (k + 1) ((d, p k) :: V)
  | none => layV p l (k + 1) V
theorem Fx.lay (p : Nat → Value) {n : Nat} : ∀ (l : List Oper) (k : Nat) (a : Act) (V : List (Nat × Value)), Fx n a V ds → (∀ (i : Nat) (o : Oper) (d : Nat), l[i]? = some o → o.dst = some d → d < n) → Fx n (zqb p l k a) (layV p l k V) ds
 | [], _, _, _, F, _ => F
 | o :: l, k, a, V, F, h => by
  have h0 := h 0 o
  cases ho : o.dst with
  | none =>
   have e : zqb p (o :: l) k a = zqb p l (k + 1) a := by simp only [zqb, ho]; rfl
   rw [e]
   unfold layV
   rw [ho]
   exact Fx.lay p l (k + 1) a V F fun i o' d h1 h2 => h (i + 1) o' d (by simpa using h1) h2
  | some d =>
   have e : zqb p (o :: l) k a = zqb p l (k + 1) (a.put (some d) (p k)) := by simp only [zqb, ho]
   rw [e]
   unfold layV
   rw [ho]
   exact Fx.lay p l (k + 1) _ _ (F.put d (p k) (by have := h0 d rfl ho; simp [Nat.blt]; omega)) fun i o' d h1 h2 => h (i + 1) o' d (by simpa using h1) h2
theorem relOkT_dst {L : List Oper} {m n : Nat} (hok : relOkT L m n = true) : ∀ (i : Nat) (o : Oper) (d : Nat), (L.take m)[i]? = some o → o.dst = some d → d < n := by
 unfold relOkT at hok
 simp only [Bool.and_eq_true, List.all_eq_true] at hok
 obtain ⟨⟨⟨⟨-, -⟩, hall⟩, -⟩, -⟩ := hok
 intro i o d ho hd
 have hi : i < m := by
  rw [List.getElem?_take] at ho
  split at ho
  ·assumption
  ·cases ho
 have h1 := hall i (List.mem_range.2 hi)
 simp only [ho, hd, Bool.and_eq_true, decide_eq_true_eq] at h1
 exact h1.1.1
theorem zha {id : Nat} {Q : Exit → Act → World → Prop} {a0 : Act} {W : World} {L : List Oper} {n : Nat} {V : List (Nat × Value)} (F : Fx n a0 V ds) (S : List StK) (m : Nat) (hm : P.follows .mixedOrders = true) (hok : relOkT L m n = true)
  (hop : HopAllT P L m Q (stYK S) a0 W (L.take m) 0)
  (hend : ∀ (p : Nat → Value) (a : Act) (w : World), Kc W.heap.size W w → Fx n a (layV p (L.take m) 0 V) ds → YAll (stYK S) p w (L.take m) 0 → wpList P L.toArray Q (L.drop m) a w) : (Code.region id L.toArray true).wp P Q a0 W :=
 wp_region_stT S m n F.size hm hok hop fun p w hb hY => hend p _ w (by exact Kc.of_below (Nat.le_refl _) hb) (F.lay p (L.take m) 0 a0 V (relOkT_dst hok)) hY
end
structure Res where
 wr : Bool
 fp : Nat → Prop
 F : World → Prop
structure Same (fp : Nat → Prop) (w w' : World) : Prop where
 at_ : ∀ (g : Nat) (o : Obj), fp g → w.heap[g]? = some o → w'.heap[g]? = some o
 size : w.heap.size ≤ w'.heap.size
instance {fp : Nat → Prop} {w w' : World} : CoeFun (Same fp w w') fun _ => ∀ (g : Nat) (o : Obj), fp g → w.heap[g]? = some o → w'.heap[g]? = some o := ⟨Same.at_⟩
structure Mx (G : Option Nat) (w0 w : World) (R : List (Nat × Res)) : Prop where
 grown : w0.grownBy w G
 at_ : ∀ i r, look R i = some r → r.F w
 dep : ∀ i r, look R i = some r → ∀ u u', Same r.fp u u' → r.F u → r.F u'
 lt : ∀ i r, look R i = some r → ∀ g, r.fp g → g < w.heap.size
 own : ∀ i r, look R i = some r → r.wr = true → ∀ g, r.fp g → w0.heap.size ≤ g ∨ G = some g
 dis : ∀ i j r s, look R i = some r → look R j = some s → i ≠ j → r.wr = true → ∀ g, r.fp g → ¬ s.fp g
section
variable {G : Option Nat} {w0 w w' : World} {R : List (Nat × Res)}
theorem Same.of_below {fp : Nat → Prop} (h : Below w.heap.size w w') : Same fp w w' := ⟨fun g o _ hg => (h.block g (Array.getElem?_eq_some_iff.1 hg).1).trans hg, h.size⟩
theorem Same.of_grown {fp : Nat → Prop} {row : Option Nat} (h : w.grownBy w' row) (hn : ∀ g, fp g → row ≠ some g) : Same fp w w' := ⟨fun g o hf hg => (h.block g (Array.getElem?_eq_some_iff.1 hg).1 (fun e => hn g hf e.symm)).trans hg, h.size⟩
theorem Mx.start (w : World) : Mx none w w [] :=
 ⟨World.grownBy.refl _ _, fun _ _ h => (by cases h), fun _ _ h => (by cases h), fun _ _ h => (by cases h), fun _ _ h => (by cases h), fun _ _ _ _ h => (by cases h)⟩
theorem Mx.startG (w : World) (g : Nat) : Mx (some g) w w [] :=
 ⟨World.grownBy.refl _ _, fun _ _ h => (by cases h), fun _ _ h => (by cases h), fun _ _ h => (by cases h), fun _ _ h => (by cases h), fun _ _ _ _ h => (by cases h)⟩
theorem Mx.get (M : Mx G w0 w R) {i : Nat} {r : Res} (h : look R i = some r) : r.F w := M.at_ i r h
theorem Mx.le (M : Mx G w0 w R) : w0.heap.size ≤ w.heap.size := M.grown.size
theorem Mx.below (M : Mx none w0 w R) : Below w0.heap.size w0 w := ⟨M.grown.os, M.grown.tape, M.grown.output, M.grown.size, fun k hk => M.grown.block k hk (fun e => by cases e)⟩
theorem Mx.step (M : Mx G w0 w R) (h : Below w.heap.size w w') : Mx G w0 w' R :=
 ⟨World.grownBy.trans M.grown ⟨h.os, h.tape, h.output, h.size, fun k hk _ => h.block k hk⟩, fun i r e => M.dep i r e w w' (.of_below h) (M.at_ i r e), M.dep, fun i r e g hg => Nat.lt_of_lt_of_le (M.lt i r e g hg) h.size, M.own, M.dis⟩
theorem Mx.kc (M : Mx G w0 w R) (h : Kc w.heap.size w w') : Mx G w0 w' R := M.step h.below
theorem Mx.drop (M : Mx G w0 w R) {R' : List (Nat × Res)} (h : ∀ i r, look R' i = some r → look R i = some r) : Mx G w0 w R' :=
 ⟨M.grown, fun i r e => M.at_ i r (h i r e), fun i r e => M.dep i r (h i r e), fun i r e => M.lt i r (h i r e), fun i r e => M.own i r (h i r e), fun i j r s e1 e2 => M.dis i j r s (h i r e1) (h j s e2)⟩
theorem Mx.cons (M : Mx G w0 w R) (i : Nat) (r : Res) (hF : r.F w) (hdep : ∀ u u', Same r.fp u u' → r.F u → r.F u') (hlt : ∀ g, r.fp g → g < w.heap.size) (hown : r.wr = true → ∀ g, r.fp g → w0.heap.size ≤ g ∨ G = some g)
  (hdis : ∀ k s, look R k = some s → i ≠ k → (r.wr = true ∨ s.wr = true) → ∀ g, r.fp g → ¬ s.fp g) : Mx G w0 w ((i, r) :: R) := by
 refine ⟨M.grown, fun j s e => ?_, fun j s e => ?_, fun j s e => ?_, fun j s e => ?_, fun j k s t e1 e2 hjk hs g hg hg2 => ?_⟩
 ·rw [z5a] at e; split at e
  ·cases e; exact hF
  ·exact M.at_ j s e
 ·rw [z5a] at e; split at e
  ·cases e; exact hdep
  ·exact M.dep j s e
 ·rw [z5a] at e; split at e
  ·cases e; exact hlt
  ·exact M.lt j s e
 ·rw [z5a] at e; split at e
  ·cases e; exact hown
  ·exact M.own j s e
 ·rw [z5a] at e1 e2
  by_cases h1 : i = j
  ·rw [if_pos h1] at e1; cases e1
   rw [if_neg (fun e => hjk (h1.symm.trans e))] at e2
   exact hdis k t e2 (fun e => hjk (h1.symm.trans e)) (.inl hs) g hg hg2
  ·rw [if_neg h1] at e1
   by_cases h2 : i = k
   ·rw [if_pos h2] at e2; cases e2
    exact hdis j s e1 h1 (.inr hs) g hg2 hg
   ·rw [if_neg h2] at e2
    exact M.dis j k s t e1 e2 hjk hs g hg hg2
theorem Mx.fresh (M : Mx G w0 w R) (h : Below w.heap.size w w') (i : Nat) (r : Res) (hF : r.F w') (hdep : ∀ u u', Same r.fp u u' → r.F u → r.F u') (hlo : ∀ g, r.fp g → w.heap.size ≤ g ∧ g < w'.heap.size) : Mx G w0 w' ((i, r) :: R) :=
 (M.step h).cons i r hF hdep (fun g hg => (hlo g hg).2) (fun _ g hg => .inl (Nat.le_trans M.le (hlo g hg).1)) fun k s e _ _ g hg hg2 => by
  have := M.lt k s e g hg2
  have := (hlo g hg).1
  omega
theorem Mx.arg (M : Mx G w0 w R) (i : Nat) (r : Res) (hF : r.F w) (hdep : ∀ u u', Same r.fp u u' → r.F u → r.F u') (hw : r.wr = false) (hlo : ∀ g, r.fp g → g < w0.heap.size ∧ G ≠ some g) : Mx G w0 w ((i, r) :: R) :=
 M.cons i r hF hdep (fun g hg => Nat.lt_of_lt_of_le (hlo g hg).1 M.le) (fun e => by rw [hw] at e; cases e) fun k s e _ hh g hg hg2 => by
  rcases hh with hh | hh
  ·rw [hw] at hh; cases hh
  ·rcases M.own k s e hh g hg2 with h | h
   ·have := (hlo g hg).1; omega
   ·exact (hlo g hg).2 h
theorem Mx.part (M : Mx G w0 w R) (i : Nat) (r : Res) (hF : r.F w) (hdep : ∀ u u', Same r.fp u u' → r.F u → r.F u') (hw : r.wr = false) {k : Nat} {s : Res} (hk : look R k = some s) (hs : s.wr = false) (hlo : ∀ g, r.fp g → s.fp g) : Mx G w0 w ((i, r) :: R) :=
 M.cons i r hF hdep (fun g hg => M.lt k s hk g (hlo g hg)) (fun e => by rw [hw] at e; cases e) fun q t e _ hh g hg hg2 => by
  rcases hh with hh | hh
  ·rw [hw] at hh; cases hh
  ·exact M.dis q k t s e hk (fun e2 => by subst e2; rw [e] at hk; cases hk; rw [hs] at hh; cases hh) hh g hg2 (hlo g hg)
theorem Mx.write (M : Mx G w0 w R) {k : Nat} {s : Res} (hk : look R k = some s) (hs : s.wr = true) {row : Option Nat} (hb : w.grownBy w' row) (hrow : ∀ g, row = some g → s.fp g) (r : Res) (hF : r.F w') (hdep : ∀ u u', Same r.fp u u' → r.F u → r.F u')
  (hlo : ∀ g, r.fp g → g < w'.heap.size ∧ (s.fp g ∨ w.heap.size ≤ g)) : Mx G w0 w' ((k, r) :: R) := by
 have hG : w0.grownBy w' G := by
  refine ⟨hb.os.trans M.grown.os, hb.tape.trans M.grown.tape, hb.output.trans M.grown.output, Nat.le_trans M.grown.size hb.size, fun q hq hn => ?_⟩
  refine (hb.block q (Nat.lt_of_lt_of_le hq M.le) (fun e => ?_)).trans (M.grown.block q hq hn)
  rcases M.own k s hk hs q (hrow q e.symm) with h | h
  ·omega
  ·exact hn h.symm
 have keep : ∀ j t, look R j = some t → k ≠ j → Same t.fp w w' := fun j t e hkj => .of_grown hb fun g hg e2 => M.dis k j s t hk e hkj hs g (hrow g e2) hg
 refine ⟨hG, fun j t e => ?_, fun j t e => ?_, fun j t e => ?_, fun j t e ht g hg => ?_, fun j q t u e1 e2 hjq ht g hg hg2 => ?_⟩
 ·rw [z5a] at e; split at e
  ·cases e; exact hF
  ·rename_i hne; exact M.dep j t e w w' (keep j t e hne) (M.at_ j t e)
 ·rw [z5a] at e; split at e
  ·cases e; exact hdep
  ·exact M.dep j t e
 ·rw [z5a] at e; split at e
  ·cases e; exact fun g hg => (hlo g hg).1
  ·exact fun g hg => Nat.lt_of_lt_of_le (M.lt j t e g hg) hb.size
 ·rw [z5a] at e; split at e
  ·cases e
   rcases (hlo g hg).2 with h | h
   ·exact M.own k s hk hs g h
   ·exact .inl (Nat.le_trans M.le h)
  ·exact M.own j t e ht g hg
 ·rw [z5a] at e1 e2
  by_cases h1 : k = j
  ·rw [if_pos h1] at e1; cases e1
   have hkq : k ≠ q := fun e => hjq (h1.symm.trans e)
   rw [if_neg hkq] at e2
   rcases (hlo g hg).2 with h | h
   ·exact M.dis k q s u hk e2 hkq hs g h hg2
   ·have := M.lt q u e2 g hg2; omega
  ·rw [if_neg h1] at e1
   by_cases h2 : k = q
   ·rw [if_pos h2] at e2; cases e2
    rcases (hlo g hg2).2 with h | h
    ·exact M.dis k j s t hk e1 h1 hs g h hg
    ·have := M.lt j t e1 g hg; omega
   ·rw [if_neg h2] at e2
    exact M.dis j q t u e1 e2 hjq ht g hg hg2
end
def blkR (g : Nat) (t : TypeId) (c : Array Value) : Res := ⟨true, fun b => b = g, fun w => w.heap[g]? = some (.cells c t (0, 0))⟩
def blkO (g : Nat) (t : TypeId) (c : Array Value) : Res := ⟨false, fun b => b = g, fun w => w.heap[g]? = some (.cells c t (0, 0))⟩
theorem blkR_dep {g : Nat} {t : TypeId} {c : Array Value} : ∀ u u', Same (blkR g t c).fp u u' → (blkR g t c).F u → (blkR g t c).F u' := fun u u' hs h => hs g _ rfl h
section
variable {G : Option Nat} {w0 w w' : World} {R : List (Nat × Res)}
theorem Mx.alloc (M : Mx G w0 w R) (i : Nat) (t : TypeId) (c : Array Value) : Mx G w0 (w.alloc (.cells c t)) ((i, blkR w.heap.size t c) :: R) :=
 M.fresh (zga w _) i _ (heap_alloc_new _ _) blkR_dep (fun g hg => by cases hg; exact ⟨Nat.le_refl _, by simp⟩)
theorem Mx.newb (M : Mx G w0 w R) (h : Below w.heap.size w w') (i : Nat) {g : Nat} {t : TypeId} {c : Array Value} (hg : w.heap.size ≤ g) (hc : w'.heap[g]? = some (.cells c t (0, 0))) : Mx G w0 w' ((i, blkR g t c) :: R) :=
 M.fresh h i _ hc blkR_dep (fun b hb => by cases hb; exact ⟨hg, zyb hc⟩)
theorem Mx.theG {g : Nat} {t : TypeId} {c : Array Value} (h : w.heap[g]? = some (.cells c t (0, 0))) (i : Nat) : Mx (some g) w w [(i, blkR g t c)] :=
 (Mx.startG w g).cons i _ h blkR_dep (fun b hb => by cases hb; exact zyb h) (fun _ b hb => by cases hb; exact .inr rfl) fun k s e => by cases e
theorem Mx.put (M : Mx G w0 w R) {k g : Nat} {t : TypeId} {c c' : Array Value} (hk : look R k = some (blkR g t c)) (hg : w.grownBy w' (some g)) (hc : w'.heap[g]? = some (.cells c' t (0, 0))) : Mx G w0 w' ((k, blkR g t c') :: R) :=
 M.write hk rfl hg (fun b hb => by cases hb; rfl) _ hc blkR_dep (fun b hb => by cases hb; exact ⟨zyb hc, .inl rfl⟩)
theorem Mx.blk (M : Mx G w0 w R) {k g : Nat} {t : TypeId} {c : Array Value} (hk : look R k = some (blkR g t c)) : w.heap[g]? = some (.cells c t (0, 0)) := M.at_ k _ hk
theorem Mx.roB (M : Mx G w0 w R) {k g : Nat} {t : TypeId} {c : Array Value} (hk : look R k = some (blkO g t c)) : w.heap[g]? = some (.cells c t (0, 0)) := M.at_ k _ hk
end
section
variable {P : Program} {a : Act} {w : World} {o : Oper}
theorem y_cell {g k : Nat} {t : TypeId} {c : Array Value} (h : w.heap[g]? = some (.cells c t (0, 0))) {v : Value} (hk : c[k]? = some v) : w.cell? ⟨g, k, none⟩ = some v := by simp [World.cell?, h, hk]
def yPlain : TypeDesc → Bool
 | .struct _ => false
 | .array _ _ => false
 | _ => true
theorem zkb (ty : TypeId) (x : Operand) (ho : o.op = .load ty x) {g k : Nat} (hx : a.eval x = .pointer (some ⟨g, k, none⟩)) {t : TypeId} {c : Array Value} (hg : w.heap[g]? = some (.cells c t (0, 0))) {v : Value} (hv : c[k]? = some v) {d : TypeDesc} (hu : P.underlying ty = some d) (hd : yPlain d = true) : (execOp a.eval o).run P w = .ok (.value v) w := by
 have hc := y_cell hg hv
 have h1 : (isAgg ty).run P w = .ok false w := by
  unfold isAgg
  simp only [Sem.run_bind, run_underlying hu, Result.andThen_ok]
  cases d <;> first | rfl | cases hd
 unfold execOp
 simp only [ho, hx, Instr.loadAt, Instr.sureAddr, loadVar, Sem.run_bind, Sem.run_pure, Result.andThen_ok, h1, Bool.false_eq_true, if_false]
 simp [hc, Result.andThen]
theorem zxa (ty : TypeId) (x : Operand) (ho : o.op = .load ty x) {g k : Nat} (hx : a.eval x = .pointer (some ⟨g, k, none⟩)) {t : TypeId} {c : Array Value} (hg : w.heap[g]? = some (.cells c t (0, 0))) (s : Array Value) (hs : ∀ (j : Nat) (v : Value), s[j]? = some v → c[k + j]? = some v) {d : TypeDesc} (hu : P.underlying ty = some d)
  (hd : yPlain d = false) (hi : (P.info? ty).map (·.size) = some s.size) : (execOp a.eval o).run P w = .ok (.value (.agg s)) w := by
 have hl : (loadCells ⟨g, k, none⟩ s.toList.length).run P w = .ok s.toList.toArray w :=
  run_loadCells_list (P := P) w ⟨g, k, none⟩ s.toList (fun j v hv => by
   have hadd : (⟨g, k, none⟩ : Addr).add j = ⟨g, k + j, none⟩ := by unfold Addr.add; split <;> simp_all
   rw [hadd]
   exact y_cell hg (hs j v (by simpa using hv)))
 have hrun : (Instr.loadAt ty (.pointer (some ⟨g, k, none⟩))).run P w = .ok (.agg s) w := by
  simp only [Instr.loadAt, Instr.sureAddr, Sem.run_bind, Sem.run_pure, Result.andThen_ok]
  cases hq : P.info? ty with
  | none => simp [hq] at hi
  | some i =>
   have hz : i.size = s.size := by simpa [hq] using hi
   have hagg : (isAgg ty).run P w = .ok true w := by
    unfold isAgg
    rw [Sem.run_bind, run_underlying hu w]
    cases d <;> first | rfl | cases hd
   simp only [Array.length_toList, Array.toArray_toList] at hl
   simp [loadVar, Sem.run_bind, hagg, sizeOf, typeInfo, hq, hz, hl]
 unfold execOp
 simp only [ho, hx, Sem.run_bind, hrun, Result.andThen_ok, Sem.run_pure]
theorem z1a {s c : Array Value} (h : s = c) : ∀ (j : Nat) (v : Value), s[j]? = some v → c[0 + j]? = some v := fun j v e => by rw [Nat.zero_add, ← h]; exact e
theorem y_st (ty : TypeId) (x y : Operand) (ho : o.op = .store ty x y) {g k : Nat} (hx : a.eval x = .pointer (some ⟨g, k, none⟩)) {v : Value} (hy : a.eval y = v) {t : TypeId} {c : Array Value} (hg : w.heap[g]? = some (.cells c t (0, 0))) (s c' : Array Value) (hv : v.cells = s) (hos : k + s.size ≤ c.size) (h1 : s.all (·.oneCell') = true) (hc' : (c.toList.take k ++ s.toList ++ c.toList.drop (k + s.size)).toArray = c')
  (hi : (P.info? ty).map (·.size) = some s.size) : (execOp a.eval o).run P w = .ok .skip (w.setRow g c') := by
 have hrun : (Instr.storeAt ty (.pointer (some ⟨g, k, none⟩)) v).run P w = .ok () (w.setRow g c') := by
  simp only [Instr.storeAt, Instr.sureAddr, Sem.run_bind, Sem.run_pure, Result.andThen_ok]
  have := run_storeCells_at (P := P) g k t s.toList 0 c w hg (by simpa using hos) (fun v hv => (Array.all_eq_true_iff_forall_mem.1 h1) v (by simpa using hv))
  simp only [Nat.add_zero, Array.length_toList] at this
  rw [hc'] at this
  cases hq : P.info? ty with
  | none => simp [hq] at hi
  | some i =>
   have hz : i.size = s.size := by simpa [hq] using hi
   simp [storeVar, Sem.run_bind, sizeOf, typeInfo, hq, hz, hv, this]
 unfold execOp
 simp only [ho, hx, hy, Sem.run_bind, hrun, Result.andThen_ok, Sem.run_pure]
end
section
variable {P : Program} {ops : Array Oper} {Q : Exit → Act → World → Prop} {a : Act} {w w0 : World} {rest : List Oper} {o : Oper} {n : Nat} {G : Option Nat} {V : List (Nat × Value)} {R : List (Nat × Res)}
theorem zh (hw : Region.wanted o (yielded ops a.tmps) = true) {d : Nat} (hd : o.dst = some d) (F : Fx n a V ds) (hn : Nat.blt d n = true) (M : Mx G w0 w R) (i : Nat) {t : TypeId} {c : Array Value} (hr : (execOp a.eval o).run P w = .ok (.value (.pointer (some ⟨w.heap.size, 0, none⟩))) (w.alloc (.cells c t)))
  (h : ∀ g a' w', Fx n a' ((d, .pointer (some ⟨g, 0, none⟩)) :: V) ds → Mx G w0 w' ((i, blkR g t c) :: R) → wpList P ops Q rest a' w') : wpList P ops Q (o :: rest) a w :=
 zj hw hd F hn _ hr fun a' F' => h _ a' _ F' (M.alloc i t c)
theorem zr (hw : Region.wanted o (yielded ops a.tmps) = true) (hd : o.dst = none) (F : Fx n a V ds) (M : Mx G w0 w R) {k g off : Nat} {t : TypeId} {c : Array Value} (hk : look R k = some (blkR g t c)) (ty : TypeId) (x y : Operand) (ho : o.op = .store ty x y) (hx : a.eval x = .pointer (some ⟨g, off, none⟩)) {v : Value} (hy : a.eval y = v)
  (s c' : Array Value) (hv : v.cells = s) (hos : off + s.size ≤ c.size) (h1 : s.all (·.oneCell') = true) (hc' : (c.toList.take off ++ s.toList ++ c.toList.drop (off + s.size)).toArray = c') (hi : (P.info? ty).map (·.size) = some s.size)
  (h : ∀ w', Mx G w0 w' ((k, blkR g t c') :: R) → wpList P ops Q rest a w') : wpList P ops Q (o :: rest) a w :=
 wl_do hw hd F (y_st ty x y ho hx hy (M.blk hk) s c' hv hos h1 hc' hi) (h _ (M.put hk (zfb _ _ _) (setRow_heap w g c c' t (0, 0) (M.blk hk))))
end
theorem zo {c s : Array Value} (h : c.size = s.size) : (c.toList.take 0 ++ s.toList ++ c.toList.drop (0 + s.size)).toArray = s := by
 apply Array.ext'
 simp [h]
section
variable {a : Act} {w : World} {o : Oper}
theorem y_ext {P : Program} (x : Operand) (i : Nat) (ho : o.op = .extract x i) {vs : Array Value} (hx : a.eval x = .tuple vs) {v : Value} (hv : vs[i]? = some v) : (execOp a.eval o).run P w = .ok (.value v) w := by
 unfold execOp
 simp only [ho, hx, Instr.extract, hv]
 rfl
end
theorem args0 {f : Operand → Value} : (#[] : Array Operand).map f = #[] := by simp
theorem zwa {f : Operand → Value} {x1 : Operand} {v1 : Value} (h1 : f x1 = v1) : #[x1].map f = #[v1] := by subst h1; simp
theorem z3a {f : Operand → Value} {x1 x2 : Operand} {v1 v2 : Value} (h1 : f x1 = v1) (h2 : f x2 = v2) : #[x1, x2].map f = #[v1, v2] := by subst h1 h2; simp
theorem args3 {f : Operand → Value} {x1 x2 x3 : Operand} {v1 v2 v3 : Value} (h1 : f x1 = v1) (h2 : f x2 = v2) (h3 : f x3 = v3) : #[x1, x2, x3].map f = #[v1, v2, v3] := by subst h1 h2 h3; simp
theorem args4 {f : Operand → Value} {x1 x2 x3 x4 : Operand} {v1 v2 v3 v4 : Value} (h1 : f x1 = v1) (h2 : f x2 = v2) (h3 : f x3 = v3) (h4 : f x4 = v4) : #[x1, x2, x3, x4].map f = #[v1, v2, v3, v4] := by subst h1 h2 h3 h4; simp
theorem zca {P : Program} {f : FuncId} {args : Array Value} {w : World} {v : Value} {G : World → Prop} (h : Calls P f args w fun e w' => e = .returned v ∧ G w') : Calls P f args w fun e w' => ∃ u, e = .returned u ∧ (u = v ∧ G w') :=
 h.mono fun e w' h => ⟨v, h.1, rfl, h.2⟩
section
variable {a : Act} {w : World} {o : Oper} {k : IntKind} {p q : Int} {b : Bool} (ty tz : TypeId) (x y : Operand)
theorem y_lss (ho : o.op = .binOp .lss ty x y tz) (hx : a.eval x = .int k p) (hy : a.eval y = .int k q) (hb : decide (p < q) = b) : (execOp a.eval o).run Tryz.prog w = .ok (.value (.bool b)) w := by
 subst hb; unfold execOp; simp only [ho, hx, hy]; simp [go_sem]
theorem y_leq (ho : o.op = .binOp .leq ty x y tz) (hx : a.eval x = .int k p) (hy : a.eval y = .int k q) (hb : decide (p ≤ q) = b) : (execOp a.eval o).run Tryz.prog w = .ok (.value (.bool b)) w := by
 subst hb; unfold execOp; simp only [ho, hx, hy]; simp [go_sem]
theorem y_gtr (ho : o.op = .binOp .gtr ty x y tz) (hx : a.eval x = .int k p) (hy : a.eval y = .int k q) (hb : decide (q < p) = b) : (execOp a.eval o).run Tryz.prog w = .ok (.value (.bool b)) w := by
 subst hb; unfold execOp; simp only [ho, hx, hy]; simp [go_sem]
theorem y_geq (ho : o.op = .binOp .geq ty x y tz) (hx : a.eval x = .int k p) (hy : a.eval y = .int k q) (hb : decide (q ≤ p) = b) : (execOp a.eval o).run Tryz.prog w = .ok (.value (.bool b)) w := by
 subst hb; unfold execOp; simp only [ho, hx, hy]; simp [go_sem]
theorem y_eqB {p q : Bool} (ho : o.op = .binOp .eql 4 x y 4) (hx : a.eval x = .bool p) (hy : a.eval y = .bool q) (hb : (p == q) = b) : (execOp a.eval o).run Tryz.prog w = .ok (.value (.bool b)) w := by
 subst hb; unfold execOp; simp only [ho, hx, hy]; simp [go_sem]
theorem y_eqI (ho : o.op = .binOp .eql ty x y tz) (hx : a.eval x = .int k p) (hy : a.eval y = .int k q) (hu : Tryz.prog.underlying ty = some (.int k)) (hb : (p == q) = b) : (execOp a.eval o).run Tryz.prog w = .ok (.value (.bool b)) w := by
 subst hb; unfold execOp; simp only [ho, hx, hy]; simp [go_sem, run_underlying hu]
theorem y_neI (ho : o.op = .binOp .neq ty x y tz) (hx : a.eval x = .int k p) (hy : a.eval y = .int k q) (hu : Tryz.prog.underlying ty = some (.int k)) (hb : (p != q) = b) : (execOp a.eval o).run Tryz.prog w = .ok (.value (.bool b)) w := by
 subst hb; unfold execOp; simp only [ho, hx, hy]; simp [go_sem, run_underlying hu]
theorem y_addI (ho : o.op = .binOp .add ty x y tz) (hx : a.eval x = .int .i64 p) (hy : a.eval y = .int .i64 q) {z : Int} (hz : p + q = z) (h0 : -9223372036854775808 ≤ z ∧ z < 9223372036854775808) : (execOp a.eval o).run Tryz.prog w = .ok (.value (.int .i64 z)) w := by
 subst hz; unfold execOp; simp only [ho, hx, hy]; simp [go_sem, Go.IntWalk.i64_in (p + q) (by omega)]
theorem y_subI (ho : o.op = .binOp .sub ty x y tz) (hx : a.eval x = .int .i64 p) (hy : a.eval y = .int .i64 q) {z : Int} (hz : p - q = z) (h0 : -9223372036854775808 ≤ z ∧ z < 9223372036854775808) : (execOp a.eval o).run Tryz.prog w = .ok (.value (.int .i64 z)) w := by
 subst hz; unfold execOp; simp only [ho, hx, hy]; simp [go_sem, Go.IntWalk.i64_in (p - q) (by omega)]
theorem y_mulI (ho : o.op = .binOp .mul ty x y tz) (hx : a.eval x = .int .i64 p) (hy : a.eval y = .int .i64 q) {z : Int} (hz : p * q = z) (h0 : -9223372036854775808 ≤ z ∧ z < 9223372036854775808) : (execOp a.eval o).run Tryz.prog w = .ok (.value (.int .i64 z)) w := by
 have e : IntKind.i64.wrap (p * q) = z := by rw [hz, IntKind.wrap_i64]; omega
 unfold execOp; simp only [ho, hx, hy]; simp [go_sem, e]
end
theorem y_eqV {a : Act} {w : World} {o : Oper} (ty tz : TypeId) (x y : Operand) {u v : Value} {b : Bool} (ho : o.op = .binOp .eql ty x y tz) (hx : a.eval x = u) (hy : a.eval y = v) (hg : (eqGuard .eql ty x y u v).run Tryz.prog w = .ok () w) (hr : (binOp .eql ty u v).run Tryz.prog w = .ok (.bool b) w) : (execOp a.eval o).run Tryz.prog w = .ok (.value (.bool b)) w := by
 unfold execOp; simp only [ho, hx, hy]; simp [hr, hg, Result.andThen]
theorem y_eqA {a : Act} {w : World} {o : Oper} (ty tz : TypeId) (x y : Operand) {c d : Array Value} {b : Bool} (ho : o.op = .binOp .eql ty x y tz) (hx : a.eval x = .agg c) (hy : a.eval y = .agg d) (hgt : Tryz.prog.eqGuardType Tryz.prog.depth ty = false) (h : (Op.equalIn 10000 ty (.agg c) (.agg d)).run Tryz.prog w = .ok b w) : (execOp a.eval o).run Tryz.prog w = .ok (.value (.bool b)) w := by
 refine y_eqV ty tz x y ho hx hy ?_ ?_
 ·simp [eqGuard, go_sem, hgt]
 ·simp [binOp, go_sem, h, Op.maxDepth, Op.equal]
theorem zqa {P : Program} {f : FuncId} {args : Array Value} {w : World} {v : Value} (h : Calls P f args w fun e w' => e = .returned v ∧ Below w.heap.size w w') : Calls P f args w fun e w' => ∃ u, e = .returned u ∧ Below w.heap.size w w' ∧ (StK.eq v).F w' u :=
 h.mono fun e w' h => ⟨v, h.1, h.2, rfl⟩
theorem zE {P : Program} {f : FuncId} {fn : Func} {c : Code} (hf : P.funcs[f]? = some fn) (hb : fn.body = some c) (hname : (fn.name == "runtime.NumGoroutine") = false := by kernel_rfl) : Enters P f := enters_of hf hname hb
abbrev zN : Value := .slice none 0 0
theorem zL {n m : Nat} (h : Nat.ble n m = true) : n ≤ m := Nat.le_of_ble_eq_true h
theorem zSk {P : Program} {x y : Code} {Q : Exit → Act → World → Prop} {a : Act} {w : World} (h : ∀ K : Act → World → Prop, (∀ a w, y.wp P Q a w → K a w) → x.wp P (Exit.then K Q) a w) : (Code.seq x y).wp P Q a w := wp_seq_k h
theorem zR {P : Program} {Q : Exit → Act → World → Prop} {a : Act} {w : World} {id : Nat} {l : List Oper} (h : wpList P l.toArray Q l a w) : (Code.region id l.toArray false).wp P Q a w := wp_region_lit h
theorem zT {P : Program} {y : Code} {Q : Exit → Act → World → Prop} {a : Act} {w : World} {id : Nat} {l : List Oper} (h : ∀ K : Act → World → Prop, (∀ a w, y.wp P Q a w → K a w) → wpList P l.toArray (Exit.then K Q) l a w) : (Code.seq (Code.region id l.toArray false) y).wp P Q a w := wp_seq_k fun K hK => wp_region_lit (h K hK)
theorem zQ1 {p : Prop} {a b c : Value} (h : p ∧ a = b ∧ b = c) : a = c := h.2.1.trans h.2.2
theorem zQ2 {p : Prop} {a b c : Value} (h : p ∧ a = b ∧ b = c) : p ∧ a = c := ⟨h.1, h.2.1.trans h.2.2⟩
end Go.Proofs.YtcfepoopkfhojaaGreat
