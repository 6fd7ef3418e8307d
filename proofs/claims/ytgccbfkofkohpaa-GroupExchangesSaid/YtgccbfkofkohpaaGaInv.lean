/- Regions that draw their order and end in one store: all ahead of the store may make memory (its values lie in none); then the store. -/
import Derived.Test.YtgccbfkofkohpaaGaKn
import Derived.StillTail
import Derived.Barred
import Derived.Deep.CutRange
namespace Go.Proofs.Ytgccbfkofkohpaa
set_option linter.unusedVariables false
set_option maxRecDepth 20000
set_option linter.unusedSimpArgs false
open Go.ChangeShapes Go.WideShapes Go.ChangeAt Go.RowKit

/-- The last operation made harmless; all but the last; the last. -/
def calm : List Oper → List Oper
  | [] => []
  | [t] => [{ t with op := .move (.const undef) }]
  | o :: p :: rest => o :: calm (p :: rest)
def headOps : List Oper → List Oper
  | [] => []
  | [_] => []
  | o :: p :: rest => o :: headOps (p :: rest)
theorem calm_spec : ∀ (l : List Oper) (t : Oper), calm (l ++ [t]) = l ++ [{ t with op := .move (.const undef) }]
  | [], t => rfl
  | [o], t => rfl
  | o :: p :: l, t => by
    have := calm_spec (p :: l) t
    simp only [List.cons_append, calm] at this ⊢
    rw [this]
theorem head_spec : ∀ (l : List Oper) (t : Oper), headOps (l ++ [t]) = l
  | [], t => rfl
  | [o], t => rfl
  | o :: p :: l, t => by
    have := head_spec (p :: l) t
    simp only [List.cons_append, headOps] at this ⊢
    rw [this]
/-- Each edge leads back; the last operation waits for all others. -/
def backB (ops : Array Oper) : Bool := (List.range ops.size).all fun i => ((ops[i]?).map fun o => o.after.all fun e => !Region.binds .any e || decide (e.on < i)).getD true
def sinkB (ops : Array Oper) (n : Nat) : Bool := (List.range n).all fun i => Region.waitsFor .any ops n i
theorem backB_spec {ops : Array Oper} (h : backB ops = true) {i : Nat} {o : Oper} (ho : ops[i]? = some o) : ∀ e ∈ o.after, Region.binds .any e = true → e.on < i := by
  intro e he hb
  have hi : i < ops.size := (Array.getElem?_eq_some_iff.1 ho).1
  have h1 := List.all_eq_true.1 h i (List.mem_range.2 hi)
  rw [ho] at h1
  simp only [Option.map_some, Option.getD_some, Array.all_eq_true_iff_forall_mem] at h1
  have h2 := h1 e he
  simp [hb] at h2
  exact h2
theorem ready_of_unlisted {ops : Array Oper} (hE : backB ops = true) {listed : Array Bool} (hs : listed.size = ops.size) : ∀ (n : Nat), n < ops.size → listed.getD n true = false → Region.ready .any ops listed ≠ [] := by
  intro n
  induction n using Nat.strongRecOn with
  | _ n ih =>
    intro hn hu h0
    obtain ⟨o, ho⟩ : ∃ o, ops[n]? = some o := ⟨ops[n], Array.getElem?_eq_getElem hn⟩
    by_cases hall : ∀ e ∈ o.after, Region.binds .any e = true → listed.getD e.on false = true
    · have : n ∈ Region.ready .any ops listed := mem_ready.2 ⟨hu, o, ho, hall⟩
      rw [h0] at this
      cases this
    · obtain ⟨e, he⟩ := Classical.not_forall.1 hall
      obtain ⟨he1, he2⟩ := Classical.not_imp.1 he
      obtain ⟨hb, hl⟩ := Classical.not_imp.1 he2
      have hlt := backB_spec hE ho e he1 hb
      refine ih e.on hlt (by omega) ?_ h0
      have : listed.getD e.on false = false := by simpa using hl
      exact getD_in (by omega) this

section
variable {P : Program} {C : World → Prop} {l : List Oper} {t : Oper} {Q : Exit → Act → World → Prop}
theorem calm_get (i : Nat) : (l ++ [{ t with op := .move (.const undef) }] : List Oper).toArray[i]? = ((l ++ [t]).toArray[i]?).map fun o => if i = l.length then { o with op := .move (.const undef) } else o := by
  simp only [List.getElem?_toArray]
  by_cases h : i < l.length
  · rw [List.getElem?_append_left h, List.getElem?_append_left h]
    have hne : ¬ i = l.length := by omega
    cases l[i]? <;> simp [hne]
  · by_cases h2 : i = l.length
    · subst h2; simp
    · rw [List.getElem?_eq_none (by simp; omega), List.getElem?_eq_none (by simp; omega)]; rfl
theorem calm_ready (listed : Array Bool) : Region.ready .any (l ++ [{ t with op := .move (.const undef) }] : List Oper).toArray listed = Region.ready .any (l ++ [t]).toArray listed := by
  unfold Region.ready
  have hsz : (l ++ [{ t with op := .move (.const undef) }] : List Oper).toArray.size = (l ++ [t]).toArray.size := by simp
  rw [hsz]
  apply List.filter_congr
  intro i hi
  rw [calm_get]
  cases (l ++ [t]).toArray[i]? with
  | none => rfl
  | some o => simp only [Option.map_some]; split <;> rfl
theorem calm_yielded (tmps : Array Value) : yielded (l ++ [{ t with op := .move (.const undef) }] : List Oper).toArray tmps = yielded (l ++ [t]).toArray tmps := by
  funext j
  unfold yielded
  rw [calm_get]
  cases (l ++ [t]).toArray[j]? with
  | none => rfl
  | some o =>
    simp only [Option.map_some]
    by_cases hj : j = l.length
    · rw [if_pos hj]; rfl
    · rw [if_neg hj]
theorem getD_set_same {listed : Array Bool} {n : Nat} : (listed.setIfInBounds n true).getD n true = true := by
  by_cases h : n < listed.size
  · simp [h]
  · simp [Array.getElem?_eq_none (by simpa using h : listed.size ≤ n)]
theorem wpAny_of_calm (hE : backB (l ++ [t]).toArray = true) (hS : sinkB (l ++ [t]).toArray l.length = true) (hd : t.dst = none) (hg : t.guard = none) :
    ∀ (fuel : Nat) (listed : Array Bool) (a : Act) (w : World), C w → listed.size = (l ++ [t]).toArray.size → listed.getD l.length true = false →
      wpAnyQ P .any (l ++ [{ t with op := .move (.const undef) }] : List Oper).toArray C (fun a' => ∀ w', C w' → wpList P (l ++ [t]).toArray Q [t] a' w') fuel listed a →
      wpAny P .any (l ++ [t]).toArray Q fuel listed a w := by
  intro fuel
  induction fuel with
  | zero =>
    intro listed a w hC hs hu h
    have h1 := h.1
    rw [calm_ready] at h1
    exact absurd h1 (ready_of_unlisted hE hs l.length (by simp) hu)
  | succ fuel ih =>
    intro listed a w hC hs hu h
    refine ⟨fun h0 => absurd h0 (ready_of_unlisted hE hs l.length (by simp) hu), fun i hi => ?_⟩
    have h2 := h.2 i (by rw [calm_ready]; exact hi)
    have hsz : (listed.setIfInBounds i true).size = (l ++ [t]).toArray.size := by simpa using hs
    by_cases hin : i = l.length
    · subst hin
      have ht : (l ++ [t]).toArray[l.length]? = some t := by simp
      have ht' : (l ++ [{ t with op := .move (.const undef) }] : List Oper).toArray[l.length]? = some { t with op := .move (.const undef) } := by simp
      have hall : Region.ready .any (l ++ [t]).toArray (listed.setIfInBounds l.length true) = [] := by
        apply List.eq_nil_iff_forall_not_mem.2
        intro j hj
        obtain ⟨hju, oj, hoj, _⟩ := mem_ready.1 hj
        obtain ⟨_, on, hon, hwait⟩ := mem_ready.1 hi
        have : on = t := Option.some.inj (hon.symm.trans ht)
        subst this
        have hjlt : j < (l ++ [on]).toArray.size := (Array.getElem?_eq_some_iff.1 hoj).1
        by_cases hjn : j = l.length
        · subst hjn
          rw [getD_set_same] at hju
          cases hju
        · have hjl : j < l.length := by simp at hjlt; omega
          have h3 := List.all_eq_true.1 hS j (List.mem_range.2 hjl)
          obtain ⟨o', ho', e, he, hb, hon'⟩ := Region.waitsFor_spec h3
          have : o' = on := Option.some.inj (ho'.symm.trans ht)
          subst this
          have h4 := hwait e he hb
          rw [hon'] at h4
          rw [getD_set_ne true (fun e => hjn e.symm)] at hju
          have := getD_both hju
          rw [this] at h4
          cases h4
      have hT : ∀ w', C w' → wpList P (l ++ [t]).toArray Q [t] a w' := by
        unfold qOp at h2
        rw [ht'] at h2
        have hw : Region.wanted { t with op := .move (.const undef) } (yielded (l ++ [{ t with op := .move (.const undef) }] : List Oper).toArray a.tmps) = true := by simp [Region.wanted, hg]
        dsimp only at h2
        rw [if_pos hw] at h2
        obtain ⟨v, _, h3⟩ := h2
        have e : a.put t.dst v = a := by rw [hd]; rfl
        change wpAnyQ _ _ _ _ _ _ _ (a.put t.dst v) at h3
        rw [e] at h3
        cases fuel with
        | zero => exact h3.2
        | succ f => exact h3.1 (by rw [calm_ready]; exact hall)
      have h5 := hT w hC
      unfold wpList at h5
      unfold wpOp
      simp only [ht]
      simp only [Region.wanted, hg, if_true] at h5 ⊢
      refine h5.imp (Oper.wp_mono fun a' w' h6 => ?_) id
      have h7 : Q .normal a' w' := h6
      cases fuel with
      | zero => exact ⟨hall, h7⟩
      | succ f => exact ⟨fun _ => h7, fun j hj => by rw [hall] at hj; cases hj⟩
    · have hq : qOp P (l ++ [t]).toArray C i (wpAnyQ P .any (l ++ [{ t with op := .move (.const undef) }] : List Oper).toArray C (fun a' => ∀ w', C w' → wpList P (l ++ [t]).toArray Q [t] a' w') fuel (listed.setIfInBounds i true)) a := by
        unfold qOp at h2 ⊢
        rw [calm_get, calm_yielded] at h2
        cases ho : (l ++ [t]).toArray[i]? with
        | none => rw [ho] at h2; exact h2
        | some o =>
          rw [ho] at h2
          simp only [Option.map_some, if_neg hin] at h2
          exact h2
      refine wpOp_of_qOp hC (fun a' w' hw' h6 => ih _ a' w' hw' hsz ?_ h6) hq
      rw [getD_set_ne true hin]
      exact hu
theorem wpQuiet_mono' {ops : Array Oper} {K K' : Act → Prop} (hk : ∀ a, K a → K' a) : ∀ (l : List Oper) (a : Act), wpQuiet P ops C K l a → wpQuiet P ops C K' l a
  | [], a, h => hk a h
  | o :: l, a, h => by
    unfold wpQuiet at h ⊢
    split
    · rename_i hw
      rw [if_pos hw] at h
      exact Oper.quiet_mono (fun a' h' => wpQuiet_mono' hk l a' h') h
    · rename_i hw
      rw [if_neg hw] at h
      exact wpQuiet_mono' hk l _ h
theorem wpQuiet_append {ops : Array Oper} {K : Act → Prop} : ∀ (l : List Oper) (r : List Oper) (a : Act), wpQuiet P ops C (fun a' => wpQuiet P ops C K r a') l a → wpQuiet P ops C K (l ++ r) a
  | [], r, a, h => h
  | o :: l, r, a, h => by
    rw [List.cons_append]
    unfold wpQuiet at h ⊢
    split
    · rename_i hw
      rw [if_pos hw] at h
      exact Oper.quiet_mono (fun a' h' => wpQuiet_append l r a' h') h
    · rename_i hw
      rw [if_neg hw] at h
      exact wpQuiet_append l r _ h
end
def lastOk (L : List Oper) : Bool := (L.getLast?.map fun t => t.dst.isNone && t.guard.isNone).getD false
def tailOps (L : List Oper) : List Oper := L.drop (headOps L).length
/-- **A region that draws its order and ends in a store that waits for all else.** -/
theorem wp_region_tail {P : Program} {id : Nat} {Q : Exit → Act → World → Prop} {a : Act} {W : World} {L : List Oper} (hm : P.follows .mixedOrders = true) (hB : Region.lexB .any (calm L).toArray = true) (hE : backB L.toArray = true)
    (hS : sinkB L.toArray (headOps L).length = true) (hO : lastOk L = true)
    (h : wpQuiet P (calm L).toArray (fun w' => ∃ x : Later W, w' = x.w) (fun a' => ∀ x : Later W, wpList P L.toArray Q (tailOps L) a' x.w) (headOps L) a) : (Code.region id L.toArray true).wp P Q a W := by
  rcases List.eq_nil_or_concat L with rfl | ⟨l, t, rfl⟩
  · cases hO
  rw [List.concat_eq_append] at *
  rw [head_spec] at hS h
  rw [calm_spec] at hB h
  have ht : tailOps (l ++ [t]) = [t] := by unfold tailOps; rw [head_spec]; simp
  rw [ht] at h
  have hO' : t.dst = none ∧ t.guard = none := by
    unfold lastOk at hO
    simp at hO
    exact hO
  obtain ⟨hd, hg⟩ := hO'
  refine wp_region_any hm (wpAny_of_calm (C := fun w' => ∃ x : Later W, w' = x.w) hE hS hd hg _ _ _ _ ⟨⟨_, step_drew W⟩, rfl⟩ (by simp) (by simp) ?_)
  simp only [Region.lexB, Bool.and_eq_true] at hB
  have e : (fun a' => ∀ w', (∃ x : Later W, w' = x.w) → wpList P (l ++ [t]).toArray Q [t] a' w') = (fun a' => ∀ x : Later W, wpList P (l ++ [t]).toArray Q [t] a' x.w) := by
    funext a'
    apply propext
    exact ⟨fun h x => h _ ⟨x, rfl⟩, fun h w' ⟨x, e⟩ => by rw [e]; exact h x⟩
  rw [e]
  have hq : wpQuiet P (l ++ [{ t with op := .move (.const undef) }] : List Oper).toArray (fun w' => ∃ x : Later W, w' = x.w) (fun a' => ∀ x : Later W, wpList P (l ++ [t]).toArray Q [t] a' x.w) (l ++ [{ t with op := .move (.const undef) }]) a := by
    refine wpQuiet_append l _ a ?_
    have h2 : ∀ a', (∀ x : Later W, wpList P (l ++ [t]).toArray Q [t] a' x.w) → wpQuiet P (l ++ [{ t with op := .move (.const undef) }] : List Oper).toArray (fun w' => ∃ x : Later W, w' = x.w) (fun a' => ∀ x : Later W, wpList P (l ++ [t]).toArray Q [t] a' x.w) [{ t with op := .move (.const undef) }] a' := by
      intro a' h'
      have hw : Region.wanted { t with op := .move (.const undef) } (yielded (l ++ [{ t with op := .move (.const undef) }] : List Oper).toArray a'.tmps) = true := by simp [Region.wanted, hg]
      refine BigFrame.wpQuiet_want hw fun K hK => BigFrame.quiet_move (.const undef) rfl ?_
      refine hK _ ?_
      have e : a'.put t.dst (a'.eval (.const undef)) = a' := by rw [hd]; rfl
      show wpQuiet _ _ _ _ [] (a'.put t.dst (a'.eval (.const undef)))
      rw [e]
      exact h'
    exact wpQuiet_mono' h2 l a h
  have := wpAnyQ_lex (C := fun w' => ∃ x : Later W, w' = x.w) (md := .any) hB.1 (l ++ [{ t with op := .move (.const undef) }]) 0 (Array.replicate (l ++ [{ t with op := .move (.const undef) }] : List Oper).toArray.size false) a (by simp) (by simpa using hB.2) hq
  simpa using this
end Go.Proofs.Ytgccbfkofkohpaa
namespace Go.Proofs.Ytgccbfkofkohpaa
set_option linter.unusedVariables false
set_option maxRecDepth 20000
set_option linter.unusedSimpArgs false
open Go.ChangeShapes Go.WideShapes Go.ChangeAt Go.RowKit

section
variable {P : Program} {md : Region.Mode} {ops : Array Oper} {Q : Exit → Act → World → Prop}
theorem wpOp_mono {i : Nat} {K K' : Act → World → Prop} {a : Act} {w : World} (h : ∀ a w, K a w → K' a w) (hh : wpOp P ops Q i K a w) : wpOp P ops Q i K' a w := by
  unfold wpOp at *
  cases ho : ops[i]? with
  | none => rw [ho] at hh; exact h _ _ hh
  | some o =>
    rw [ho] at hh
    dsimp only at hh ⊢
    split
    · rename_i hw
      rw [if_pos hw] at hh
      exact hh.imp (Oper.wp_mono h) id
    · rename_i hw
      rw [if_neg hw] at hh
      exact h _ _ hh
theorem count_listed {listed : Array Bool} {i : Nat} (h : listed.getD i true = false) : (listed.setIfInBounds i true).toList.count false + 1 = listed.toList.count false := by
  have hi : i < listed.size := by
    refine Nat.lt_of_not_le fun hn => ?_
    rw [Array.getD_eq_getD_getElem?, Array.getElem?_eq_none hn] at h
    cases h
  have he : listed.toList[i]'(by simpa using hi) = false := by
    rw [Array.getD_eq_getD_getElem?, Array.getElem?_eq_getElem hi] at h
    simpa using h
  have hm : false ∈ listed.toList := by rw [← he]; exact List.getElem_mem _
  have hp := List.count_pos_iff.2 hm
  rw [Array.toList_setIfInBounds, List.count_set (by simpa using hi), he, if_pos (by decide), if_neg (by decide)]
  omega
/-- **A region's orders, by an invariant.** -/
theorem wpAny_inv (Inv : Array Bool → Act → World → Prop)
    (hstep : ∀ listed a w i, listed.size = ops.size → Inv listed a w → i ∈ Region.ready md ops listed → wpOp P ops Q i (fun a' w' => Inv (listed.setIfInBounds i true) a' w') a w)
    (hend : ∀ listed a w, listed.size = ops.size → Inv listed a w → Region.ready md ops listed = [] → Q .normal a w) :
    ∀ (fuel : Nat) (listed : Array Bool) (a : Act) (w : World), listed.size = ops.size → listed.toList.count false ≤ fuel → Inv listed a w → wpAny P md ops Q fuel listed a w := by
  intro fuel
  induction fuel with
  | zero =>
    intro listed a w hs hc hI
    have h0 : Region.ready md ops listed = [] := by
      apply List.eq_nil_iff_forall_not_mem.2
      intro j hj
      have := count_listed (mem_ready.1 hj).1
      omega
    exact ⟨h0, hend listed a w hs hI h0⟩
  | succ fuel ih =>
    intro listed a w hs hc hI
    refine ⟨fun h0 => hend listed a w hs hI h0, fun i hi => ?_⟩
    refine wpOp_mono (fun a' w' h' => ih _ a' w' (by simpa using hs) ?_ h') (hstep listed a w i hs hI hi)
    have := count_listed (mem_ready.1 hi).1
    omega
end
theorem wp_region_inv {P : Program} {ops : Array Oper} {Q : Exit → Act → World → Prop} {id : Nat} {a : Act} {w : World} (hm : P.follows .mixedOrders = true) (Inv : Array Bool → Act → World → Prop)
    (hstart : Inv (Array.replicate ops.size false) a w.drew)
    (hstep : ∀ listed a w i, listed.size = ops.size → Inv listed a w → i ∈ Region.ready .any ops listed → wpOp P ops Q i (fun a' w' => Inv (listed.setIfInBounds i true) a' w') a w)
    (hend : ∀ listed a w, listed.size = ops.size → Inv listed a w → Region.ready .any ops listed = [] → Q .normal a w) : (Code.region id ops true).wp P Q a w :=
  wp_region_any hm (wpAny_inv Inv hstep hend _ _ _ _ (by simp) (by simp [List.count_replicate]) hstart)
end Go.Proofs.Ytgccbfkofkohpaa
namespace Go.Proofs.Ytgccbfkofkohpaa
set_option linter.unusedVariables false
set_option maxRecDepth 20000
set_option linter.unusedSimpArgs false
open Go.ChangeShapes Go.WideShapes Go.ChangeAt Go.RowKit

/-! One call ends in one value. -/
def lastStop (P : Program) : Frame := { Frame.ofRow P "" #[] .normal with todo := [.extern "" #[], .code (.refuse "")] }
theorem lastStop_ends (P : Program) (v : Value) (w : World) : ∃ o, step P (lone ((lastStop P).finish v) [] w) = .ended o w :=
  ⟨_, step_lone_ended (by simp only [lastStop, Frame.ofRow, Frame.finish, stepG, stepG.exec]; rfl)⟩
theorem calls_reach {P : Program} {f : FuncId} {args : Array Value} {w : World} {v : Value} {R : World → Prop} (h : Calls P f args w fun e w' => e = .returned v ∧ R w') :
    ∃ n w', runN P n (lone (Frame.enter P f args .normal) [lastStop P] w) = .next (lone ((lastStop P).finish v) [] w') := by
  obtain ⟨e, w', fr, ⟨he, hR⟩, hc, hfn, hl⟩ := h [lastStop P]
  subst he
  obtain ⟨n, hn⟩ := hc
  refine ⟨n + 1, w', ?_⟩
  rw [runN_add, hn]
  simp only [runN, step_leave_returned hl]
theorem runN_past {P : Program} {m : Machine} {o : Outcome} {w : World} (h : step P m = .ended o w) : ∀ n, n ≠ 0 → ∀ m', runN P n m ≠ .next m'
  | 0, hn, _ => absurd rfl hn
  | n + 1, _, m' => by simp only [runN, h]; exact fun h => by cases h
theorem calls_det {P : Program} {f : FuncId} {args : Array Value} {w : World} {v u : Value} {R S : World → Prop} (h : Calls P f args w fun e w' => e = .returned v ∧ R w')
    (k : Calls P f args w fun e w' => e = .returned u ∧ S w') : v = u := by
  obtain ⟨n, w1, hn⟩ := calls_reach h
  obtain ⟨m, w2, hm⟩ := calls_reach k
  have key : ∀ (n m : Nat) (v u : Value) (w1 w2 : World), n ≤ m → runN P n (lone (Frame.enter P f args .normal) [lastStop P] w) = .next (lone ((lastStop P).finish v) [] w1) →
      runN P m (lone (Frame.enter P f args .normal) [lastStop P] w) = .next (lone ((lastStop P).finish u) [] w2) → v = u := by
    intro n m v u w1 w2 hle hn hm
    obtain ⟨c, rfl⟩ := Nat.exists_eq_add_of_le hle
    rw [runN_add, hn] at hm
    by_cases hc : c = 0
    · subst hc
      simp only [runN] at hm
      have := congrArg (fun s => match s with | Stepped.next m => (m.gs[0]?).map fun (g : Goroutine) => g.frame.tmps | _ => none) hm
      simpa [lone, lastStop, Frame.ofRow, Frame.finish] using this
    · obtain ⟨o, ho⟩ := lastStop_ends P v w1
      exact absurd hm (runN_past ho c hc _)
  rcases Nat.le_total n m with hle | hle
  · exact key n m v u w1 w2 hle hn hm
  · exact (key m n u v w2 w1 hle hm hn).symm
theorem quietAt_det {P : Program} {o : Oper} {a : Act} {C D : World → Prop} {w : World} {v u : Value} (h : o.quietAt P a C w v) (k : o.quietAt P a D w u) : v = u := by
  unfold Oper.quietAt at h k
  generalize (execOp a.eval o).run P w = r at *
  cases r with
  | halt x w' => simp only [Oper.quietUpon] at h
  | ok n w' =>
    cases n <;> simp only [Oper.quietUpon] at h k
    case value x => exact h.2.symm.trans k.2
    case skip => exact h.2.trans k.2.symm
    case enter f args =>
      obtain ⟨e, h1⟩ := h
      subst e
      exact calls_det h1 k.2
theorem heap_lt {w : World} {b : Nat} {o : Obj} (h : w.heap[b]? = some o) : b < w.heap.size := (Array.getElem?_eq_some_iff.1 h).1
theorem num_new (o : Oper) (a : Act) (w : World) (h : o.op = .alloc 26) : (execOp a.eval o).run Try.prog w = .ok (.value (.pointer (some ⟨w.heap.size, 0, none⟩)))
    (w.alloc (.cells #[Value.int .u32 0, .int .u32 0, .int .u32 0, .int .u32 0, .int .u32 0, .int .u32 0, .int .u32 0, .int .u32 0] 26)) := by
  unfold execOp
  simp only [h]
  kernel_rfl
theorem ne_new {b g s : Nat} (h : b < s) (k : s ≤ g) : some b ≠ some g := fun e => by injection e with e; omega
theorem ne_some {b g : Nat} (h : b ≠ g) : some b ≠ some g := fun e => h (Option.some.inj e)
/-! The calm region: what lays a block, and what stores behind, made harmless. -/
def isNew (o : Oper) : Bool := match o.op with | .alloc _ => true | _ => false
def hush (o : Oper) : Oper := { o with op := .move (.const undef) }
def hushT (o : Oper) : Oper := { o with op := .move (match o.dst with | some d => .tmp d | none => .const undef) }
def calmN : Nat → List Oper → List Oper
  | _, [] => []
  | 0, o :: l => hushT o :: calmN 0 l
  | n + 1, o :: l => (match isNew o with | true => hush o | false => o) :: calmN n l
theorem calmN_get : ∀ (n : Nat) (L : List Oper) (i : Nat), (calmN n L)[i]? = (L[i]?).map fun o => if i < n then (if isNew o = false then o else hush o) else hushT o
  | n, [], i => by simp [calmN]
  | 0, o :: l, 0 => by simp [calmN]
  | 0, o :: l, i + 1 => by
    have := calmN_get 0 l i
    simp only [calmN, List.getElem?_cons_succ, this]
    simp
  | n + 1, o :: l, 0 => by cases h : isNew o <;> simp [calmN, h]
  | n + 1, o :: l, i + 1 => by
    have := calmN_get n l i
    simp only [calmN, List.getElem?_cons_succ, this]
    simp
theorem calmN_length : ∀ (n : Nat) (L : List Oper), (calmN n L).length = L.length
  | _, [] => rfl
  | 0, o :: l => congrArg (· + 1) (calmN_length 0 l)
  | n + 1, o :: l => congrArg (· + 1) (calmN_length n l)
theorem calmN_ready (n : Nat) (L : List Oper) (listed : Array Bool) : Region.ready .any (calmN n L).toArray listed = Region.ready .any L.toArray listed := by
  unfold Region.ready
  rw [show (calmN n L).toArray.size = L.toArray.size by simp [calmN_length]]
  apply List.filter_congr
  intro i hi
  simp only [List.getElem?_toArray, calmN_get]
  cases L[i]? with
  | none => rfl
  | some o => simp only [Option.map_some]; repeat' split
              all_goals rfl
theorem calmN_yielded (n : Nat) (L : List Oper) (tmps : Array Value) : yielded (calmN n L).toArray tmps = yielded L.toArray tmps := by
  funext j
  unfold yielded
  simp only [List.getElem?_toArray, calmN_get]
  cases L[j]? with
  | none => rfl
  | some o =>
    simp only [Option.map_some]
    by_cases h1 : j < n
    · by_cases h2 : isNew o = false
      · rw [if_pos h1, if_pos h2]
      · rw [if_pos h1, if_neg h2]; rfl
    · rw [if_neg h1]; rfl
/-- The blocks laid so far, put where they belong. -/
def layF (p : Nat → Option Nat) : List Oper → Nat → Act → Act
  | [], _, a => a
  | o :: l, k, a => layF p l (k + 1) (match p k with | some b => a.put o.dst (.pointer (some ⟨b, 0, none⟩)) | none => a)
def layN (p : Nat → Nat) : List Oper → Nat → Act → Act
  | [], _, a => a
  | o :: l, k, a => layN p l (k + 1) (match isNew o with | true => a.put o.dst (.pointer (some ⟨p k, 0, none⟩)) | false => a)
theorem layF_put {p : Nat → Option Nat} {dst : Option Tmp} {v : Value} : ∀ (L : List Oper) (k : Nat) (a : Act), (∀ j o, L[j]? = some o → p (k + j) ≠ none → ∀ d, o.dst = some d → dst ≠ some d) →
    layF p L k (a.put dst v) = (layF p L k a).put dst v
  | [], _, _, _ => rfl
  | o :: l, k, a, h => by
    have h0 := h 0 o (by simp)
    have hr : ∀ j o', l[j]? = some o' → p (k + 1 + j) ≠ none → ∀ d, o'.dst = some d → dst ≠ some d := fun j o' ho' hp => h (j + 1) o' (by simpa using ho') (by rwa [show k + (j + 1) = k + 1 + j by omega])
    unfold layF
    cases hp : p k with
    | none => exact layF_put l (k + 1) a hr
    | some b =>
      dsimp only
      rw [← Act.put_comm a (x := o.dst) (y := dst) _ _ (h0 (by simp [hp]))]
      exact layF_put l (k + 1) _ hr
theorem put_put (a : Act) (d : Option Tmp) (u v : Value) : (a.put d u).put d v = a.put d v := by
  cases d with
  | none => rfl
  | some d => simp [Act.put]
theorem put_self (a : Act) (d : Option Tmp) : a.put d (a.eval (match d with | some d => .tmp d | none => .const undef)) = a := by
  cases d with
  | none => rfl
  | some d =>
    simp only [Act.put, Act.eval]
    have : a.tmps.setIfInBounds d (a.tmps.getD d undef) = a.tmps := by
      apply Array.ext_getElem?
      intro i
      by_cases h : d = i
      · subst h
        by_cases hs : d < a.tmps.size <;> simp [hs]
      · rw [Array.getElem?_setIfInBounds_ne h]
    rw [this]
theorem layF_congr {p q : Nat → Option Nat} : ∀ (L : List Oper) (k : Nat) (a : Act), (∀ j, j < L.length → p (k + j) = q (k + j)) → layF p L k a = layF q L k a
  | [], _, _, _ => rfl
  | o :: l, k, a, h => by
    unfold layF
    rw [show p k = q k from h 0 (by simp)]
    exact layF_congr l (k + 1) _ fun j hj => by have := h (j + 1) (by simp; omega); rwa [show k + (j + 1) = k + 1 + j by omega] at this
theorem layF_new {p : Nat → Option Nat} {b : Nat} {o : Oper} : ∀ (L : List Oper) (k i : Nat) (a : Act), L[i]? = some o → p (k + i) = none →
    (∀ j oj, L[j]? = some oj → j ≠ i → p (k + j) ≠ none → ∀ d, oj.dst = some d → o.dst ≠ some d) →
    layF (fun x => if x = k + i then some b else p x) L k a = (layF p L k a).put o.dst (.pointer (some ⟨b, 0, none⟩))
  | [], _, _, _, h, _, _ => by cases h
  | q :: l, k, 0, a, h, hp, hd => by
    simp only [List.getElem?_cons_zero, Option.some.injEq] at h
    subst h
    have hp' : p k = none := hp
    unfold layF
    simp only [Nat.add_zero, if_true, hp']
    rw [layF_congr (q := p) l (k + 1) _ (fun j hj => if_neg (by omega))]
    exact layF_put l (k + 1) a fun j o' ho' hp'' => hd (j + 1) o' (by simpa using ho') (by omega) (by rwa [show k + (j + 1) = k + 1 + j by omega])
  | q :: l, k, i + 1, a, h, hp, hd => by
    have hne : ¬ k = k + (i + 1) := by omega
    unfold layF
    simp only [if_neg hne]
    rw [show k + (i + 1) = k + 1 + i by omega] at hp ⊢
    exact layF_new l (k + 1) i _ (by simpa using h) hp fun j oj hoj hne' hp' => hd (j + 1) oj (by simpa using hoj) (by omega) (by rwa [show k + (j + 1) = k + 1 + j by omega])
theorem layF_eval {p : Nat → Option Nat} {o : Oper} {ops : Array Oper} (hs : ∀ cs b, o.op ≠ .select cs b) : ∀ (L : List Oper) (k : Nat) (a : Act),
    (∀ j oj, L[j]? = some oj → p (k + j) ≠ none → ∀ d, oj.dst = some d → d ∉ o.looksAt ops) →
    execOp (layF p L k a).eval o = execOp a.eval o ∧ Region.wanted o (yielded ops (layF p L k a).tmps) = Region.wanted o (yielded ops a.tmps)
  | [], _, _, _ => ⟨rfl, rfl⟩
  | q :: l, k, a, h => by
    have h0 := h 0 q (by simp)
    have hr : ∀ j o', l[j]? = some o' → p (k + 1 + j) ≠ none → ∀ d, o'.dst = some d → d ∉ o.looksAt ops := fun j o' ho' hp => h (j + 1) o' (by simpa using ho') (by rwa [show k + (j + 1) = k + 1 + j by omega])
    unfold layF
    cases hp : p k with
    | none => exact layF_eval hs l (k + 1) a hr
    | some b =>
      obtain ⟨h1, h2⟩ := layF_eval hs l (k + 1) (a.put q.dst (.pointer (some ⟨b, 0, none⟩))) hr
      exact ⟨h1.trans (execOp_put o hs a q.dst _ (h0 (by simp [hp]))), h2.trans (wanted_put o a q.dst _ (h0 (by simp [hp])))⟩
theorem layF_all {p : Nat → Option Nat} {n : Nat} : ∀ (L : List Oper) (k : Nat) (a : Act), (∀ j o, L[j]? = some o → (p (k + j) ≠ none ↔ isNew o = true)) → layF p L k a = layN (fun i => (p i).getD 0) L k a
  | [], _, _, _ => rfl
  | o :: l, k, a, h => by
    have h0 : p k ≠ none ↔ isNew o = true := h 0 o (by simp)
    have hr : ∀ j o', l[j]? = some o' → (p (k + 1 + j) ≠ none ↔ isNew o' = true) := fun j o' ho' => by
      have := h (j + 1) o' (by simpa using ho')
      rwa [show k + (j + 1) = k + 1 + j by omega] at this
    unfold layF layN
    cases hp : p k with
    | none =>
      have : isNew o = false := by
        cases hn : isNew o with
        | false => rfl
        | true => exact absurd hp (h0.2 hn)
      rw [this]
      exact layF_all (n := n) l (k + 1) a hr
    | some b =>
      rw [show isNew o = true from h0.1 (by simp [hp])]
      exact layF_all (n := n) l (k + 1) _ hr
/-- What a region must be: closed tests. -/
def newsApart (L : List Oper) (n : Nat) : Bool := (List.range n).all fun i => (match L[i]? with
  | some o => !isNew o || (o.guard.isNone && (List.range n).all fun j => j == i || (match L[j]? with | some oj => o.apart L.toArray oj | none => true))
  | none => true)
def isFloat (o : Oper) : Bool := match o.op with | .extract .. => o.guard.isNone | _ => false
def floatAt (L : List Oper) (i : Nat) : Bool := match L[i]? with | some o => isFloat o | none => false
/-- Operation j waits for k, by way of others too. -/
def waitB (L : List Oper) : Nat → Nat → Nat → Bool
  | 0, _, _ => false
  | f + 1, j, k => match L[j]? with
    | none => false
    | some o => o.after.any fun e => Region.binds .any e && (e.on == k || waitB L f e.on k)
def Closed (L : List Oper) (listed : Array Bool) : Prop := ∀ (j : Nat) (oj : Oper), L[j]? = some oj → listed.getD j true = true → ∀ e ∈ oj.after, Region.binds .any e = true → listed.getD e.on true = true
theorem getD_tf {listed : Array Bool} {i : Nat} (h : listed.getD i false = true) : listed.getD i true = true := by
  rw [Array.getD_eq_getD_getElem?] at h ⊢
  cases hq : listed[i]? with
  | none => rfl
  | some b => rw [hq] at h; exact h
theorem wait_listed {L : List Oper} {listed : Array Bool} (hc : Closed L listed) : ∀ (f j : Nat) (oj : Oper) (k : Nat), L[j]? = some oj → (∀ e ∈ oj.after, Region.binds .any e = true → listed.getD e.on true = true) → waitB L f j k = true → listed.getD k true = true
  | 0, _, _, _, _, _, h => by cases h
  | f + 1, j, oj, k, ho, hl, h => by
    unfold waitB at h
    simp only [ho, Array.any_eq_true, Bool.and_eq_true, Bool.or_eq_true, beq_iff_eq] at h
    obtain ⟨x, hx, hb, h⟩ := h
    have h1 := hl _ (Array.getElem_mem hx) hb
    rcases h with h | h
    · rw [h] at h1; exact h1
    · cases hq : L[oj.after[x].on]? with
      | none => cases f with
        | zero => cases h
        | succ f => unfold waitB at h; rw [hq] at h; cases h
      | some oq => exact wait_listed hc f _ oq k hq (hc _ oq hq h1) h
theorem closed_set {L : List Oper} {listed : Array Bool} {i : Nat} {o : Oper} (hc : Closed L listed) (hs : listed.size = L.length) (ho : L[i]? = some o) (hw : ∀ e ∈ o.after, Region.binds .any e = true → listed.getD e.on false = true) : Closed L (listed.setIfInBounds i true) := by
  intro j oj hoj hl e he hb
  have hil : i < listed.size := by rw [hs]; exact (List.getElem?_eq_some_iff.1 ho).1
  have h0 : listed.getD e.on true = true := by
    by_cases hji : i = j
    · subst hji
      obtain rfl : o = oj := Option.some.inj (ho.symm.trans hoj)
      exact getD_tf (hw e he hb)
    · rw [getD_set_ne true hji] at hl
      exact hc j oj hoj hl e he hb
  by_cases h4 : i = e.on
  · rw [← h4, Array.getD_eq_getD_getElem?, Array.getElem?_setIfInBounds_self]; simp [hil]
  · rw [getD_set_ne true h4]; exact h0
def tailsOk (L : List Oper) (n : Nat) : Bool := ((L.drop n).all fun t => t.guard.isNone && !isNew t) && ((List.range L.length).all fun i => decide (i < n) || (List.range i).all fun j => (decide (j < n) && floatAt L j) || waitB L 40 i j) && decide (n < L.length)
def floatsOk (L : List Oper) (n : Nat) : Bool := (List.range L.length).all fun i => match L[i]? with
  | some o => !isFloat o || (List.range L.length).all fun j => j == i || Region.waitsFor .any L.toArray i j || Region.waitsFor .any L.toArray j i || (match L[j]? with | some oj => o.apart L.toArray oj | none => true)
  | none => true
def typesOk (L : List Oper) (t : TypeId) : Bool := L.all fun o => match o.op with | .alloc u => decide (u = t) | _ => true
/-- What is known of the new blocks at the end. -/
def NewsAt (W : World) (L : List Oper) (O : Obj) (p : Nat → Nat) (w : World) : Prop :=
  (∀ i o, L[i]? = some o → isNew o = true → W.heap.size ≤ p i ∧ w.heap[p i]? = some O) ∧ (∀ i j oi oj, L[i]? = some oi → L[j]? = some oj → isNew oi = true → isNew oj = true → p i = p j → i = j)
section
variable {P : Program} {L : List Oper} {n : Nat} {Q : Exit → Act → World → Prop} {W : World} {O : Obj} {t : TypeId}
def QN (P : Program) (L : List Oper) (n : Nat) (Q : Exit → Act → World → Prop) (W : World) (O : Obj) (V : World) (a : Act) : Prop :=
  ∀ x : Later V, ∀ p : Nat → Nat, NewsAt W L O p x.w → wpList P L.toArray Q (L.drop n) (layN p L 0 a) x.w
theorem getD_listed {listed : Array Bool} {i : Nat} (hi : i < listed.size) : listed.getD i true = listed.getD i false := by simp [hi]
theorem tail_run (hE : backB L.toArray = true) (hT : tailsOk L n = true) {C : World → Prop} {w0 : World} (hC : C w0) {Q' : Act → Prop} : ∀ (fuel : Nat) (listed : Array Bool) (m : Nat) (am : Act),
    listed.size = L.length → n ≤ m → (∀ j, j < L.length → (listed.getD j true = true ↔ j < m)) → wpAnyQ P .any (calmN n L).toArray C Q' fuel listed am →
    Q' am ∧ ∀ a w, wpList P L.toArray Q (L.drop m) a w → wpAny P .any L.toArray Q fuel listed a w := by
  unfold tailsOk at hT
  simp only [Bool.and_eq_true, List.all_eq_true, decide_eq_true_eq, Option.isNone_iff_eq_none, Bool.not_eq_true'] at hT
  obtain ⟨⟨hT1, hT2⟩, hT3⟩ := hT
  have hfull : ∀ (listed : Array Bool) (m : Nat), listed.size = L.length → (∀ j, j < L.length → (listed.getD j true = true ↔ j < m)) → Region.ready .any L.toArray listed = [] → L.length ≤ m := by
    intro listed m hs hl h0
    refine Nat.le_of_not_lt fun hlt => ?_
    refine ready_of_unlisted hE (by simpa using hs) m (by simpa using hlt) ?_ h0
    have := hl m hlt
    cases h : listed.getD m true with
    | false => rfl
    | true => exact absurd (this.1 h) (Nat.lt_irrefl _)
  have hdrop : ∀ m, L.length ≤ m → ∀ a w, wpList P L.toArray Q (L.drop m) a w → Q .normal a w := fun m hm a w h => by rw [List.drop_eq_nil_of_le hm] at h; exact h
  intro fuel
  induction fuel with
  | zero =>
    intro listed m am hs hnm hl h
    have h1 := h.1
    rw [calmN_ready] at h1
    exact ⟨h.2, fun a w hw => ⟨h1, hdrop m (hfull _ _ hs hl h1) a w hw⟩⟩
  | succ fuel ih =>
    intro listed m am hs hnm hl h
    by_cases h0 : Region.ready .any L.toArray listed = []
    · refine ⟨h.1 (by rw [calmN_ready]; exact h0), fun a w hw => ⟨fun _ => hdrop m (hfull _ _ hs hl h0) a w hw, fun i hi => ?_⟩⟩
      rw [h0] at hi; cases hi
    · -- the one that is ready is m
      have hone : ∀ i ∈ Region.ready .any L.toArray listed, i = m ∧ i < L.length := by
        intro i hi
        obtain ⟨hiu, o, ho, hwait⟩ := mem_ready.1 hi
        have hil : i < L.length := by simpa using (Array.getElem?_eq_some_iff.1 ho).1
        have hge : ¬ i < m := fun hlt => by rw [(hl i hil).2 hlt] at hiu; cases hiu
        refine ⟨?_, hil⟩
        rcases Nat.lt_or_ge m i with hmi | hmi
        · exfalso
          have h3 := hT2 i (List.mem_range.2 hil)
          simp only [Bool.or_eq_true, decide_eq_true_eq] at h3
          rcases h3 with h3 | h3
          · omega
          have h4 := List.all_eq_true.1 h3 m (List.mem_range.2 hmi)
          simp only [show ¬ m < n by omega, decide_false, Bool.false_and, Bool.false_or] at h4
          rw [List.getElem?_toArray] at ho
          have hcl : Closed L listed := fun j oj hoj hlj e he hb => by
            have hjl := (List.getElem?_eq_some_iff.1 hoj).1
            have h1 := (hl j hjl).1 hlj
            have h2 := backB_spec hE (i := j) (o := oj) (by simpa using hoj) e he hb
            exact (hl e.on (by omega)).2 (by omega)
          have h5 := wait_listed hcl 40 i o m ho (fun e he hb => getD_tf (hwait e he hb)) h4
          exact absurd ((hl m (by omega)).1 h5) (Nat.lt_irrefl _)
        · omega
      obtain ⟨i, hi⟩ := List.exists_mem_of_ne_nil _ h0
      obtain ⟨him, hil⟩ := hone i hi
      subst him
      have h2 := h.2 i (by rw [calmN_ready]; exact hi)
      have hL : L[i]? = some L[i] := List.getElem?_eq_getElem hil
      have hd : L.drop i = L[i] :: L.drop (i + 1) := List.drop_eq_getElem_cons hil
      have ht := hT1 L[i] (by
        have : L[i] ∈ L.drop i := by rw [hd]; exact List.mem_cons_self
        rw [show L.drop n = (L.drop n) from rfl]
        have h6 : L.drop i = (L.drop n).drop (i - n) := by rw [List.drop_drop]; congr 1; omega
        rw [h6] at this
        exact List.mem_of_mem_drop this)
      have hset : ∀ j, j < L.length → ((listed.setIfInBounds i true).getD j true = true ↔ j < i + 1) := by
        intro j hj
        by_cases hji : j = i
        · subst hji; simp [hs, hj]
        · rw [getD_set_ne true (fun e => hji e.symm), hl j hj]; omega
      unfold qOp at h2
      rw [List.getElem?_toArray, calmN_get, hL] at h2
      simp only [Option.map_some] at h2
      rw [if_neg (Nat.not_lt.2 hnm)] at h2
      have hw : ∀ g, Region.wanted (hushT L[i]) g = true := fun g => by simp [Region.wanted, hushT, ht.1]
      rw [if_pos (hw _)] at h2
      obtain ⟨v, hv, h3⟩ := h2
      have hve : am.put (hushT L[i]).dst v = am := by
        have h7 := hv w0 hC
        unfold Oper.quietAt at h7
        have hx : (execOp am.eval (hushT L[i])).run P w0 = .ok (.value (am.eval (match L[i].dst with | some d => .tmp d | none => .const undef))) w0 := rfl
        rw [hx] at h7
        have h8 : am.eval (match L[i].dst with | some d => .tmp d | none => .const undef) = v := h7.2
        subst h8
        exact put_self am L[i].dst
      rw [hve] at h3
      obtain ⟨k1, k2⟩ := ih _ (i + 1) am (by simpa using hs) (by omega) hset h3
      refine ⟨k1, fun a w hwp => ⟨fun h0' => absurd h0' h0, fun j hj => ?_⟩⟩
      obtain ⟨hjm, _⟩ := hone j hj
      subst hjm
      rw [hd] at hwp
      unfold wpList at hwp
      unfold wpOp
      rw [List.getElem?_toArray, hL]
      have hw' : ∀ g, Region.wanted L[j] g = true := fun g => by simp [Region.wanted, ht.1]
      simp only [hw', if_true] at hwp ⊢
      exact hwp.imp (Oper.wp_mono fun a' w' h' => k2 a' w' h') id
/-- What holds of the world on the way. -/
structure OnWay (W : World) (O : Obj) (p : Nat → Option Nat) (w : World) : Prop where
  below : Below W.heap.size W w
  at_ : ∀ i b, p i = some b → W.heap.size ≤ b ∧ b < w.heap.size ∧ w.heap[b]? = some O
  inj : ∀ i j b, p i = some b → p j = some b → i = j
theorem OnWay.later {p : Nat → Option Nat} {w : World} (h : OnWay W O p w) (x : Later w) : OnWay W O p x.w :=
  ⟨h.below.trans (x.h.mono h.below.size), fun i b hb => by
    obtain ⟨h1, h2, h3⟩ := h.at_ i b hb
    exact ⟨h1, Nat.lt_of_lt_of_le h2 x.h.size, (x.h.block b h2).trans h3⟩, h.inj⟩
theorem extract_any (t : Value) (ix : Nat) : (∃ v, Instr.extract t ix = pure v) ∨ ∀ w, ∃ h w', (Instr.extract t ix).run P w = .halt h w' := by
  unfold Instr.extract
  cases t with
  | tuple vs =>
    dsimp only
    cases vs[ix]? with
    | some v => exact .inl ⟨v, rfl⟩
    | none => exact .inr fun w => ⟨_, _, rfl⟩
  | _ => exact .inr fun w => ⟨_, _, rfl⟩
theorem float_run {o : Oper} {a : Act} {C : World → Prop} {w : World} {v : Value} {t : Operand} {ix : Nat} (ho : o.op = .extract t ix) (h : o.quietAt P a C w v) (w' : World) : (execOp a.eval o).run P w' = .ok (.value v) w' := by
  unfold Oper.quietAt at h
  unfold execOp at h ⊢
  simp only [ho] at h ⊢
  rcases extract_any (P := P) (a.eval t) ix with ⟨u, e⟩ | e
  · rw [e] at h ⊢
    have h1 : u = v := h.2
    subst h1
    rfl
  · obtain ⟨x, w1, e⟩ := e w
    simp only [Sem.run_bind, e, Result.andThen_halt, Oper.quietUpon] at h
theorem wpAny_of_calmN (hQ : ∀ c (a : Act) (d : Tmp) v w, Q (.panic c) (a.put (some d) v) w → Q (.panic c) a w) (hF : floatsOk L n = true) (hE : backB L.toArray = true) (hT : tailsOk L n = true) (hA : newsApart L n = true) (hty : typesOk L t = true) (hsel : Region.noSelect L.toArray = true)
    (hN : ∀ (o : Oper) (a : Act) (w : World), o.op = .alloc t → (execOp a.eval o).run P w = .ok (.value (.pointer (some ⟨w.heap.size, 0, none⟩))) (w.alloc O)) :
    ∀ (fuel : Nat) (listed : Array Bool) (am : Act) (p : Nat → Option Nat) (w : World), listed.size = L.length → (∀ i o, L[i]? = some o → (p i ≠ none ↔ isNew o = true ∧ listed.getD i true = true)) →
      (∀ i, n ≤ i → i < L.length → listed.getD i true = false) → Closed L listed → OnWay W O p w → (∀ V : Later w, wpAnyQ P .any (calmN n L).toArray (fun w' => ∃ x : Later V.w, w' = x.w) (QN P L n Q W O V.w) fuel listed am) →
      wpAny P .any L.toArray Q fuel listed (layF p L 0 am) w := by
  have hT' := hT
  unfold tailsOk at hT'
  simp only [Bool.and_eq_true, List.all_eq_true, decide_eq_true_eq, Option.isNone_iff_eq_none, Bool.not_eq_true'] at hT'
  obtain ⟨⟨hT1, hT2⟩, hT3⟩ := hT'
  have hAp : ∀ i o, i < n → L[i]? = some o → isNew o = true → o.guard = none ∧ ∀ j oj, j < n → j ≠ i → L[j]? = some oj → o.apart L.toArray oj = true := by
    intro i o hi ho hn
    have h1 := List.all_eq_true.1 hA i (List.mem_range.2 hi)
    rw [ho] at h1
    simp only [hn, Bool.not_true, Bool.false_or, Bool.and_eq_true, Option.isNone_iff_eq_none, List.all_eq_true] at h1
    refine ⟨h1.1, fun j oj hj hne hoj => ?_⟩
    have h2 := h1.2 j (List.mem_range.2 hj)
    rw [hoj] at h2
    simpa [hne] using h2
  have hnew : ∀ i o, L[i]? = some o → isNew o = true → i < n := by
    intro i o ho hn
    refine Nat.lt_of_not_le fun hle => ?_
    have hil : i < L.length := (List.getElem?_eq_some_iff.1 ho).1
    have : o ∈ L.drop n := List.mem_of_getElem? (i := i - n) (by rw [List.getElem?_drop, show n + (i - n) = i by omega]; exact ho)
    rw [(hT1 o this).2] at hn
    cases hn
  intro fuel
  induction fuel with
  | zero =>
    intro listed am p w hs hp htl hcl hw H
    have h1 := (H ⟨w, Below.refl _ _⟩).1
    rw [calmN_ready] at h1
    exact absurd h1 (ready_of_unlisted hE (by simpa using hs) n (by simpa using hT3) (htl n (Nat.le_refl _) hT3))
  | succ fuel ih =>
    intro listed am p w hs hp htl hcl hw H
    by_cases hfl : ∃ f, f ∈ Region.ready .any L.toArray listed ∧ f < n ∧ floatAt L f = true
    · obtain ⟨i, hi, hin, hfa⟩ := hfl
      obtain ⟨hiu, o, ho, hwait⟩ := mem_ready.1 hi
      rw [List.getElem?_toArray] at ho
      have hil : i < L.length := (List.getElem?_eq_some_iff.1 ho).1
      have hpi : p i = none := by
        cases h : p i with
        | none => rfl
        | some b =>
          have := ((hp i o ho).1 (by simp [h])).2
          rw [this] at hiu; cases hiu
      have hfo : isFloat o = true := by unfold floatAt at hfa; rw [ho] at hfa; exact hfa
      obtain ⟨hg, tv, ix, hop⟩ : o.guard = none ∧ ∃ tv ix, o.op = .extract tv ix := by
        unfold isFloat at hfo
        revert hfo
        cases h : o.op <;> simp
      have hnw : isNew o = false := by unfold isNew; rw [hop]
      have hwt : ∀ g, Region.wanted o g = true := fun g => by simp [Region.wanted, hg]
      have hset : ∀ k, n ≤ k → k < L.length → (listed.setIfInBounds i true).getD k true = false := fun k h1 h2 => by rw [getD_set_ne true (by omega)]; exact htl k h1 h2
      have hs' : (listed.setIfInBounds i true).size = L.length := by simpa using hs
      have H2 : ∀ V : Later w, qOp P (calmN n L).toArray (fun w' => ∃ x : Later V.w, w' = x.w) i (wpAnyQ P .any (calmN n L).toArray (fun w' => ∃ x : Later V.w, w' = x.w) (QN P L n Q W O V.w) fuel (listed.setIfInBounds i true)) am :=
        fun V => (H V).2 i (by rw [calmN_ready]; exact hi)
      unfold qOp at H2
      simp only [List.getElem?_toArray, calmN_get, ho, Option.map_some, calmN_yielded, hnw, if_true, if_pos hin, hwt] at H2
      obtain ⟨v, hv, hK⟩ := H2 ⟨w, Below.refl _ _⟩
      have hdis : ∀ j oj, L[j]? = some oj → p (0 + j) ≠ none → oj.apart L.toArray o = true := fun j oj hoj hpj => by
        rw [Nat.zero_add] at hpj
        have hnj := ((hp j oj hoj).1 hpj).1
        have hji : j ≠ i := fun e => by subst e; exact hpj hpi
        exact (hAp j oj (hnew j oj hoj hnj) hoj hnj).2 i o hin (Ne.symm hji) ho
      obtain ⟨he, _⟩ := layF_eval (ops := L.toArray) (p := p) (o := o) (fun cs b => Region.noSelect_spec hsel i o cs b (by rw [List.getElem?_toArray]; exact ho)) L 0 am (fun j oj hoj hpj d hd => (Oper.apart_spec (hdis j oj hoj hpj)).1 d hd)
      have hput : (layF p L 0 am).put o.dst v = layF p L 0 (am.put o.dst v) := (layF_put L 0 am (fun j oj hoj hpj d hd => (Oper.apart_spec (hdis j oj hoj hpj)).2.1 d hd)).symm
      have hp' : ∀ j oj, L[j]? = some oj → (p j ≠ none ↔ isNew oj = true ∧ (listed.setIfInBounds i true).getD j true = true) := by
        intro j oj hoj
        by_cases hji : j = i
        · subst hji
          have : oj = o := Option.some.inj (hoj.symm.trans ho)
          subst this
          simp [hnw, hpi]
        · rw [getD_set_ne true (fun e => hji e.symm)]; exact hp j oj hoj
      refine wpAny_first (oi := o) (v := v) (by rw [List.getElem?_toArray]; exact ho) (fun j o' cs b hj => Region.noSelect_spec hsel j o' cs b hj) (fun c a w h => ?_) fuel listed _ w ?_ hi
        (.inl ⟨hwt _, fun w' => by rw [he]; exact float_run hop (hv w ⟨⟨w, Below.refl _ _⟩, rfl⟩) w'⟩) ?_
      · cases hd : o.dst with
        | none => rw [hd] at h; exact h
        | some d => rw [hd] at h; exact hQ c a d v w h
      · intro j oj hoj hji hju hno
        have h1 := List.all_eq_true.1 hF i (List.mem_range.2 hil)
        rw [List.getElem?_toArray] at hoj
        simp only [ho, hfo, Bool.not_true, Bool.false_or, List.all_eq_true] at h1
        have h2 := h1 j (List.mem_range.2 (List.getElem?_eq_some_iff.1 hoj).1)
        simp only [hoj, Bool.or_eq_true, beq_iff_eq] at h2
        rcases h2 with ((h2 | h2) | h2) | h2
        · exact absurd h2 hji
        · obtain ⟨o', ho', e, he', hb, hon⟩ := Region.waitsFor_spec h2
          rw [List.getElem?_toArray] at ho'
          have : o' = o := Option.some.inj (ho'.symm.trans ho)
          subst this
          have h5 := hwait e he' hb
          rw [hon, ← getD_listed (by have := (List.getElem?_eq_some_iff.1 hoj).1; omega), hju] at h5
          cases h5
        · obtain ⟨o', ho', e, he', hb, hon⟩ := Region.waitsFor_spec h2
          rw [List.getElem?_toArray] at ho'
          have : o' = oj := Option.some.inj (ho'.symm.trans hoj)
          subst this
          exact absurd hon (hno e he' hb)
        · exact h2
      · rw [hput]
        refine ih _ _ _ _ hs' hp' hset (closed_set hcl hs ho hwait) hw fun V => ?_
        obtain ⟨u, hu, hK'⟩ := H2 V
        have e : u = v := quietAt_det (hu V.w ⟨⟨V.w, Below.refl _ _⟩, rfl⟩) (hv V.w ⟨⟨V.w, V.h⟩, rfl⟩)
        rw [← e]
        exact hK'
    refine ⟨fun h0 => absurd h0 (ready_of_unlisted hE (by simpa using hs) n (by simpa using hT3) (htl n (Nat.le_refl _) hT3)), fun i hi => ?_⟩
    obtain ⟨hiu, o, ho, hwait⟩ := mem_ready.1 hi
    rw [List.getElem?_toArray] at ho
    have hil : i < L.length := (List.getElem?_eq_some_iff.1 ho).1
    have hpi : p i = none := by
      cases h : p i with
      | none => rfl
      | some b =>
        have := ((hp i o ho).1 (by simp [h])).2
        rw [this] at hiu; cases hiu
    by_cases hin : i < n
    · have hset : ∀ k, n ≤ k → k < L.length → (listed.setIfInBounds i true).getD k true = false := fun k h1 h2 => by rw [getD_set_ne true (by omega)]; exact htl k h1 h2
      have hs' : (listed.setIfInBounds i true).size = L.length := by simpa using hs
      have H2 : ∀ V : Later w, qOp P (calmN n L).toArray (fun w' => ∃ x : Later V.w, w' = x.w) i (wpAnyQ P .any (calmN n L).toArray (fun w' => ∃ x : Later V.w, w' = x.w) (QN P L n Q W O V.w) fuel (listed.setIfInBounds i true)) am :=
        fun V => (H V).2 i (by rw [calmN_ready]; exact hi)
      unfold qOp at H2
      simp only [List.getElem?_toArray, calmN_get, ho, Option.map_some, calmN_yielded] at H2
      unfold wpOp
      rw [List.getElem?_toArray, ho]
      dsimp only
      cases hnw : isNew o with
      | true =>
        obtain ⟨hg, hap⟩ := hAp i o hin ho hnw
        simp only [hnw, Bool.true_eq_false, if_pos hin, if_false] at H2
        have hw1 : ∀ g, Region.wanted (hush o) g = true := fun g => by simp [Region.wanted, hush, hg]
        have hw2 : ∀ g, Region.wanted o g = true := fun g => by simp [Region.wanted, hg]
        simp only [hw1, if_true] at H2
        simp only [hw2, if_true]
        left
        have hop : o.op = .alloc t := by
          have h1 := List.all_eq_true.1 hty o (List.mem_of_getElem? ho)
          unfold isNew at hnw
          revert h1 hnw
          cases o.op <;> simp
        unfold Oper.wp
        rw [hN o _ w hop]
        simp only [Oper.upon]
        rw [← layF_new (p := p) (b := w.heap.size) L 0 i am ho (by simpa using hpi) (fun j oj hoj hne hpj => by
          rw [Nat.zero_add] at hpj
          have hnj := ((hp j oj hoj).1 hpj).1
          have := (Oper.apart_spec ((hAp j oj (hnew j oj hoj hnj) hoj hnj).2 i o hin (Ne.symm hne) ho)).2.1
          exact this)]
        have hpp : ∀ a, layF (fun x => if x = 0 + i then some w.heap.size else p x) L 0 a = layF (fun x => if x = 0 + i then some w.heap.size else p x) L 0 (a.put o.dst undef) := by
          intro a
          have hdis : ∀ j oj, L[j]? = some oj → j ≠ i → p (0 + j) ≠ none → ∀ d, oj.dst = some d → o.dst ≠ some d := fun j oj hoj hne hpj => by
            rw [Nat.zero_add] at hpj
            have hnj := ((hp j oj hoj).1 hpj).1
            exact (Oper.apart_spec ((hAp j oj (hnew j oj hoj hnj) hoj hnj).2 i o hin (Ne.symm hne) ho)).2.1
          rw [layF_new (p := p) L 0 i a ho (by simpa using hpi) hdis, layF_new (p := p) L 0 i (a.put o.dst undef) ho (by simpa using hpi) hdis, layF_put L 0 a (fun j oj hoj hpj => by
            by_cases hji : j = i
            · subst hji; rw [Nat.zero_add] at hpj; exact absurd hpi hpj
            · exact hdis j oj hoj hji hpj), put_put]
        rw [hpp]
        refine ih _ _ _ _ hs' ?_ hset (closed_set hcl hs ho hwait) ?_ ?_
        · intro j oj hoj
          by_cases hji : j = i
          · subst hji
            have : oj = o := Option.some.inj (hoj.symm.trans ho)
            subst this
            simp [hnw, hs, hil]
          · rw [Nat.zero_add, if_neg hji, getD_set_ne true (fun e => hji e.symm)]
            exact hp j oj hoj
        · refine ⟨hw.below.alloc hw.below.size _, fun j b hb => ?_, fun j k b hj hk => ?_⟩
          · rw [Nat.zero_add] at hb
            split at hb
            · cases hb
              exact ⟨hw.below.size, by simp, heap_alloc_new _ _⟩
            · obtain ⟨h1, h2, h3⟩ := hw.at_ j b hb
              exact ⟨h1, by simp; omega, by rw [Below.heap_alloc w O b h2]; exact h3⟩
          · rw [Nat.zero_add] at hj hk
            split at hj <;> split at hk
            · omega
            · cases hj; have := (hw.at_ k _ hk).2.1; omega
            · cases hk; have := (hw.at_ j _ hj).2.1; omega
            · exact hw.inj j k b hj hk
        · intro V
          have hV : Below w.heap.size w V.w := ((Below.refl _ w).alloc (Nat.le_refl _) O).trans (V.h.mono (by simp))
          obtain ⟨v, hv, hK⟩ := H2 ⟨V.w, hV⟩
          have hvu : v = undef := by
            have := hv V.w ⟨⟨V.w, Below.refl _ _⟩, rfl⟩
            unfold Oper.quietAt at this
            have hx : (execOp am.eval (hush o)).run P V.w = .ok (.value undef) V.w := rfl
            rw [hx] at this
            exact this.2.symm
          rw [hvu] at hK
          exact hK
      | false =>
        simp only [hnw, if_true, if_pos hin] at H2
        obtain ⟨he, hwn⟩ := layF_eval (ops := L.toArray) (p := p) (o := o) (fun cs b => Region.noSelect_spec hsel i o cs b (by rw [List.getElem?_toArray]; exact ho)) L 0 am (fun j oj hoj hpj d hd => by
          rw [Nat.zero_add] at hpj
          have hnj := ((hp j oj hoj).1 hpj).1
          have hji : j ≠ i := fun e => by subst e; exact hpj hpi
          exact (Oper.apart_spec ((hAp j oj (hnew j oj hoj hnj) hoj hnj).2 i o hin (Ne.symm hji) ho)).1 d hd)
        rw [hwn]
        have hput : ∀ v, (layF p L 0 am).put o.dst v = layF p L 0 (am.put o.dst v) := fun v => (layF_put L 0 am (fun j oj hoj hpj d hd => by
          rw [Nat.zero_add] at hpj
          have hnj := ((hp j oj hoj).1 hpj).1
          have hji : j ≠ i := fun e => by subst e; exact hpj hpi
          exact (Oper.apart_spec ((hAp j oj (hnew j oj hoj hnj) hoj hnj).2 i o hin (Ne.symm hji) ho)).2.1 d hd)).symm
        have hp' : ∀ j oj, L[j]? = some oj → (p j ≠ none ↔ isNew oj = true ∧ (listed.setIfInBounds i true).getD j true = true) := by
          intro j oj hoj
          by_cases hji : j = i
          · subst hji
            have : oj = o := Option.some.inj (hoj.symm.trans ho)
            subst this
            simp [hnw, hpi]
          · rw [getD_set_ne true (fun e => hji e.symm)]; exact hp j oj hoj
        by_cases hwt : Region.wanted o (yielded L.toArray am.tmps) = true
        · simp only [hwt, if_true] at H2 ⊢
          left
          obtain ⟨v, hv, hK⟩ := H2 ⟨w, Below.refl _ _⟩
          have hnext : ∀ y : Later w, wpAny P .any L.toArray Q fuel (listed.setIfInBounds i true) ((layF p L 0 am).put o.dst v) y.w := by
            intro y
            rw [hput]
            refine ih _ _ _ _ hs' hp' hset (closed_set hcl hs ho hwait) (hw.later y) fun V => ?_
            have hV : Below w.heap.size w V.w := y.h.trans (V.h.mono y.h.size)
            obtain ⟨u, hu, hK'⟩ := H2 ⟨V.w, hV⟩
            have e : u = v := quietAt_det (hu V.w ⟨⟨V.w, Below.refl _ _⟩, rfl⟩) (hv V.w ⟨⟨V.w, hV⟩, rfl⟩)
            rw [← e]
            exact hK'
          have h3 := hv w ⟨⟨w, Below.refl _ _⟩, rfl⟩
          unfold Oper.quietAt at h3
          unfold Oper.wp
          rw [he]
          generalize (execOp am.eval o).run P w = r at *
          cases r with
          | halt x w' => simp only [Oper.quietUpon] at h3
          | ok nx w' =>
            cases nx <;> simp only [Oper.quietUpon] at h3 <;> simp only [Oper.upon]
            case value u =>
              obtain ⟨e1, e2⟩ := h3
              rw [e1, e2]
              exact hnext ⟨w, Below.refl _ _⟩
            case skip =>
              obtain ⟨e1, e2⟩ := h3
              rw [e1, ← e2]
              exact hnext ⟨w, Below.refl _ _⟩
            case enter f args =>
              obtain ⟨e1, hc⟩ := h3
              rw [e1]
              exact hc.mono fun e w'' ⟨he', y, hy⟩ => by subst he'; rw [hy]; exact hnext y
        · simp only [hwt, Bool.false_eq_true, if_false] at H2 ⊢
          rw [hput]
          exact ih _ _ _ _ hs' hp' hset (closed_set hcl hs ho hwait) hw H2
    · -- all ahead of the tail has come up
      have hnonf : ∀ j, j < n → floatAt L j ≠ true → listed.getD j true = true := by
        intro j hjn hflj
        have h3 := hT2 i (List.mem_range.2 hil)
        simp only [Bool.or_eq_true, decide_eq_true_eq, hin, false_or] at h3
        have h4 := List.all_eq_true.1 h3 j (List.mem_range.2 (by omega))
        simp only [hflj, Bool.and_false, Bool.false_or] at h4
        exact wait_listed hcl 40 i o j ho (fun e he hb => getD_tf (hwait e he hb)) h4
      have hfloat : ∀ j, j < n → floatAt L j = true → listed.getD j true = true := by
        intro j
        induction j using Nat.strongRecOn with
        | _ j ihj =>
          intro hjn hflj
          cases hlj : listed.getD j true with
          | true => rfl
          | false =>
            exfalso
            refine hfl ⟨j, mem_ready.2 ⟨hlj, L[j]'(by omega), by simp, fun e he hb => ?_⟩, hjn, hflj⟩
            have hlt := backB_spec hE (i := j) (o := L[j]'(by omega)) (by simp) e he hb
            rw [← getD_listed (by omega)]
            by_cases hfe : floatAt L e.on = true
            · exact ihj e.on hlt (by omega) hfe
            · exact hnonf e.on (by omega) hfe
      have hall : ∀ j, j < L.length → (listed.getD j true = true ↔ j < n) := by
        intro j hj
        by_cases hjn : j < n
        · simp only [hjn, iff_true]
          by_cases hflj : floatAt L j = true
          · exact hfloat j hjn hflj
          exact hnonf j hjn hflj
        · simp only [hjn, iff_false]
          rw [htl j (by omega) hj]; simp
      have hV := H ⟨w, Below.refl _ _⟩
      obtain ⟨h1, h2⟩ := tail_run (Q := Q) hE hT (w0 := w) ⟨⟨w, Below.refl _ _⟩, rfl⟩ (fuel + 1) listed n am hs (Nat.le_refl _) hall hV
      have hnl : ∀ i o, L[i]? = some o → isNew o = true → p i ≠ none := fun i o ho hn => (hp i o ho).2 ⟨hn, (hall i (List.getElem?_eq_some_iff.1 ho).1).2 (hnew i o ho hn)⟩
      have h3 := h1 ⟨w, Below.refl _ _⟩ (fun i => (p i).getD 0) ⟨fun i o ho hn => by
        obtain ⟨b, hb⟩ := Option.ne_none_iff_exists'.1 (hnl i o ho hn)
        obtain ⟨k1, k2, k3⟩ := hw.at_ i b hb
        simp only [hb, Option.getD_some]
        exact ⟨k1, k3⟩, fun i j oi oj hoi hoj hni hnj he => by
        obtain ⟨b, hb⟩ := Option.ne_none_iff_exists'.1 (hnl i oi hoi hni)
        obtain ⟨c, hc⟩ := Option.ne_none_iff_exists'.1 (hnl j oj hoj hnj)
        simp only [hb, hc, Option.getD_some] at he
        subst he
        exact hw.inj i j b hb hc⟩
      rw [← layF_all (n := n) L 0 am (fun j oj hoj => by rw [Nat.zero_add]; exact ⟨fun h => ((hp j oj hoj).1 h).1, fun h => hnl j oj hoj h⟩)] at h3
      have := h2 _ _ h3
      exact this.2 i hi
end
/-- **A region that draws its order, lays new blocks (whose addresses only its last stores read), and ends in stores that wait for all else.** -/
theorem wp_region_news {P : Program} {id : Nat} {Q : Exit → Act → World → Prop} {a : Act} {W : World} {L : List Oper} (n : Nat) (t : TypeId) (O : Obj) (hQ : ∀ c (a : Act) (d : Tmp) v w, Q (.panic c) (a.put (some d) v) w → Q (.panic c) a w) (hm : P.follows .mixedOrders = true) (hF : floatsOk L n = true) (hB : Region.lexB .any (calmN n L).toArray = true)
    (hE : backB L.toArray = true) (hT : tailsOk L n = true) (hA : newsApart L n = true) (hty : typesOk L t = true) (hsel : Region.noSelect L.toArray = true)
    (hN : ∀ (o : Oper) (a : Act) (w : World), o.op = .alloc t → (execOp a.eval o).run P w = .ok (.value (.pointer (some ⟨w.heap.size, 0, none⟩))) (w.alloc O))
    (h : ∀ V : Later W, wpQuiet P (calmN n L).toArray (fun w' => ∃ x : Later V.w, w' = x.w) (fun a' => ∀ x : Later V.w, ∀ p : Nat → Nat, NewsAt W L O p x.w → wpList P L.toArray Q (L.drop n) (layN p L 0 a') x.w) (calmN n L) a) :
    (Code.region id L.toArray true).wp P Q a W := by
  simp only [Region.lexB, Bool.and_eq_true] at hB
  refine wp_region_any hm ?_
  have e : ∀ (L : List Oper) k, layF (fun _ => none) L k a = a := by
    intro L
    induction L with
    | nil => intro k; rfl
    | cons o l ih => intro k; exact ih (k + 1)
  have h0 : ∀ i, (Array.replicate L.toArray.size false).getD i true = true ↔ L.length ≤ i := by
    intro i
    by_cases hi : i < L.length <;> simp [hi] <;> omega
  have := wpAny_of_calmN (P := P) (Q := Q) (W := W) (O := O) hQ hF hE hT hA hty hsel hN L.toArray.size (Array.replicate L.toArray.size false) a (fun _ => none) W.drew (by simp) (fun i o ho => by
    have hil : i < L.length := (List.getElem?_eq_some_iff.1 ho).1
    rw [h0 i]; simp; omega) (fun i _ hi => by simp [hi]) (fun j oj hj hl => by
    have hjl := (List.getElem?_eq_some_iff.1 hj).1
    simp [hjl] at hl) ⟨step_drew W, fun _ _ h => (by cases h), fun _ _ _ h => (by cases h)⟩ (fun V => ?_)
  · rw [e] at this
    simpa using this
  · have hV : Below W.heap.size W V.w := (step_drew W).trans V.h
    have h1 := h ⟨V.w, hV⟩
    have := wpAnyQ_lex (C := fun w' => ∃ x : Later V.w, w' = x.w) (md := .any) hB.1 (calmN n L) 0 (Array.replicate (calmN n L).toArray.size false) a (by simp) (by simpa using hB.2) h1
    simp only [List.size_toArray, calmN_length] at this ⊢
    exact this
/-- **A region in the text's order, each operation quiet.** -/
theorem wpList_of_quiet {P : Program} {ops : Array Oper} {Q : Exit → Act → World → Prop} {C : World → Prop} : ∀ (l : List Oper) (a : Act) (w : World), C w → wpQuiet P ops C (fun a' => ∀ w', C w' → Q .normal a' w') l a → wpList P ops Q l a w
  | [], a, w, hC, h => h w hC
  | o :: l, a, w, hC, h => by
    unfold wpQuiet at h
    unfold wpList
    by_cases hw : Region.wanted o (yielded ops a.tmps) = true
    · rw [if_pos hw] at h ⊢
      exact .inl (Oper.wp_of_quiet hC (fun a' w' hC' h' => wpList_of_quiet l a' w' hC' h') h)
    · rw [if_neg hw] at h ⊢
      exact wpList_of_quiet l _ w hC h
theorem wp_region_plain {P : Program} {id : Nat} {Q : Exit → Act → World → Prop} {a : Act} {W : World} {l : List Oper}
    (h : wpQuiet P l.toArray (fun w' => ∃ x : Later W, w' = x.w) (fun a' => ∀ x : Later W, Q .normal a' x.w) l a) : (Code.region id l.toArray false).wp P Q a W := by
  refine wp_region_list (wpList_of_quiet (C := fun w' => ∃ x : Later W, w' = x.w) _ _ _ ⟨⟨W, Below.refl _ _⟩, rfl⟩ ?_)
  have e : (fun a' => ∀ w', (∃ x : Later W, w' = x.w) → Q .normal a' w') = (fun a' => ∀ x : Later W, Q .normal a' x.w) := by
    funext a'
    apply propext
    exact ⟨fun h x => h _ ⟨x, rfl⟩, fun h w' ⟨x, e⟩ => by rw [e]; exact h x⟩
  rw [e]
  simpa using h
end Go.Proofs.Ytgccbfkofkohpaa
