/- Regions that draw their order and end in one store: all ahead of the store may make memory (its values lie in none); then the store. -/
import Derived.Test.YteihojjciklfoaaLater
import Derived.StillTail
namespace Go.Proofs.Yteihojjciklfoaa
set_option linter.unusedVariables false
set_option linter.unusedSimpArgs false
open Go.ChangeShapes Go.WideShapes Go.ChangeAt Go.RowKit

/-- The last operation made harmless; all but the last; the last. -/
def calm : List Oper → List Oper
  | [] => []
  | [t] => [{ t with op := .move (.const undef) }]
  | o :: p :: rest => o :: calm (p :: rest)
def headOps : List Oper → List Oper
  | [] => []
  | [_] => []
  | o :: p :: rest => o :: headOps (p :: rest)
theorem calm_spec : ∀ (l : List Oper) (t : Oper), calm (l ++ [t]) = l ++ [{ t with op := .move (.const undef) }]
  | [], t => rfl
  | [o], t => rfl
  | o :: p :: l, t => by
    have := calm_spec (p :: l) t
    simp only [List.cons_append, calm] at this ⊢
    rw [this]
theorem head_spec : ∀ (l : List Oper) (t : Oper), headOps (l ++ [t]) = l
  | [], t => rfl
  | [o], t => rfl
  | o :: p :: l, t => by
    have := head_spec (p :: l) t
    simp only [List.cons_append, headOps] at this ⊢
    rw [this]
/-- Each edge leads back; the last operation waits for all others. -/
def backB (ops : Array Oper) : Bool := (List.range ops.size).all fun i => ((ops[i]?).map fun o => o.after.all fun e => !Region.binds .any e || decide (e.on < i)).getD true
def sinkB (ops : Array Oper) (n : Nat) : Bool := (List.range n).all fun i => Region.waitsFor .any ops n i
theorem backB_spec {ops : Array Oper} (h : backB ops = true) {i : Nat} {o : Oper} (ho : ops[i]? = some o) : ∀ e ∈ o.after, Region.binds .any e = true → e.on < i := by
  intro e he hb
  have hi : i < ops.size := (Array.getElem?_eq_some_iff.1 ho).1
  have h1 := List.all_eq_true.1 h i (List.mem_range.2 hi)
  rw [ho] at h1
  simp only [Option.map_some, Option.getD_some, Array.all_eq_true_iff_forall_mem] at h1
  have h2 := h1 e he
  simp [hb] at h2
  exact h2
theorem ready_of_unlisted {ops : Array Oper} (hE : backB ops = true) {listed : Array Bool} (hs : listed.size = ops.size) : ∀ (n : Nat), n < ops.size → listed.getD n true = false → Region.ready .any ops listed ≠ [] := by
  intro n
  induction n using Nat.strongRecOn with
  | _ n ih =>
    intro hn hu h0
    obtain ⟨o, ho⟩ : ∃ o, ops[n]? = some o := ⟨ops[n], Array.getElem?_eq_getElem hn⟩
    by_cases hall : ∀ e ∈ o.after, Region.binds .any e = true → listed.getD e.on false = true
    · have : n ∈ Region.ready .any ops listed := mem_ready.2 ⟨hu, o, ho, hall⟩
      rw [h0] at this
      cases this
    · obtain ⟨e, he⟩ := Classical.not_forall.1 hall
      obtain ⟨he1, he2⟩ := Classical.not_imp.1 he
      obtain ⟨hb, hl⟩ := Classical.not_imp.1 he2
      have hlt := backB_spec hE ho e he1 hb
      refine ih e.on hlt (by omega) ?_ h0
      have : listed.getD e.on false = false := by simpa using hl
      exact getD_in (by omega) this

section
variable {P : Program} {C : World → Prop} {l : List Oper} {t : Oper} {Q : Exit → Act → World → Prop}
theorem calm_get (i : Nat) : (l ++ [{ t with op := .move (.const undef) }] : List Oper).toArray[i]? = ((l ++ [t]).toArray[i]?).map fun o => if i = l.length then { o with op := .move (.const undef) } else o := by
  simp only [List.getElem?_toArray]
  by_cases h : i < l.length
  · rw [List.getElem?_append_left h, List.getElem?_append_left h]
    have hne : ¬ i = l.length := by omega
    cases l[i]? <;> simp [hne]
  · by_cases h2 : i = l.length
    · subst h2; simp
    · rw [List.getElem?_eq_none (by simp; omega), List.getElem?_eq_none (by simp; omega)]; rfl
theorem calm_ready (listed : Array Bool) : Region.ready .any (l ++ [{ t with op := .move (.const undef) }] : List Oper).toArray listed = Region.ready .any (l ++ [t]).toArray listed := by
  unfold Region.ready
  have hsz : (l ++ [{ t with op := .move (.const undef) }] : List Oper).toArray.size = (l ++ [t]).toArray.size := by simp
  rw [hsz]
  apply List.filter_congr
  intro i hi
  rw [calm_get]
  cases (l ++ [t]).toArray[i]? with
  | none => rfl
  | some o => simp only [Option.map_some]; split <;> rfl
theorem calm_yielded (tmps : Array Value) : yielded (l ++ [{ t with op := .move (.const undef) }] : List Oper).toArray tmps = yielded (l ++ [t]).toArray tmps := by
  funext j
  unfold yielded
  rw [calm_get]
  cases (l ++ [t]).toArray[j]? with
  | none => rfl
  | some o =>
    simp only [Option.map_some]
    by_cases hj : j = l.length
    · rw [if_pos hj]; rfl
    · rw [if_neg hj]
theorem getD_set_same {listed : Array Bool} {n : Nat} : (listed.setIfInBounds n true).getD n true = true := by
  by_cases h : n < listed.size
  · simp [h]
  · simp [Array.getElem?_eq_none (by simpa using h : listed.size ≤ n)]
theorem wpAny_of_calm (hE : backB (l ++ [t]).toArray = true) (hS : sinkB (l ++ [t]).toArray l.length = true) (hd : t.dst = none) (hg : t.guard = none) :
    ∀ (fuel : Nat) (listed : Array Bool) (a : Act) (w : World), C w → listed.size = (l ++ [t]).toArray.size → listed.getD l.length true = false →
      wpAnyQ P .any (l ++ [{ t with op := .move (.const undef) }] : List Oper).toArray C (fun a' => ∀ w', C w' → wpList P (l ++ [t]).toArray Q [t] a' w') fuel listed a →
      wpAny P .any (l ++ [t]).toArray Q fuel listed a w := by
  intro fuel
  induction fuel with
  | zero =>
    intro listed a w hC hs hu h
    have h1 := h.1
    rw [calm_ready] at h1
    exact absurd h1 (ready_of_unlisted hE hs l.length (by simp) hu)
  | succ fuel ih =>
    intro listed a w hC hs hu h
    refine ⟨fun h0 => absurd h0 (ready_of_unlisted hE hs l.length (by simp) hu), fun i hi => ?_⟩
    have h2 := h.2 i (by rw [calm_ready]; exact hi)
    have hsz : (listed.setIfInBounds i true).size = (l ++ [t]).toArray.size := by simpa using hs
    by_cases hin : i = l.length
    · subst hin
      have ht : (l ++ [t]).toArray[l.length]? = some t := by simp
      have ht' : (l ++ [{ t with op := .move (.const undef) }] : List Oper).toArray[l.length]? = some { t with op := .move (.const undef) } := by simp
      have hall : Region.ready .any (l ++ [t]).toArray (listed.setIfInBounds l.length true) = [] := by
        apply List.eq_nil_iff_forall_not_mem.2
        intro j hj
        obtain ⟨hju, oj, hoj, _⟩ := mem_ready.1 hj
        obtain ⟨_, on, hon, hwait⟩ := mem_ready.1 hi
        have : on = t := Option.some.inj (hon.symm.trans ht)
        subst this
        have hjlt : j < (l ++ [on]).toArray.size := (Array.getElem?_eq_some_iff.1 hoj).1
        by_cases hjn : j = l.length
        · subst hjn
          rw [getD_set_same] at hju
          cases hju
        · have hjl : j < l.length := by simp at hjlt; omega
          have h3 := List.all_eq_true.1 hS j (List.mem_range.2 hjl)
          obtain ⟨o', ho', e, he, hb, hon'⟩ := Region.waitsFor_spec h3
          have : o' = on := Option.some.inj (ho'.symm.trans ht)
          subst this
          have h4 := hwait e he hb
          rw [hon'] at h4
          rw [getD_set_ne true (fun e => hjn e.symm)] at hju
          have := getD_both hju
          rw [this] at h4
          cases h4
      have hT : ∀ w', C w' → wpList P (l ++ [t]).toArray Q [t] a w' := by
        unfold qOp at h2
        rw [ht'] at h2
        have hw : Region.wanted { t with op := .move (.const undef) } (yielded (l ++ [{ t with op := .move (.const undef) }] : List Oper).toArray a.tmps) = true := by simp [Region.wanted, hg]
        dsimp only at h2
        rw [if_pos hw] at h2
        obtain ⟨v, _, h3⟩ := h2
        have e : a.put t.dst v = a := by rw [hd]; rfl
        change wpAnyQ _ _ _ _ _ _ _ (a.put t.dst v) at h3
        rw [e] at h3
        cases fuel with
        | zero => exact h3.2
        | succ f => exact h3.1 (by rw [calm_ready]; exact hall)
      have h5 := hT w hC
      unfold wpList at h5
      unfold wpOp
      simp only [ht]
      simp only [Region.wanted, hg, if_true] at h5 ⊢
      refine h5.imp (Oper.wp_mono fun a' w' h6 => ?_) id
      have h7 : Q .normal a' w' := h6
      cases fuel with
      | zero => exact ⟨hall, h7⟩
      | succ f => exact ⟨fun _ => h7, fun j hj => by rw [hall] at hj; cases hj⟩
    · have hq : qOp P (l ++ [t]).toArray C i (wpAnyQ P .any (l ++ [{ t with op := .move (.const undef) }] : List Oper).toArray C (fun a' => ∀ w', C w' → wpList P (l ++ [t]).toArray Q [t] a' w') fuel (listed.setIfInBounds i true)) a := by
        unfold qOp at h2 ⊢
        rw [calm_get, calm_yielded] at h2
        cases ho : (l ++ [t]).toArray[i]? with
        | none => rw [ho] at h2; exact h2
        | some o =>
          rw [ho] at h2
          simp only [Option.map_some, if_neg hin] at h2
          exact h2
      refine wpOp_of_qOp hC (fun a' w' hw' h6 => ih _ a' w' hw' hsz ?_ h6) hq
      rw [getD_set_ne true hin]
      exact hu
theorem wpQuiet_mono' {ops : Array Oper} {K K' : Act → Prop} (hk : ∀ a, K a → K' a) : ∀ (l : List Oper) (a : Act), wpQuiet P ops C K l a → wpQuiet P ops C K' l a
  | [], a, h => hk a h
  | o :: l, a, h => by
    unfold wpQuiet at h ⊢
    split
    · rename_i hw
      rw [if_pos hw] at h
      exact Oper.quiet_mono (fun a' h' => wpQuiet_mono' hk l a' h') h
    · rename_i hw
      rw [if_neg hw] at h
      exact wpQuiet_mono' hk l _ h
theorem wpQuiet_append {ops : Array Oper} {K : Act → Prop} : ∀ (l : List Oper) (r : List Oper) (a : Act), wpQuiet P ops C (fun a' => wpQuiet P ops C K r a') l a → wpQuiet P ops C K (l ++ r) a
  | [], r, a, h => h
  | o :: l, r, a, h => by
    rw [List.cons_append]
    unfold wpQuiet at h ⊢
    split
    · rename_i hw
      rw [if_pos hw] at h
      exact Oper.quiet_mono (fun a' h' => wpQuiet_append l r a' h') h
    · rename_i hw
      rw [if_neg hw] at h
      exact wpQuiet_append l r _ h
end
def lastOk (L : List Oper) : Bool := (L.getLast?.map fun t => t.dst.isNone && t.guard.isNone).getD false
def tailOps (L : List Oper) : List Oper := L.drop (headOps L).length
/-- **A region that draws its order and ends in a store that waits for all else.** -/
theorem wp_region_tail {P : Program} {id : Nat} {Q : Exit → Act → World → Prop} {a : Act} {W : World} {L : List Oper} (hm : P.follows .mixedOrders = true) (hB : Region.lexB .any (calm L).toArray = true) (hE : backB L.toArray = true)
    (hS : sinkB L.toArray (headOps L).length = true) (hO : lastOk L = true)
    (h : wpQuiet P (calm L).toArray (fun w' => ∃ x : Later W, w' = x.w) (fun a' => ∀ x : Later W, wpList P L.toArray Q (tailOps L) a' x.w) (headOps L) a) : (Code.region id L.toArray true).wp P Q a W := by
  rcases List.eq_nil_or_concat L with rfl | ⟨l, t, rfl⟩
  · cases hO
  rw [List.concat_eq_append] at *
  rw [head_spec] at hS h
  rw [calm_spec] at hB h
  have ht : tailOps (l ++ [t]) = [t] := by unfold tailOps; rw [head_spec]; simp
  rw [ht] at h
  have hO' : t.dst = none ∧ t.guard = none := by
    unfold lastOk at hO
    simp at hO
    exact hO
  obtain ⟨hd, hg⟩ := hO'
  refine wp_region_any hm (wpAny_of_calm (C := fun w' => ∃ x : Later W, w' = x.w) hE hS hd hg _ _ _ _ ⟨⟨_, step_drew W⟩, rfl⟩ (by simp) (by simp) ?_)
  simp only [Region.lexB, Bool.and_eq_true] at hB
  have e : (fun a' => ∀ w', (∃ x : Later W, w' = x.w) → wpList P (l ++ [t]).toArray Q [t] a' w') = (fun a' => ∀ x : Later W, wpList P (l ++ [t]).toArray Q [t] a' x.w) := by
    funext a'
    apply propext
    exact ⟨fun h x => h _ ⟨x, rfl⟩, fun h w' ⟨x, e⟩ => by rw [e]; exact h x⟩
  rw [e]
  have hq : wpQuiet P (l ++ [{ t with op := .move (.const undef) }] : List Oper).toArray (fun w' => ∃ x : Later W, w' = x.w) (fun a' => ∀ x : Later W, wpList P (l ++ [t]).toArray Q [t] a' x.w) (l ++ [{ t with op := .move (.const undef) }]) a := by
    refine wpQuiet_append l _ a ?_
    have h2 : ∀ a', (∀ x : Later W, wpList P (l ++ [t]).toArray Q [t] a' x.w) → wpQuiet P (l ++ [{ t with op := .move (.const undef) }] : List Oper).toArray (fun w' => ∃ x : Later W, w' = x.w) (fun a' => ∀ x : Later W, wpList P (l ++ [t]).toArray Q [t] a' x.w) [{ t with op := .move (.const undef) }] a' := by
      intro a' h'
      have hw : Region.wanted { t with op := .move (.const undef) } (yielded (l ++ [{ t with op := .move (.const undef) }] : List Oper).toArray a'.tmps) = true := by simp [Region.wanted, hg]
      refine BigFrame.wpQuiet_want hw fun K hK => BigFrame.quiet_move (.const undef) rfl ?_
      refine hK _ ?_
      have e : a'.put t.dst (a'.eval (.const undef)) = a' := by rw [hd]; rfl
      show wpQuiet _ _ _ _ [] (a'.put t.dst (a'.eval (.const undef)))
      rw [e]
      exact h'
    exact wpQuiet_mono' h2 l a h
  have := wpAnyQ_lex (C := fun w' => ∃ x : Later W, w' = x.w) (md := .any) hB.1 (l ++ [{ t with op := .move (.const undef) }]) 0 (Array.replicate (l ++ [{ t with op := .move (.const undef) }] : List Oper).toArray.size false) a (by simp) (by simpa using hB.2) hq
  simpa using this
end Go.Proofs.Yteihojjciklfoaa
