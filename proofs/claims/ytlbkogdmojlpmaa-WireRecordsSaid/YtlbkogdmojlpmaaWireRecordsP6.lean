/- What WireRecords stands on, part 6. -/
import Derived.Deep.CutRange
import Derived.Laws.CopyRow
import Derived.Laws.AppendOwn
import Derived.Lib.ItoaNum
import Derived.Test.YtlbkogdmojlpmaaWireRecordsP1
import Derived.Test.YtlbkogdmojlpmaaWireRecordsP2
import Derived.Test.YtlbkogdmojlpmaaWireRecordsP3
import Derived.Test.YtlbkogdmojlpmaaWireRecordsP4
import Derived.Test.YtlbkogdmojlpmaaWireRecordsP5
namespace Go.Proofs.Ytlbkogdmojlpmaa
set_option linter.unusedVariables false
set_option maxRecDepth 20000
set_option linter.unusedSimpArgs false
open Go.ChangeShapes Go.WideShapes Go.ChangeAt Go.RowKit Go.Shelf
variable {ds : List Deferred}
def MidOk2 (F : Fence) (n : Nat) (P : Program) (l : Nat) (body : Code) (W : World) (R : World → Prop) (a₁ : Act) (W1 : World) : Prop :=
  KeepsOthers W W1 ∧ ∀ o, NotCells W1 l → o.isCells = false → body.wpIn (F.inRound l) n P (roundEnd l (W1.putObj l o) R) a₁ (W1.putObj l o)
theorem wpIn_range2 {F : Fence} {n : Nat} {P : Program} {g : Operand} {ps : Array Tmp} {assign body : Code} {Q : Exit → Act → World → Prop} {a : Act} {w : World}
    (hro : F.round = none) (h1 : 1 ≤ n) {gf : Nat} {lb : Array Value} (hg : a.eval g = .func (.func gf) #[] lb) (hFg : F.fn gf) (eg : ∀ args w, (callFunc gf args).run P w = .ok (.enter gf args) w)
    {α : Type} (encs : α → Array Value) (hps : ∀ x, (encs x).size = ps.size) (Pre : α → World → Prop) (Post : α → World → World → Prop) (Fin : World → Prop)
    (hround : ∀ (l : Nat) (x : α) (W : World), w.heap.size < l → l < W.heap.size → Pre x W →
      assign.wpIn (F.inRound l) (n - 1 - 1) P (Exit.then (MidOk2 F (n - 1 - 1) P l body W (Post x W)) (fun _ _ _ => False)) { tmps := (ps.zip (encs x)).foldl (fun t (p, v) => t.setIfInBounds p v) a.tmps, defers := [] } W)
    (hiter : ∀ (l D : Nat) (o1 o2 : Obj) (W1 : World), D = w.heap.size → l = w.heap.size + 1 → W1 = (w.alloc o2).alloc o1 → RecAt l D o1 o2 W1 →
      (∀ x W, Pre x W → RecAt l D o1 o2 W → YieldAt F (n - 1 - 1) P l (encs x) W fun e W' => e = .returned (.bool true) ∧ RecAt l D o1 o2 W' ∧ Post x W W') →
      CallsIn F (n - 1) P gf (#[.func (.yield l) #[] #[]] ++ lb) W1 fun e W' => (∃ v, e = .returned v) ∧ RecAt l D o1 o2 W' ∧ Fin W')
    (hdone : ∀ (l D : Nat) (o : Obj) (W : World), D = w.heap.size → l = w.heap.size + 1 → Fin W → l < W.heap.size → NotCells W l → (W.putObj l o).heap[D]? = some (.deferred (some [])) →
      Q .normal { a with defers := { target := .collected D, args := #[] } :: a.defers } (W.putObj l o)) :
    (Code.rangeFunc g ps assign body).wpIn F n P Q a w := by
  refine wpIn_rangeFunc ?_
  intro fn hfn
  rw [hro]
  obtain ⟨rec, hrec⟩ : ∃ rec : LoopState → Option Code → Loop, rec = fun st pe => { state := st, pending := pe, fn, tmps := a.tmps, params := ps, assign, body, defers := w.heap.size } := ⟨_, rfl⟩
  obtain ⟨W1, hW1⟩ : ∃ W1, (w.alloc (.deferred (some []))).alloc (.loop (rec .ready none)) = W1 := ⟨_, rfl⟩
  have hL1 : W1.heap[w.heap.size + 1]? = some (.loop (rec .ready none)) := by
    rw [← hW1]; have := World.alloc_heap_new (w.alloc (.deferred (some []))) (.loop (rec .ready none)); rwa [World.size_alloc] at this
  have hK1 : W1.heap[w.heap.size]? = some (.deferred (some [])) := by
    rw [← hW1]; exact (Below.heap_alloc _ _ _ (by simp)).trans (World.alloc_heap_new w _)
  refine ⟨w.heap.size + 1, [{ target := .collected w.heap.size, args := #[] }], W1, { target := .fn (.func gf) lb, args := #[.func (.yield (w.heap.size + 1)) #[] #[]] }, W1, gf,
    #[.func (.yield (w.heap.size + 1)) #[] #[]] ++ lb, W1, ?_, ?_, ?_, ?_, fun _ => h1, ?_⟩
  · rw [← hW1, hrec]; exact run_enterLoop_outer _ _ _ _ _
  · simp only [resolve, hg]
    simp [go_sem]
  · intro f' hf'; simp [Target.leads] at hf'; subst hf'; exact hFg
  · simp [invoke, go_sem, eg]
  · refine (hiter (w.heap.size + 1) w.heap.size (.loop (rec .ready none)) (.deferred (some [])) W1 rfl rfl hW1.symm ⟨hL1, hK1, rfl, rfl⟩ ?_).mono ?_
    · rintro x W hpre ⟨hl, hk, -, -⟩
      have hlt : w.heap.size + 1 < W.heap.size := (Array.getElem?_eq_some_iff.1 hl).1
      have hy := run_yield (P := P) (args := encs x) hl (by rw [hrec]; exact hps x)
      rw [hrec] at hy
      refine ⟨fn, _, assign, body, hy, roundIn_of_wpIn hfn (wpIn_mono (hround (w.heap.size + 1) x W (by omega) hlt hpre) ?_)⟩
      rintro e a1 W2 hp
      cases e with
      | normal =>
        obtain ⟨hk2, hb⟩ := hp
        have hl2 := hk2.same _ _ hl rfl
        have hd2 := hk2.same _ _ hk rfl
        have hlt2 := (Array.getElem?_eq_some_iff.1 hl2).1
        refine ⟨_, run_beginRound hl2 (by rw [hrec]), ?_⟩
        refine wpIn_mono (hb (.loop { rec .ready none with state := .busy }) (fun o' ho' => by rw [hl2] at ho'; cases ho'; rfl) rfl) ?_
        rintro e3 a3 W3 hp3
        cases e3 with
        | normal =>
          obtain ⟨hk3, hR⟩ := hp3
          have hl3 : W3.heap[w.heap.size + 1]? = some (.loop { rec .ready none with state := .busy }) := hk3.same _ _ (World.putObj_heap_same hlt2) rfl
          have hd3 : W3.heap[w.heap.size]? = some (.deferred (some [])) := hk3.same _ _ ((World.putObj_heap_other (by omega)).trans hd2) rfl
          have hend := run_endRound (P := P) none hl3
          rw [hrec] at hend
          refine ⟨_, _, hend, rfl, ⟨?_, ?_, rfl, rfl⟩, hR _⟩
          · rw [hrec]; exact World.putObj_heap_same (Array.getElem?_eq_some_iff.1 hl3).1
          · exact (World.putObj_heap_other (by omega)).trans hd3
        | _ => exact hp3.elim
      | _ => exact hp.elim
    · rintro e W2 ⟨⟨v, rfl⟩, ⟨hl, hk, -, -⟩, hf⟩
      refine ⟨none, _, by have := run_endLoop (P := P) hl (by rw [hrec]; simp); rw [hrec] at this; exact this, ?_⟩
      exact hdone (w.heap.size + 1) w.heap.size _ W2 rfl rfl hf (Array.getElem?_eq_some_iff.1 hl).1 (fun o' ho' => by rw [hl] at ho'; cases ho'; rfl) ((World.putObj_heap_other (by omega)).trans hk)
theorem wp_region_relM_in {P : Program} {id : Nat} {Q : Exit → Act → World → Prop} {a0 : Act} {W : World} {L : List Oper} {l n' : Nat} (hQ : ¬ LetsOut Q) (hnd : noDefer L = true) (m n : Nat) (hn : a0.tmps.size = n) (hm : P.follows .mixedOrders = true) (hok : relOkC L m n = true) (hml : Nat.ble m L.length = true) (E : Nat → Value → Prop) (hds : ∀ (j : Nat) (o : Oper), (L.take m)[j]? = some o → o.dst = none → ∀ v, E j v ↔ v = undef) (J : (Nat → Bool) → (Nat → Value) → World → Prop)
    (h0 : ∀ p, J (fun j => Nat.ble m j) p W.drew) (hop : HopAllM P L m Q E J a0 (L.take m) 0)
    (hend : ∀ (p : Nat → Value) (w : World), J (fun _ => true) p w → (∀ (j : Nat) (o : Oper), (L.take m)[j]? = some o → E j (p j)) → wpList P L.toArray Q (L.drop m) (layAll p (L.take m) 0 a0) w) : (Code.region id L.toArray true).wpIn (Fence.wide.inRound l) n' P Q a0 W := by
  have hW := step_drew W
  unfold relOkC at hok
  simp only [Bool.and_eq_true, List.all_eq_true, Option.isNone_iff_eq_none, Bool.or_eq_true, decide_eq_true_eq] at hok
  obtain ⟨⟨⟨⟨hsel, hE⟩, hall⟩, hT1⟩, hT2⟩ := hok
  have htake : ∀ (i : Nat) (o : Oper), (L.take m)[i]? = some o → i < m ∧ L[i]? = some o := fun i o h => by
    rw [List.getElem?_take] at h
    split at h
    · exact ⟨by assumption, h⟩
    · cases h
  have hintake : ∀ (i : Nat) (o : Oper), i < m → L[i]? = some o → (L.take m)[i]? = some o := fun i o h1 h2 => by
    rw [List.getElem?_take, if_pos h1]; exact h2
  have hdst : ∀ (i : Nat) (o : Oper) (d : Tmp), (L.take m)[i]? = some o → o.dst = some d → d < n ∧ depOf (L.take m) d = some i := fun i o d ho hd => by
    have h1 := hall i (List.mem_range.2 (htake i o ho).1)
    simp only [ho, hd, Bool.and_eq_true, decide_eq_true_eq, beq_iff_eq] at h1
    exact h1.1
  have hread : ∀ (i : Nat) (o : Oper) (t : Tmp) (j : Nat), (L.take m)[i]? = some o → t ∈ o.looksAt L.toArray → depOf (L.take m) t = some j → ∃ e ∈ o.after, Region.binds .any e = true ∧ e.on = j := fun i o t j ho ht hj => by
    have h1 := hall i (List.mem_range.2 (htake i o ho).1)
    simp only [ho, Bool.and_eq_true, List.all_eq_true] at h1
    have h2 := h1.2 t ht
    simp only [hj, Array.any_eq_true, Bool.and_eq_true, beq_iff_eq] at h2
    obtain ⟨x, hx, hb, he⟩ := h2
    exact ⟨_, Array.getElem_mem hx, hb, he⟩
  have hdis : ∀ (i j : Nat) (oi oj : Oper) (d : Tmp), (L.take m)[i]? = some oi → (L.take m)[j]? = some oj → j ≠ i → oi.dst = some d → oj.dst ≠ some d := fun i j oi oj d hi hj hne hd e => by
    have h1 := (hdst i oi d hi hd).2
    have h2 := (hdst j oj d hj e).2
    rw [h1] at h2
    exact hne (Option.some.inj h2).symm
  -- a tail operation that is ready: all ahead of it is listed
  have htail : ∀ (listed : Array Bool) (i : Nat), listed.size = L.toArray.size → (∀ (j : Nat) (oj : Oper), L[j]? = some oj → listed.getD j true = true → ∀ e ∈ oj.after, Region.binds .any e = true → listed.getD e.on true = true) → i ∈ Region.ready .any L.toArray listed → m ≤ i → ∀ j, j < i → listed.getD j true = true := by
    intro listed i hs hcl hi hmi j hj
    obtain ⟨hiu, o, ho, hwait⟩ := mem_ready.1 hi
    have ho' : L[i]? = some o := by simpa using ho
    have hil := (List.getElem?_eq_some_iff.1 ho').1
    rcases hT2 i (List.mem_range.2 hil) with h3 | h3
    · omega
    have h4 := h3 j (List.mem_range.2 hj)
    unfold aftB at h4
    simp only [ho', Array.any_eq_true, Bool.and_eq_true, Bool.or_eq_true, beq_iff_eq] at h4
    obtain ⟨x, hx, hb, h4⟩ := h4
    have h5 : listed.getD (o.after[x]).on true = true := by
      have h1 := hwait _ (Array.getElem_mem hx) hb
      by_cases hlt : (o.after[x]).on < listed.size
      · simpa [hlt] using h1
      · rw [Array.getD_eq_getD_getElem?, Array.getElem?_eq_none (by omega)]; rfl
    rcases h4 with h4 | h4
    · rw [h4] at h5; exact h5
    · cases hq : L[(o.after[x]).on]? with
      | none => unfold aftB at h4; rw [hq] at h4; cases h4
      | some oq => exact aft_listed hcl 39 _ oq j hq h5 h4
  have hI : ∀ (listed : Array Bool) (a : Act) (w : World), (J (fun j => Nat.ble m j || listed.getD j true) (fun j => a.eval (match ((L.take m)[j]?).bind (·.dst) with | some d => .tmp d | none => .const undef)) w ∧ a.tmps.size = n ∧ a.defers = a0.defers ∧
      (∀ t : Tmp, (∀ (j : Nat) (oj : Oper), (L.take m)[j]? = some oj → listed.getD j true = true → oj.dst ≠ some t) → a.eval (.tmp t) = a0.eval (.tmp t)) ∧
      (∀ (j : Nat) (oj : Oper) (d : Tmp), (L.take m)[j]? = some oj → listed.getD j true = true → oj.dst = some d → E j (a.eval (.tmp d)))) → listed.size = L.length → (∀ j, j < m → j < L.length → listed.getD j true = true) → wpList P L.toArray Q (L.drop m) a w := by
    rintro listed a w ⟨hB, hz, hd, hbase, hYs⟩ hls hl
    have hlisted : ∀ (j : Nat) (oj : Oper), (L.take m)[j]? = some oj → listed.getD j true = true := fun j oj hoj => by
      obtain ⟨h1, h2⟩ := htake j oj hoj
      exact hl j h1 (List.getElem?_eq_some_iff.1 h2).1
    have hp : a = layAll (fun j => a.eval (match ((L.take m)[j]?).bind (·.dst) with | some d => .tmp d | none => .const undef)) (L.take m) 0 a0 := by
      obtain ⟨z1, z2⟩ := lay_size (fun j => a.eval (match ((L.take m)[j]?).bind (·.dst) with | some d => .tmp d | none => .const undef)) (L.take m) 0 a0
      refine act_ext (by rw [z1, hz, hn]) (by rw [z2, hd]) fun t ht => ?_
      cases hj : depOf (L.take m) t with
      | none => rw [lay_base _ (L.take m) 0 a0 (depOf_none hj)]; exact hbase t fun j oj hoj _ => depOf_none hj j oj hoj
      | some j =>
        obtain ⟨oj, hoj, hdj⟩ := depOf_some hj
        rw [lay_at _ (L.take m) 0 j a0 oj hoj hdj (by rw [hn, ← hz]; exact ht) fun i oi hi hne => hdis j i oj oi t hoj hi hne hdj]
        rw [Nat.zero_add]
        simp only [hoj, hdj, Option.bind_some]
    rw [hp]
    have hS : (fun j => Nat.ble m j || listed.getD j true) = fun _ => true := funext fun j => by
      by_cases hj : m ≤ j
      · rw [Nat.ble_eq_true_of_le hj]; rfl
      · by_cases hjl : j < L.length
        · rw [hl j (by omega) hjl]; simp
        · have hnone : listed[j]? = none ∨ True := .inr trivial
          have : (L.take m)[j]? = none := by rw [List.getElem?_eq_none_iff]; simp; omega
          have hsz := hls
          rw [Array.getD_eq_getD_getElem?, Array.getElem?_eq_none (by omega)]; simp
    rw [hS] at hB
    refine hend _ w hB fun i o ho => ?_
    cases hdo : o.dst with
    | some d =>
      simp only [ho, hdo, Option.bind_some]
      exact hYs i o d ho (hlisted i o ho) hdo
    | none =>
      simp only [ho, hdo, Option.bind_some]
      exact (hds i o ho hdo _).2 rfl
  refine wpIn_region_inv hQ hnd hm (fun listed a w => (∀ (j : Nat) (oj : Oper), L[j]? = some oj → listed.getD j true = true → ∀ e ∈ oj.after, Region.binds .any e = true → listed.getD e.on true = true) ∧ (((∀ j, m ≤ j → j < L.length → listed.getD j true = false) ∧ J (fun j => Nat.ble m j || listed.getD j true) (fun j => a.eval (match ((L.take m)[j]?).bind (·.dst) with | some d => .tmp d | none => .const undef)) w ∧ a.tmps.size = n ∧ a.defers = a0.defers ∧
    (∀ t : Tmp, (∀ (j : Nat) (oj : Oper), (L.take m)[j]? = some oj → listed.getD j true = true → oj.dst ≠ some t) → a.eval (.tmp t) = a0.eval (.tmp t)) ∧
    (∀ (j : Nat) (oj : Oper) (d : Tmp), (L.take m)[j]? = some oj → listed.getD j true = true → oj.dst = some d → E j (a.eval (.tmp d)))) ∨
    (∃ k, m ≤ k ∧ (∀ j, j < L.length → (listed.getD j true = true ↔ j < k)) ∧ wpList P L.toArray Q (L.drop k) a w))) ?_ ?_ ?_
  · refine ⟨fun j oj hj hl => ?_, .inl ⟨fun j _ hj => by simp [hj], ?_, hn, rfl, fun _ _ => rfl, fun j oj d hj hl _ => ?_⟩⟩
    · have hjl := (List.getElem?_eq_some_iff.1 hj).1
      simp [hjl] at hl
    · have hml' := Nat.le_of_ble_eq_true hml
      refine (congrArg (fun S => J S _ W.drew) (funext fun j => ?_)).mp (h0 _)
      by_cases hj : m ≤ j
      · rw [Nat.ble_eq_true_of_le hj]; rfl
      · have : j < L.length := by omega
        simp [this]
    · have hjl := (List.getElem?_eq_some_iff.1 (htake j oj hj).2).1
      simp [hjl] at hl
  · rintro listed a w i hs ⟨hcl, hinv⟩ hi
    obtain ⟨hiu, o, ho, hwait⟩ := mem_ready.1 hi
    have ho' : L[i]? = some o := by simpa using ho
    have hil := (List.getElem?_eq_some_iff.1 ho').1
    have hsl : listed.size = L.length := by simpa using hs
    have hcl2 : (∀ (j : Nat) (oj : Oper), L[j]? = some oj → (listed.setIfInBounds i true).getD j true = true → ∀ e ∈ oj.after, Region.binds .any e = true → (listed.setIfInBounds i true).getD e.on true = true) := fun j oj hoj hl e he hbd => by
      by_cases ei : i = e.on
      · rw [← ei, Array.getD_eq_getD_getElem?, Array.getElem?_setIfInBounds_self]; simp [hsl, hil]
      · rw [getD_set_ne true ei]
        by_cases ej : i = j
        · subst ej
          obtain rfl : o = oj := Option.some.inj (ho'.symm.trans hoj)
          have h1 := hwait e he hbd
          by_cases hlt : e.on < listed.size
          · simpa [hlt] using h1
          · rw [Array.getD_eq_getD_getElem?, Array.getElem?_eq_none (by omega)]; rfl
        · rw [getD_set_ne true ej] at hl
          exact hcl j oj hoj hl e he hbd
    by_cases him : i < m
    · rcases hinv with ⟨htl, hB, hz, hd, hbase, hYs⟩ | ⟨k, hmk, hlk, _⟩
      · have ht' := hintake i o him ho'
        have hh := hop_atM (L.take m) 0 hop i o ht'
        rw [Nat.zero_add] at hh
        have hslots : ∀ t ∈ o.looksAt L.toArray, SlotM (L.take m) E a0 a (fun j => Nat.ble m j || listed.getD j true) (fun j => a.eval (match ((L.take m)[j]?).bind (·.dst) with | some d => .tmp d | none => .const undef)) t := fun t ht => by
          unfold SlotM
          cases hj : depOf (L.take m) t with
          | none => exact hbase t fun j oj hoj _ => depOf_none hj j oj hoj
          | some j =>
            obtain ⟨oj, hoj, hdj⟩ := depOf_some hj
            obtain ⟨e, he, hb, hon⟩ := hread i o t j ht' ht hj
            have h1 := hwait e he hb
            rw [hon] at h1
            have hjl : j < listed.size := by rw [hsl]; exact (List.getElem?_eq_some_iff.1 (htake j oj hoj).2).1
            have hl1 : listed.getD j true = true := by simpa [hjl] using h1
            have hjm : j < m := (htake j oj hoj).1
            refine ⟨by simp only [hl1, Bool.or_true], ?_, ?_⟩
            · simp only [hoj, hdj, Option.bind_some]
            · simp only [hoj, hdj, Option.bind_some]
              exact hYs j oj t hoj hl1 hdj
        have hSi : (Nat.ble m i || listed.getD i true) = false := by
          rw [show Nat.ble m i = false by cases hb : Nat.ble m i with
            | false => rfl
            | true => exact absurd (Nat.le_of_ble_eq_true hb) (by omega)]
          rw [Bool.false_or]; simpa using hiu
        have hnd : ∀ j, needs L m j i = true → (Nat.ble m j || listed.getD j true) = false := fun j hj => by
          unfold needs at hj
          cases hoj : (L.take m)[j]? with
          | none => rw [hoj] at hj; cases hj
          | some oj =>
            rw [hoj] at hj
            simp only [Array.any_eq_true, Bool.and_eq_true, beq_iff_eq] at hj
            obtain ⟨x, hx, hb, he⟩ := hj
            have hjm := (htake j oj hoj).1
            rw [show Nat.ble m j = false by cases hb2 : Nat.ble m j with
              | false => rfl
              | true => exact absurd (Nat.le_of_ble_eq_true hb2) (by omega), Bool.false_or]
            cases hlj : listed.getD j true with
            | false => rfl
            | true =>
              have := hcl j oj (htake j oj hoj).2 hlj _ (Array.getElem_mem hx) hb
              rw [he] at this
              have h2 : listed.getD i true = false := by simpa using hiu
              rw [h2] at this; cases this
        have hh := hh a w _ _ hB hSi hnd hslots
        have hset : ∀ (v : Value) (w' : World), E i v → J (updB (fun j => Nat.ble m j || listed.getD j true) i) (updV (fun j => a.eval (match ((L.take m)[j]?).bind (·.dst) with | some d => .tmp d | none => .const undef)) i v) w' → ((∀ j, m ≤ j → j < L.length → (listed.setIfInBounds i true).getD j true = false) ∧ J (fun j => Nat.ble m j || (listed.setIfInBounds i true).getD j true) (fun j => (a.put o.dst v).eval (match ((L.take m)[j]?).bind (·.dst) with | some d => .tmp d | none => .const undef)) w' ∧ (a.put o.dst v).tmps.size = n ∧ (a.put o.dst v).defers = a0.defers ∧
            (∀ t : Tmp, (∀ (j : Nat) (oj : Oper), (L.take m)[j]? = some oj → (listed.setIfInBounds i true).getD j true = true → oj.dst ≠ some t) → (a.put o.dst v).eval (.tmp t) = a0.eval (.tmp t)) ∧
            (∀ (j : Nat) (oj : Oper) (d : Tmp), (L.take m)[j]? = some oj → (listed.setIfInBounds i true).getD j true = true → oj.dst = some d → E j ((a.put o.dst v).eval (.tmp d)))) := fun v w' hy hb => by
          refine ⟨fun j h1 h2 => by rw [getD_set_ne true (show i ≠ j by omega)]; exact htl j h1 h2, ?_, by rw [put_size]; exact hz, by rw [put_defers]; exact hd, fun t ht => ?_, fun j oj d hoj hl hdj => ?_⟩
          · have e1 : (fun j => Nat.ble m j || (listed.setIfInBounds i true).getD j true) = updB (fun j => Nat.ble m j || listed.getD j true) i := funext fun j => by
              rw [updB_at]
              by_cases e : i = j
              · subst e; rw [if_pos rfl, Array.getD_eq_getD_getElem?, Array.getElem?_setIfInBounds_self]; simp [hsl, hil]
              · rw [if_neg (fun e2 => e e2.symm), getD_set_ne true e]
            have e2 : (fun j => (a.put o.dst v).eval (match ((L.take m)[j]?).bind (·.dst) with | some d => .tmp d | none => .const undef)) = updV (fun j => a.eval (match ((L.take m)[j]?).bind (·.dst) with | some d => .tmp d | none => .const undef)) i v := funext fun j => by
              rw [updV_at]
              by_cases e : i = j
              · subst e; rw [if_pos rfl]
                cases hdd : o.dst with
                | some dd =>
                  simp only [ht', hdd, Option.bind_some]
                  exact eval_put_self (by rw [hz]; exact (hdst i o dd ht' hdd).1)
                | none =>
                  simp only [ht', hdd, Option.bind_some]
                  exact ((hds i o ht' hdd v).1 hy).symm
              · rw [if_neg (fun e2 => e e2.symm)]
                cases hoj : (L.take m)[j]? with
                | none => rfl
                | some oj =>
                  cases hdj : oj.dst with
                  | none => simp only [Option.bind_some, hdj]; rfl
                  | some dj =>
                    simp only [Option.bind_some, hdj]
                    exact eval_put_ne (hdis j i oj o dj hoj ht' e hdj)
            rw [e1, e2]; exact hb
          · rw [eval_put_ne (ht i o ht' (by rw [Array.getD_eq_getD_getElem?, Array.getElem?_setIfInBounds_self]; simp [hsl, hil]))]
            refine hbase t fun j oj hoj hl => ht j oj hoj ?_
            by_cases e : i = j
            · subst e; rw [hl] at hiu; cases hiu
            · rw [getD_set_ne true e]; exact hl
          · by_cases e : i = j
            · subst e
              obtain rfl : o = oj := Option.some.inj (ht'.symm.trans hoj)
              rw [hdj, eval_put_self (by rw [hz]; exact (hdst i o d ht' hdj).1)]
              exact hy
            · rw [eval_put_ne (hdis j i oj o d hoj ht' e hdj)]
              rw [getD_set_ne true e] at hl
              exact hYs j oj d hoj hl hdj
        unfold wpOp
        simp only [ho]
        by_cases hw : Region.wanted o (yielded L.toArray a.tmps) = true
        · rw [if_pos hw] at hh ⊢
          exact .inl (Oper.wp_mono (fun a' w' ⟨v, e, hy, hb⟩ => by rw [e]; exact ⟨hcl2, .inl (hset v w' hy hb)⟩) hh)
        · rw [if_neg hw] at hh ⊢
          exact ⟨hcl2, .inl (hset undef w hh.1 hh.2)⟩
      · have := (hlk i hil).2 (by omega)
        rw [this] at hiu; cases hiu
    · have hmi : m ≤ i := Nat.le_of_not_lt him
      have hahead := htail listed i hs hcl hi hmi
      have hk : (∀ j, j < L.length → (listed.getD j true = true ↔ j < i)) ∧ wpList P L.toArray Q (L.drop i) a w := by
        rcases hinv with ⟨htl, hrest⟩ | ⟨k, hmk, hlk, hwp⟩
        · obtain rfl : i = m := by
            refine Nat.le_antisymm (Nat.le_of_not_lt fun hlt => ?_) hmi
            have h1 := hahead m hlt
            rw [htl m (Nat.le_refl _) (by omega)] at h1; cases h1
          refine ⟨fun j hj => ⟨fun h => Nat.lt_of_not_le fun h2 => ?_, hahead j⟩, hI listed a w hrest hsl fun j h1 _ => hahead j h1⟩
          rw [htl j h2 hj] at h; cases h
        · obtain rfl : k = i := by
            refine Nat.le_antisymm (Nat.le_of_not_lt fun hlt => ?_) (Nat.le_of_not_lt fun hlt => ?_)
            · have := (hlk i hil).2 hlt
              rw [this] at hiu; cases hiu
            · have := (hlk k (by omega)).1 (hahead k hlt)
              omega
          exact ⟨hlk, hwp⟩
      obtain ⟨hlk, hwp⟩ := hk
      have hdr : L.drop i = L[i] :: L.drop (i + 1) := List.drop_eq_getElem_cons hil
      have hoe : L[i] = o := by rw [List.getElem?_eq_getElem hil] at ho'; exact Option.some.inj ho'
      rw [hoe] at hdr
      have hg := hT1 o (by
        have h6 : L.drop i = (L.drop m).drop (i - m) := by rw [List.drop_drop]; congr 1; omega
        have h7 : o ∈ L.drop i := by rw [hdr]; exact List.mem_cons_self
        rw [h6] at h7
        exact List.mem_of_mem_drop h7)
      have hset : ∀ j, j < L.length → ((listed.setIfInBounds i true).getD j true = true ↔ j < i + 1) := by
        intro j hj
        by_cases hji : j = i
        · subst hji; simp [hsl, hj]
        · rw [getD_set_ne true (fun e => hji e.symm), hlk j hj]; omega
      rw [hdr] at hwp
      unfold wpList at hwp
      unfold wpOp
      simp only [ho]
      have hw' : ∀ g, Region.wanted o g = true := fun g => by simp [Region.wanted, hg]
      simp only [hw', if_true] at hwp ⊢
      exact hwp.imp (Oper.wp_mono fun a' w' h' => ⟨hcl2, .inr ⟨i + 1, by omega, hset, h'⟩⟩) (fun h => h)
  · rintro listed a w hs ⟨hcl, hinv⟩ hr
    have hsl : listed.size = L.length := by simpa using hs
    have hlisted : ∀ j, j < L.length → listed.getD j true = true := fun j hj => by
      cases h : listed.getD j true with
      | true => rfl
      | false => exact absurd hr (ready_of_unlisted hE hs j (by simpa using hj) h)
    have hwp : ∃ k, L.length ≤ k ∧ wpList P L.toArray Q (L.drop k) a w := by
      rcases hinv with ⟨htl, hrest⟩ | ⟨k, hmk, hlk, hwp⟩
      · refine ⟨m, Nat.le_of_not_lt fun hlt => ?_, hI listed a w hrest hsl fun j _ hj => hlisted j hj⟩
        have h1 := htl m (Nat.le_refl _) hlt
        rw [hlisted m hlt] at h1; cases h1
      · refine ⟨k, Nat.le_of_not_lt fun hlt => ?_, hwp⟩
        exact absurd ((hlk k hlt).1 (hlisted k hlt)) (Nat.lt_irrefl _)
    obtain ⟨k, h1, h2⟩ := hwp
    rw [List.drop_eq_nil_of_le h1] at h2
    exact h2
theorem region_fxM_in {P : Program} {id : Nat} {Q : Exit → Act → World → Prop} {a0 : Act} {W : World} {L : List Oper} {l n' : Nat} (hQ : ¬ LetsOut Q) (hnd : noDefer L = true) {n : Nat} {V : List (Nat × Value)} (F : Fx n a0 V ds) (E : List (Value → Prop)) (J : (Nat → Bool) → (Nat → Value) → World → Prop) (m : Nat) (hm : P.follows .mixedOrders = true) (hok : relOkC L m n = true) (hml : Nat.ble m L.length = true) (hds : EDs E (L.take m) 0)
    (h0 : ∀ p, J (fun j => Nat.ble m j) p W.drew) (hop : HopAllM P L m Q (stE E) J a0 (L.take m) 0)
    (hend : ∀ (p : Nat → Value) (a : Act) (w : World), J (fun _ => true) p w → Fx n a (layV p (L.take m) 0 V) ds → EAll E p (L.take m) 0 → wpList P L.toArray Q (L.drop m) a w) : (Code.region id L.toArray true).wpIn (Fence.wide.inRound l) n' P Q a0 W :=
  wp_region_relM_in hQ hnd m n F.size hm hok hml (stE E) (fun j o ho hn => by have := hds.at j o ho hn; rwa [Nat.zero_add] at this) J h0 hop fun p w hj hE => hend p _ w hj (F.lay p (L.take m) 0 a0 V (relOkC_dst hok)) (eall_of _ 0 fun j o ho => by rw [Nat.zero_add]; exact hE j o ho)
theorem Fx.fresh {n : Nat} {a : Act} {V : List (Nat × Value)} (F : Fx n a V ds) (ds' : List Deferred) : Fx n { a with defers := ds' } V ds' := ⟨F.size, rfl, F.at_⟩
theorem range_fx2 {n : Nat} {P : Program} {g : Operand} {p1 p2 : Tmp} {assign body : Code} {Q : Exit → Act → World → Prop} {a : Act} {w : World} {V : List (Nat × Value)} (F : Fx n a V ds)
    {gf : Nat} {lb : Array Value} (hg : a.eval g = .func (.func gf) #[] lb) (eg : ∀ args w, (callFunc gf args).run P w = .ok (.enter gf args) w) (b1 : Nat.blt p1 n = true) (b2 : Nat.blt p2 n = true)
    {α : Type} (f1 f2 : α → Value) (Pre : α → World → Prop) (Post : α → World → Prop) (Fin : World → Prop)
    (hiter : ∀ (l D : Nat) (o1 o2 : Obj) (W1 : World), D = w.heap.size → l = w.heap.size + 1 → Below w.heap.size w W1 → RecAt l D o1 o2 W1 →
      (∀ x W, Pre x W → RecAt l D o1 o2 W → YieldAt Fence.wide 1 P l #[f1 x, f2 x] W fun e W' => e = .returned (.bool true) ∧ RecAt l D o1 o2 W' ∧ Post x W') →
      CallsIn Fence.wide 2 P gf (#[.func (.yield l) #[] #[]] ++ lb) W1 fun e W' => (∃ v, e = .returned v) ∧ RecAt l D o1 o2 W' ∧ Fin W')
    (hround : ∀ (l : Nat) (x : α) (W : World) (ra : Act), Fx n ra ((p2, f2 x) :: (p1, f1 x) :: V) [] → w.heap.size < l → l < W.heap.size → Pre x W →
      assign.wpIn (Fence.wide.inRound l) 1 P (Exit.then (MidOk2 Fence.wide 1 P l body W (Post x)) (fun _ _ _ => False)) ra W)
    (hdone : ∀ (l D : Nat) (o : Obj) (W : World) (a' : Act), D = w.heap.size → l = w.heap.size + 1 → Fin W → NotCells W l → (W.putObj l o).heap[D]? = some (.deferred (some [])) → Fx n a' V ({ target := .collected D, args := #[] } :: ds) →
      Q .normal a' (W.putObj l o)) :
    (Code.rangeFunc g #[p1, p2] assign body).wp P Q a w := by
  refine (wpIn_wide (n := 3)).1 (wpIn_range2 (n := 3) rfl (by omega) hg trivial eg (fun x => #[f1 x, f2 x]) (fun _ => rfl) Pre (fun x _ W' => Post x W') Fin ?_ ?_ ?_)
  · intro l x W h1 h2 h3
    have e : ({ tmps := (#[p1, p2].zip #[f1 x, f2 x]).foldl (fun t (p, v) => t.setIfInBounds p v) a.tmps, defers := [] } : Act) = (({ a with defers := [] } : Act).put (some p1) (f1 x)).put (some p2) (f2 x) := by simp [Act.put]
    show assign.wpIn _ _ _ _ ({ tmps := (#[p1, p2].zip #[f1 x, f2 x]).foldl (fun t (p, v) => t.setIfInBounds p v) a.tmps, defers := [] } : Act) W
    rw [e]
    exact hround l x W _ (((F.fresh []).put p1 (f1 x) b1).put p2 (f2 x) b2) h1 h2 h3
  · intro l D o1 o2 W1 hD hl hW hr hY
    refine hiter l D o1 o2 W1 hD hl ?_ hr hY
    rw [hW]
    exact ((Below.refl _ _).alloc (Nat.le_refl _) _).alloc (by simp) _
  · intro l D o W hD hl hf hlt hnc hdd
    have F' := F.fresh ({ target := .collected D, args := #[] } :: a.defers)
    rw [F.defers] at F'
    have := hdone l D o W _ hD hl hf hnc hdd F'
    rw [← F.defers] at this
    exact this
end Go.Proofs.Ytlbkogdmojlpmaa
namespace Go.Proofs.Ytlbkogdmojlpmaa
set_option linter.unusedVariables false
set_option maxRecDepth 20000
set_option linter.unusedSimpArgs false
open Go.ChangeShapes Go.WideShapes Go.ChangeAt Go.RowKit
theorem there_ex (m : MsgN) (V : MsgV) (w : World) : Calls Try.prog 44 #[.agg (msgA m V)] w fun e w' => ∃ v, e = .returned v ∧ ∃ g, v = .func (.func 75) #[] #[.pointer (some ⟨g, 0, none⟩)] ∧ w.heap.size ≤ g ∧ w'.heap[g]? = some (.cells (msgA m V) 29 (0, 0)) ∧ Below w.heap.size w w' :=
  (there_any m V w).mono fun e w' ⟨g, h1, h2, h3, h4⟩ => ⟨_, h1, g, rfl, h2, h3, h4⟩
theorem Mx.content {m : MsgN} {V : MsgV} {G : Option Nat} {w0 w w' : World} {R : List (Nat × Res)} (M : Mx G w0 w R) (hb : Below w.heap.size w w') (i : Nat) {l : List UInt8} {v : Value} (h : IsB w' l v) (hloc : ∀ g, bfp v g → w.heap.size ≤ g ∨ msgfp V g)
    {k5 k6 k7 k8 k9 : Nat} (h5 : look R k5 = some (bytR m.l5 V.v5)) (h6 : look R k6 = some (bytR m.l6 V.v6)) (h7 : look R k7 = some (bytR m.l7 V.v7)) (h8 : look R k8 = some (bytR m.l8 V.v8)) (h9 : look R k9 = some (bytR m.l9 V.v9)) : Mx G w0 w' ((i, bytR l v) :: R) := by
  refine (M.step hb).cons i _ h bytR_dep (fun g hg => h.lt hg) (fun e => by cases e) fun k s e _ hh g hg hs => ?_
  rcases hh with hh | hh
  · cases hh
  · have hk : ∀ (q : Nat) (x : Res), look R q = some x → x.wr = false → x.fp g → False := fun q x hq hx hf => M.dis k q s x e hq (fun e2 => by subst e2; rw [e] at hq; cases hq; rw [hh] at hx; cases hx) hh g hs hf
    rcases hloc g hg with h1 | h1 | h1 | h1 | h1 | h1
    · have := M.lt k s e g hs; omega
    · exact hk _ _ h5 rfl h1
    · exact hk _ _ h6 rfl h1
    · exact hk _ _ h7 rfl h1
    · exact hk _ _ h8 rfl h1
    · exact hk _ _ h9 rfl h1
theorem fields_slc (L : List Nat) (hL : ∀ x ∈ L, x < 64) (hm : L.length ≤ 1000) {n : Nat} (hn : L.length = n) {v : Value} {w : World} (h : ∃ g, v = .slice (some ⟨g, 0, none⟩) n n ∧ w.heap[g]? = some (.cells (L.map ivN).toArray 3 (0, 0))) :
    Calls Try.prog 49 #[v] w fun e w' => e = .returned (.int .u64 (orF L)) ∧ Below w.heap.size w w' := by
  obtain ⟨g, rfl, hg⟩ := h
  subst hn
  exact fields_any g L hL hm w hg
def hasN (m : MsgN) : Nat → Int
  | 0 => 0
  | k + 1 => if contN m k = [] then hasN m k else bits .or .u64 (hasN m k) (orF [k])
theorem hasN_one (m : MsgN) : hasN m 1 = 0 := rfl
theorem hasN_skip {m : MsgN} {k : Nat} (h : contN m k = []) : hasN m (k + 1) = hasN m k := if_pos h
theorem hasN_put {m : MsgN} {k : Nat} (h : contN m k ≠ []) : hasN m (k + 1) = bits .or .u64 (hasN m k) (orF [k]) := if_neg h
def hasB (m : MsgN) : Int := if m.k = 4 then bits .or .u64 (hasN m 12) (orF [7]) else hasN m 12
def wantN (k p : Int) : Int := match wantL k p with
  | some L => orF L
  | none => 0
def wantOk (k p : Int) : Bool := (wantL k p).isSome
theorem wanted2 (k p : Int) (w : World) : Calls Try.prog 50 #[.int .i64 k, .int .i64 p] w fun e w' => e = .returned (.tuple #[.int .u64 (wantN k p), .bool (wantOk k p)]) ∧ Below w.heap.size w w' := by
  refine (wanted_any k p w).mono fun e w' ⟨h1, h2⟩ => ⟨?_, h2⟩
  rw [h1]
  unfold wantV wantN wantOk
  cases wantL k p <;> rfl
noncomputable def rightB (m : MsgN) : Bool := wantOk m.k m.p && decide (hasB m = wantN m.k m.p) && fitsB m
set_option maxRecDepth 100000 in
set_option maxHeartbeats 4000000 in
theorem right_any (m : MsgN) (V : MsgV) (ho : MsgOk m) (hs : m.s.size ≤ 1000) (w : World) (hm : MsgIs w m V) :
    Calls Try.prog 19 #[.agg (msgA m V)] w fun e w' => e = .returned (.bool (rightB m)) ∧ Below w.heap.size w w' := by
  obtain ⟨bW, hW⟩ : ∃ b, wantOk m.k m.p = b := ⟨_, rfl⟩
  obtain ⟨bF, hF⟩ : ∃ b, fitsB m = b := ⟨_, rfl⟩
  refine calls_fxM (args := [.agg (msgA m V)]) 41 Try.func19 rfl rfl rfl ?_
  intro fa F
  have M := Mx.start w
  replace M := M.argB 0 hm.h5 (fun g e => by cases e)
  replace M := M.argB 1 hm.h6 (fun g e => by cases e)
  replace M := M.argB 2 hm.h7 (fun g e => by cases e)
  replace M := M.argB 3 hm.h8 (fun g e => by cases e)
  replace M := M.argB 4 hm.h9 (fun g e => by cases e)
  refine wp_seq_k fun K1 hK1 => wp_region_lit ?_
  refine wl_alloc (wanted_none rfl) rfl F rfl M 5 (t := 29) (c := msgA m V) (by unfold execOp; simp only [(F.get (t := 0) rfl)]; kernel_rfl) ?_
  intro g2 a2 w2 F2 M2
  clear F M
  refine rm rfl F2 fun a3 F3 => ?_
  refine hK1 _ _ (wp_seq_k fun K4 hK4 => ?_)
  refine wp_region_lit ?_
  refine wl_alloc (wanted_none rfl) rfl F3 rfl M2 6 (t := 78) (c := #[.int .u64 0]) (by unfold execOp; kernel_rfl) ?_
  intro g5 a5 w5 F5 M5
  clear F3 M2
  refine hK4 _ _ (wp_seq_k fun K6 hK6 => ?_)
  refine wp_seq_k fun K7 hK7 => wp_region_lit ?_
  refine rn rfl rfl F5 rfl (.agg (msgA m V)) (y_ldN _ _ rfl (F5.get rfl) (M5.blk (k := 5) rfl) (msgA m V) (y_all rfl) Try.underlying29 rfl (by kernel_rfl)) fun a8 F8 => ?_
  refine wl_call (wanted_none rfl) rfl F8 rfl rfl (enters_of Try.func44 (by kernel_rfl) rfl) #[.agg (msgA m V)] (args1 (F8.get rfl)) (there_ex m V w5) ?_
  rintro _ w9 a9 ⟨g9, rfl, hg9, hc9, b9⟩ F9
  have M9 := M5.newb b9 7 hg9 hc9
  clear M5 hg9 hc9 b9
  refine hK7 _ _ (wp_block ?_)
  have hwle10 := M9.le
  refine range_fx2 F9 (gf := 75) (lb := #[.pointer (some ⟨g9, 0, none⟩)]) (F9.get (t := 8) rfl) (enters_of Try.func75 (by kernel_rfl) rfl) rfl rfl (α := Nat × Value) (fun x => .int .i64 (x.1 : Int)) (fun x => x.2)
    (fun x W => (1 ≤ x.1 ∧ x.1 ≤ 11 ∧ contN m x.1 ≠ []) ∧ Mx none w W [(8, bytR (contN m x.1) x.2), (0, bytR m.l5 V.v5), (1, bytR m.l6 V.v6), (2, bytR m.l7 V.v7), (3, bytR m.l8 V.v8), (4, bytR m.l9 V.v9), (5, blkR g2 29 (msgA m V)), (6, blkR g5 78 (#[.int .u64 (hasN m x.1)])), (7, blkR g9 29 (msgA m V))]) (fun x W => Mx none w W [(0, bytR m.l5 V.v5), (1, bytR m.l6 V.v6), (2, bytR m.l7 V.v7), (3, bytR m.l8 V.v8), (4, bytR m.l9 V.v9), (5, blkR g2 29 (msgA m V)), (6, blkR g5 78 (#[.int .u64 (hasN m (x.1 + 1))])), (7, blkR g9 29 (msgA m V))]) (fun W => Mx none w W [(0, bytR m.l5 V.v5), (1, bytR m.l6 V.v6), (2, bytR m.l7 V.v7), (3, bytR m.l8 V.v8), (4, bytR m.l9 V.v9), (5, blkR g2 29 (msgA m V)), (6, blkR g5 78 (#[.int .u64 (hasN m 12)])), (7, blkR g9 29 (msgA m V))]) ?_ ?_ ?_
  · intro l D o1 o2 W1 hD hL bW hrec hY
    have M1 : Mx none w W1 [(0, bytR m.l5 V.v5), (1, bytR m.l6 V.v6), (2, bytR m.l7 V.v7), (3, bytR m.l8 V.v8), (4, bytR m.l9 V.v9), (5, blkR g2 29 (msgA m V)), (6, blkR g5 78 (#[.int .u64 (hasN m 1)])), (7, blkR g9 29 (msgA m V))] := (M9.step bW).sub ⟨rfl, rfl, rfl, rfl, rfl, rfl, (by rw [hasN_one]; rfl), rfl, trivial⟩
    refine there1_any m V ho (fun k W => Mx none w W [(0, bytR m.l5 V.v5), (1, bytR m.l6 V.v6), (2, bytR m.l7 V.v7), (3, bytR m.l8 V.v8), (4, bytR m.l9 V.v9), (5, blkR g2 29 (msgA m V)), (6, blkR g5 78 (#[.int .u64 (hasN m k)])), (7, blkR g9 29 (msgA m V))]) g9 l D o1 o2 ?_ ?_ ?_ W1 M1 hrec
    · rintro k W hM
      exact ⟨⟨hM.isb (k := 0) rfl, hM.isb (k := 1) rfl, hM.isb (k := 2) rfl, hM.isb (k := 3) rfl, hM.isb (k := 4) rfl⟩, hM.blk (k := 7) rfl⟩
    · rintro k W W' h1 h2 hn hM hb
      exact (hM.step hb).sub ⟨rfl, rfl, rfl, rfl, rfl, rfl, (by rw [hasN_skip hn]; rfl), rfl, trivial⟩
    rintro k v W W' h1 h2 hn hM hb hv hloc hre
    exact hY (k, v) W' ⟨⟨h1, h2, hn⟩, hM.content hb 8 hv hloc (k5 := 0) (k6 := 1) (k7 := 2) (k8 := 3) (k9 := 4) rfl rfl rfl rfl rfl⟩ hre
  · rintro l ⟨k, v⟩ W ra F10 hlo hlt ⟨⟨h1, h2, hn⟩, M10⟩
    replace F10 : Fx 41 ra _ := F10
    dsimp only at h1 h2 hn M10 F10 ⊢
    clear F9 M9
    replace M10 : Mx none w W [(8, bytR (contN m k) v), (0, bytR m.l5 V.v5), (1, bytR m.l6 V.v6), (2, bytR m.l7 V.v7), (3, bytR m.l8 V.v8), (4, bytR m.l9 V.v9), (5, blkR g2 29 (msgA m V)), (6, blkR g5 78 (#[.int .u64 (hasN m k)])), (7, blkR g9 29 (msgA m V))] := M10
    refine wpIn_lit' (fun ⟨_, _, h⟩ => h) rfl ?_
    refine rm rfl F10 fun a11 F11 => ?_
    refine ⟨KeepsOthers.refl _, fun o hnc hoc => ?_⟩
    have CM : CellsA _ _ := (show CellsA W [(8, bytR (contN m k) v), (0, bytR m.l5 V.v5), (1, bytR m.l6 V.v6), (2, bytR m.l7 V.v7), (3, bytR m.l8 V.v8), (4, bytR m.l9 V.v9), (5, blkR g2 29 (msgA m V)), (6, blkR g5 78 (#[.int .u64 (hasN m k)])), (7, blkR g9 29 (msgA m V))] from ⟨cells_bytR (M10.at_ 8 _ rfl), cells_bytR (M10.at_ 0 _ rfl), cells_bytR (M10.at_ 1 _ rfl), cells_bytR (M10.at_ 2 _ rfl), cells_bytR (M10.at_ 3 _ rfl), cells_bytR (M10.at_ 4 _ rfl), cells_blk (M10.at_ 5 _ rfl), cells_blk (M10.at_ 6 _ rfl), cells_blk (M10.at_ 7 _ rfl), trivial⟩)
    have M12 := M10.putObj CM (Nat.le_of_lt (Nat.lt_of_le_of_lt hwle10 hlo)) hnc o
    clear CM M10
    have hLo : (W.putObj l o).heap[l]? = some o := World.putObj_heap_same hlt
    obtain ⟨Wp, hWp⟩ : ∃ x, x = W.putObj l o := ⟨_, rfl⟩
    rw [← hWp] at M12 hLo ⊢
    have CM : CellsA _ _ := (show CellsA Wp [(8, bytR (contN m k) v), (0, bytR m.l5 V.v5), (1, bytR m.l6 V.v6), (2, bytR m.l7 V.v7), (3, bytR m.l8 V.v8), (4, bytR m.l9 V.v9), (5, blkR g2 29 (msgA m V)), (6, blkR g5 78 (#[.int .u64 (hasN m k)])), (7, blkR g9 29 (msgA m V))] from ⟨cells_bytR (M12.at_ 8 _ rfl), cells_bytR (M12.at_ 0 _ rfl), cells_bytR (M12.at_ 1 _ rfl), cells_bytR (M12.at_ 2 _ rfl), cells_bytR (M12.at_ 3 _ rfl), cells_bytR (M12.at_ 4 _ rfl), cells_blk (M12.at_ 5 _ rfl), cells_blk (M12.at_ 6 _ rfl), cells_blk (M12.at_ 7 _ rfl), trivial⟩)
    replace M12 := M12.oth CM 9
    clear CM
    refine wpIn_block ?_
    refine region_fxM_in (fun ⟨_, _, h⟩ => h) rfl F11 [fun vE => vE = .int .u64 (hasN m k), fun vE => vE = .int .i64 (k : Int), fun _ => True, fun vE => vE = .int .u64 (orF [k]), fun vE => vE = .int .u64 (bits .or .u64 (hasN m k) (orF [k]))] (JM none w fun SV pV => [(9, othR Wp), (8, bytR (contN m k) v), (0, bytR m.l5 V.v5), (1, bytR m.l6 V.v6), (2, bytR m.l7 V.v7), (3, bytR m.l8 V.v8), (4, bytR m.l9 V.v9), (5, blkR g2 29 (msgA m V)), (6, blkR g5 78 (#[.int .u64 (hasN m k)])), (7, blkR g9 29 (msgA m V)), (11, condR (SV 2) (slcR 3 1 #[.int .i64 (k : Int)] (pV 2)))]) 5 rfl (by kernel_rfl) rfl ⟨trivial, trivial, trivial, trivial, trivial, trivial⟩ (fun p => ((M12.step (step_drew _)).triv 11).sub ⟨rfl, rfl, rfl, rfl, rfl, rfl, rfl, rfl, rfl, rfl, rfl, trivial⟩) ⟨?_, ?_, ?_, ?_, ?_, trivial⟩ ?_
    · intro ua uw SV pV M0 hk hn hd
      have M : Mx none w uw _ := M0
      clear M0
      have e3 : ua.eval (.tmp 3) = .pointer (some ⟨g5, 0, none⟩) := (show ua.eval (.tmp 3) = _ from hd 3 (by decide)).trans (F11.get (t := 3) rfl)
      exact hopM_run (wanted_none rfl) (.int .u64 (hasN m k)) (y_ld1 _ _ rfl e3 (M.blk (k := 6) rfl) rfl Try.underlying78 rfl) rfl (M.sub ⟨rfl, rfl, rfl, rfl, rfl, rfl, rfl, rfl, rfl, rfl, rfl, trivial⟩)
    · intro ua uw SV pV M0 hk hn hd
      have M : Mx none w uw _ := M0
      clear M0
      have e4 : ua.eval (.tmp 4) = .int .i64 (k : Int) := (show ua.eval (.tmp 4) = _ from hd 4 (by decide)).trans (F11.get (t := 4) rfl)
      exact hopM_run (wanted_none rfl) (.int .i64 (k : Int)) (run_mv _ (.inl rfl) e4) rfl (M.sub ⟨rfl, rfl, rfl, rfl, rfl, rfl, rfl, rfl, rfl, rfl, rfl, trivial⟩)
    · intro ua uw SV pV M0 hk hn hd
      have M : Mx none w uw _ := M0
      clear M0
      obtain ⟨s1, f12, q12⟩ := (show SV 1 = true ∧ ua.eval (.tmp 12) = pV 1 ∧ stE _ 1 (pV 1) from hd 12 (by decide))
      have e12 : ua.eval (.tmp 12) = .int .i64 (k : Int) := f12.trans q12
      exact hopM_run (wanted_none rfl) _ (y_litI rfl #[.int .i64 (k : Int)] rfl (by simp) (by simp) (by simp only [List.map_toArray, List.map_cons, List.map_nil, e12]; kernel_rfl)) trivial ((M.allocS 11 3 1 #[.int .i64 (k : Int)]).sub ⟨rfl, rfl, rfl, rfl, rfl, rfl, rfl, rfl, rfl, rfl, rfl, trivial⟩)
    · intro ua uw SV pV M0 hk hn hd
      have M : Mx none w uw _ := M0
      clear M0
      obtain ⟨s2, f13, q13⟩ := (show SV 2 = true ∧ ua.eval (.tmp 13) = pV 2 ∧ stE _ 2 (pV 2) from hd 13 (by decide))
      have e13 : ua.eval (.tmp 13) = (pV 2) := f13
      exact hopM_call (wanted_none rfl) rfl #[(pV 2)] (args1 e13) (enters_of Try.func49 (by kernel_rfl) rfl) ((fields_slc [k] (fun x hx => by simp at hx; omega) (by simp) rfl (M.at_ 11 _ (condR_look s2 rfl))).mono fun e w2 h => ⟨_, h.1, rfl, (M.step h.2).sub ⟨rfl, rfl, rfl, rfl, rfl, rfl, rfl, rfl, rfl, rfl, rfl, trivial⟩⟩)
    · intro ua uw SV pV M0 hk hn hd
      have M : Mx none w uw _ := M0
      clear M0
      obtain ⟨s0, f11, q11⟩ := (show SV 0 = true ∧ ua.eval (.tmp 11) = pV 0 ∧ stE _ 0 (pV 0) from hd 11 (by decide))
      have e11 : ua.eval (.tmp 11) = .int .u64 (hasN m k) := f11.trans q11
      obtain ⟨s3, f14, q14⟩ := (show SV 3 = true ∧ ua.eval (.tmp 14) = pV 3 ∧ stE _ 3 (pV 3) from hd 14 (by decide))
      have e14 : ua.eval (.tmp 14) = .int .u64 (orF [k]) := f14.trans q14
      exact hopM_run (wanted_none rfl) (.int .u64 (bits .or .u64 (hasN m k) (orF [k]))) (y_orU _ _ _ _ rfl e11 e14 rfl) rfl (M.sub ⟨rfl, rfl, rfl, rfl, rfl, rfl, rfl, rfl, rfl, rfl, rfl, trivial⟩)
    intro p13 a13 w13 M13 G13 y13
    obtain ⟨-, -, -, -, q4, -⟩ := y13
    have r4 : p13 4 = .int .u64 (bits .or .u64 (hasN m k) (orF [k])) := q4
    replace M13 : Mx _ _ w13 [(9, othR Wp), (8, bytR (contN m k) v), (0, bytR m.l5 V.v5), (1, bytR m.l6 V.v6), (2, bytR m.l7 V.v7), (3, bytR m.l8 V.v8), (4, bytR m.l9 V.v9), (5, blkR g2 29 (msgA m V)), (6, blkR g5 78 (#[.int .u64 (hasN m k)])), (7, blkR g9 29 (msgA m V)), (11, condR true (slcR 3 1 #[.int .i64 (k : Int)] (p13 2)))] := M13
    simp only [List.take_succ_cons, List.take_zero, layV, Nat.zero_add, Nat.reduceAdd, r4] at G13
    simp only [List.drop_succ_cons, List.drop_zero]
    refine wl_st (wanted_none rfl) rfl G13 M13 (k := 6) rfl _ _ _ rfl (G13.get rfl) (G13.get rfl) (#[.int .u64 (bits .or .u64 (hasN m k) (orF [k]))]) (#[.int .u64 (bits .or .u64 (hasN m k) (orF [k]))]) rfl (Nat.le_of_ble_eq_true rfl) (one_int _ _) (y_put0 rfl) (by kernel_rfl) ?_
    intro w14 M14
    clear M13
    have KO := M14.keeps (i := 9) rfl
    have Me : Mx none w _ [(0, bytR m.l5 V.v5), (1, bytR m.l6 V.v6), (2, bytR m.l7 V.v7), (3, bytR m.l8 V.v8), (4, bytR m.l9 V.v9), (5, blkR g2 29 (msgA m V)), (6, blkR g5 78 (#[.int .u64 (hasN m (k + 1))])), (7, blkR g9 29 (msgA m V))] := M14.sub ⟨rfl, rfl, rfl, rfl, rfl, rfl, (by rw [hasN_put hn]; rfl), rfl, trivial⟩
    have CM : CellsA _ _ := (show CellsA w14 [(0, bytR m.l5 V.v5), (1, bytR m.l6 V.v6), (2, bytR m.l7 V.v7), (3, bytR m.l8 V.v8), (4, bytR m.l9 V.v9), (5, blkR g2 29 (msgA m V)), (6, blkR g5 78 (#[.int .u64 (hasN m (k + 1))])), (7, blkR g9 29 (msgA m V))] from ⟨cells_bytR (Me.at_ 0 _ rfl), cells_bytR (Me.at_ 1 _ rfl), cells_bytR (Me.at_ 2 _ rfl), cells_bytR (Me.at_ 3 _ rfl), cells_bytR (Me.at_ 4 _ rfl), cells_blk (Me.at_ 5 _ rfl), cells_blk (Me.at_ 6 _ rfl), cells_blk (Me.at_ 7 _ rfl), trivial⟩)
    exact ⟨KO, fun o2 => Me.putObj CM (Nat.le_of_lt (Nat.lt_of_le_of_lt hwle10 hlo)) (fun o3 h3 => by rw [KO.same l o hLo hoc] at h3; cases h3; exact hoc) o2⟩
  rintro l D o W a16 hD hL M16 hnc hdd F16
  have CM : CellsA W [(0, bytR m.l5 V.v5), (1, bytR m.l6 V.v6), (2, bytR m.l7 V.v7), (3, bytR m.l8 V.v8), (4, bytR m.l9 V.v9), (5, blkR g2 29 (msgA m V)), (6, blkR g5 78 (#[.int .u64 (hasN m 12)])), (7, blkR g9 29 (msgA m V))] := ⟨cells_bytR (M16.at_ 0 _ rfl), cells_bytR (M16.at_ 1 _ rfl), cells_bytR (M16.at_ 2 _ rfl), cells_bytR (M16.at_ 3 _ rfl), cells_bytR (M16.at_ 4 _ rfl), cells_blk (M16.at_ 5 _ rfl), cells_blk (M16.at_ 6 _ rfl), cells_blk (M16.at_ 7 _ rfl), trivial⟩
  replace M16 := M16.putObj CM (by omega) hnc o
  clear CM
  have CM : CellsA (W.putObj l o) [(0, bytR m.l5 V.v5), (1, bytR m.l6 V.v6), (2, bytR m.l7 V.v7), (3, bytR m.l8 V.v8), (4, bytR m.l9 V.v9), (5, blkR g2 29 (msgA m V)), (6, blkR g5 78 (#[.int .u64 (hasN m 12)])), (7, blkR g9 29 (msgA m V))] := ⟨cells_bytR (M16.at_ 0 _ rfl), cells_bytR (M16.at_ 1 _ rfl), cells_bytR (M16.at_ 2 _ rfl), cells_bytR (M16.at_ 3 _ rfl), cells_bytR (M16.at_ 4 _ rfl), cells_blk (M16.at_ 5 _ rfl), cells_blk (M16.at_ 6 _ rfl), cells_blk (M16.at_ 7 _ rfl), trivial⟩
  replace M16 := M16.obj CM 10 D _ hdd rfl
  clear CM
  have hDge : w.heap.size ≤ D := by omega
  clear hdd hnc hL hD
  obtain ⟨w16, hw16⟩ : ∃ x, x = W.putObj l o := ⟨_, rfl⟩
  rw [← hw16] at M16 ⊢
  clear hw16
  refine hK6 _ _ (wp_seq_k fun K17 hK17 => ?_)
  refine wp_seq_k fun K18 hK18 => wp_region_lit ?_
  refine rn rfl rfl F16 rfl (.pointer (some ⟨g2, 0, none⟩)) (y_fa (off := 0) rfl (F16.get rfl) (by kernel_rfl) rfl) fun a19 F19 => ?_
  refine rn rfl rfl F19 rfl (.int .i64 m.k) (y_ld1 _ _ rfl (F19.get rfl) (M16.blk (k := 5) rfl) rfl Try.underlying3 rfl) fun a20 F20 => ?_
  by_cases h21 : m.k = 4
  rotate_left
  · refine rn rfl rfl F20 rfl (.bool false) (y_eqI _ _ _ _ rfl (F20.get rfl) rfl Try.underlying3 (y_beqF h21)) fun a42 F42 => ?_
    refine hK18 _ _ (wp_cond_false (F42.get (t := 18) rfl) ?_)
    refine wp_skip ?_
    refine hK17 _ _ (wp_seq_k fun K43 hK43 => ?_)
    refine wp_region_lit ?_
    refine exS 4 [(1, .pointer (some ⟨g2, 0, none⟩)), (2, .bool false), (3, .pointer (some ⟨g5, 0, none⟩)), (25, .int .i64 m.k), (27, .int .i64 m.p)] [0, 0] (dcons (M16.blk (k := 5) rfl) dnil) [g2, g2] F42 (by kernel_rfl) fun a44 F44 => ?_
    simp only [List.drop_succ_cons, List.drop_zero]
    refine wl_call (wanted_none rfl) rfl F44 rfl rfl (enters_of Try.func50 (by kernel_rfl) rfl) #[.int .i64 m.k, .int .i64 m.p] (args2 (F44.get rfl) (F44.get rfl)) (call_ex ((hW ▸ wanted2 m.k m.p w16))) ?_
    rintro _ w45 a45 ⟨rfl, b45⟩ F45
    have M45 := M16.step b45
    refine exS 5 [(1, .pointer (some ⟨g2, 0, none⟩)), (2, .bool false), (3, .pointer (some ⟨g5, 0, none⟩)), (5, .int .u64 (wantN m.k m.p)), (6, .bool bW)] [] dnil [] F45 (by kernel_rfl) fun a46 F46 => ?_
    simp only [List.drop_succ_cons, List.drop_zero]
    refine hK43 _ _ (wp_seq_k fun K47 hK47 => ?_)
    refine wp_region_lit ?_
    refine rm rfl F46 fun a48 F48 => ?_
    refine rm rfl F48 fun a49 F49 => ?_
    cases bW
    · refine exS 9 [(2, .bool false)] [] dnil [] F49 (by kernel_rfl) fun a50 F50 => ?_
      simp only [List.drop_succ_cons, List.drop_zero]
      refine hK47 _ _ (wp_ret ?_)
      try simp only [Exit.then, Exit.inBlock, Exit.jump]
      have hDD := M45.anObj (i := 10) rfl
      have Mz := (M45.sub (R' := []) trivial).putObj trivial hDge (fun o3 h3 => by rw [hDD] at h3; cases h3; rfl) (.deferred none)
      exact bodyM_ret1 F50.defers hDD (res1 rfl (F50.get (t := 2) rfl)) ⟨by rw [show rightB m = false from by rw [rightB, hW, hF, show hasB m = _ from if_neg h21]; simp], Mz.below⟩
    refine wl_run (w' := w45) (wanted_yes rfl rfl rfl (F49.get rfl)) rfl F49 rfl (.int .u64 (hasN m 12)) (y_ld1 _ _ rfl (F49.get rfl) (M45.blk (k := 6) rfl) rfl Try.underlying78 rfl) fun a51 F51 => ?_
    refine rm rfl F51 fun a52 F52 => ?_
    by_cases h53 : (hasN m 12) = (wantN m.k m.p)
    rotate_left
    · refine wl_run (w' := w45) (wanted_yes rfl rfl rfl (F52.get rfl)) rfl F52 rfl (.bool false) (y_eqI _ _ _ _ rfl (F52.get rfl) (F52.get rfl) Try.underlying78 (y_beqF h53)) fun a58 F58 => ?_
      refine exS 6 [(2, .bool false)] [] dnil [] F58 (by kernel_rfl) fun a59 F59 => ?_
      simp only [List.drop_succ_cons, List.drop_zero]
      refine hK47 _ _ (wp_ret ?_)
      try simp only [Exit.then, Exit.inBlock, Exit.jump]
      have hDD := M45.anObj (i := 10) rfl
      have Mz := (M45.sub (R' := []) trivial).putObj trivial hDge (fun o3 h3 => by rw [hDD] at h3; cases h3; rfl) (.deferred none)
      exact bodyM_ret1 F59.defers hDD (res1 rfl (F59.get (t := 2) rfl)) ⟨by rw [show rightB m = false from by rw [rightB, hW, hF, show hasB m = _ from if_neg h21]; simp [h53]], Mz.below⟩
    refine wl_run (w' := w45) (wanted_yes rfl rfl rfl (F52.get rfl)) rfl F52 rfl (.bool true) (y_eqI _ _ _ _ rfl (F52.get rfl) (F52.get rfl) Try.underlying78 (y_beqT h53)) fun a54 F54 => ?_
    refine exS 3 [(2, .bool false), (37, .bool true), (38, .agg (msgA m V))] [0] (dcons (M45.blk (k := 5) rfl) dnil) [g2] F54 (by kernel_rfl) fun a55 F55 => ?_
    simp only [List.drop_succ_cons, List.drop_zero]
    refine wl_call (wanted_yes rfl rfl rfl (F55.get rfl)) rfl F55 rfl rfl (enters_of Try.func51 (by kernel_rfl) rfl) #[.agg (msgA m V)] (args1 (F55.get rfl)) (call_ex ((hF ▸ fits_any m V hs w45 ⟨M45.isb (k := 0) rfl, M45.isb (k := 1) rfl, M45.isb (k := 2) rfl, M45.isb (k := 3) rfl, M45.isb (k := 4) rfl⟩))) ?_
    rintro _ w56 a56 ⟨rfl, b56⟩ F56
    have M56 := M45.step b56
    refine exS 2 [(2, .bool bF)] [] dnil [] F56 (by kernel_rfl) fun a57 F57 => ?_
    simp only [List.drop_succ_cons, List.drop_zero]
    refine hK47 _ _ (wp_ret ?_)
    try simp only [Exit.then, Exit.inBlock, Exit.jump]
    have hDD := M56.anObj (i := 10) rfl
    have Mz := (M56.sub (R' := []) trivial).putObj trivial hDge (fun o3 h3 => by rw [hDD] at h3; cases h3; rfl) (.deferred none)
    exact bodyM_ret1 F57.defers hDD (res1 rfl (F57.get (t := 2) rfl)) ⟨by rw [show rightB m = bF from by rw [rightB, hW, hF, show hasB m = _ from if_neg h21]; simp [h53]], Mz.below⟩
  refine rn rfl rfl F20 rfl (.bool true) (y_eqI _ _ _ _ rfl (F20.get rfl) rfl Try.underlying3 (y_beqT h21)) fun a22 F22 => ?_
  refine hK18 _ _ (wp_cond_true (F22.get (t := 18) rfl) ?_)
  refine region_fxM F22 [fun vE => vE = .int .u64 (hasN m 12), fun _ => True, fun vE => vE = .int .u64 (orF [7]), fun vE => vE = .int .u64 (bits .or .u64 (hasN m 12) (orF [7]))] (JM none w fun SV pV => [(10, objR D (.deferred (some []))), (0, bytR m.l5 V.v5), (1, bytR m.l6 V.v6), (2, bytR m.l7 V.v7), (3, bytR m.l8 V.v8), (4, bytR m.l9 V.v9), (5, blkR g2 29 (msgA m V)), (6, blkR g5 78 (#[.int .u64 (hasN m 12)])), (7, blkR g9 29 (msgA m V)), (11, condR (SV 1) (slcR 3 1 #[.int .i64 7] (pV 1)))]) 4 rfl (by kernel_rfl) rfl ⟨trivial, trivial, trivial, trivial, trivial⟩ (fun p => ((M16.step (step_drew _)).triv 11).sub ⟨rfl, rfl, rfl, rfl, rfl, rfl, rfl, rfl, rfl, rfl, trivial⟩) ⟨?_, ?_, ?_, ?_, trivial⟩ ?_
  · intro ua uw SV pV M0 hk hn hd
    have M : Mx none w uw _ := M0
    clear M0
    have e3 : ua.eval (.tmp 3) = .pointer (some ⟨g5, 0, none⟩) := (show ua.eval (.tmp 3) = _ from hd 3 (by decide)).trans (F22.get (t := 3) rfl)
    exact hopM_run (wanted_none rfl) (.int .u64 (hasN m 12)) (y_ld1 _ _ rfl e3 (M.blk (k := 6) rfl) rfl Try.underlying78 rfl) rfl (M.sub ⟨rfl, rfl, rfl, rfl, rfl, rfl, rfl, rfl, rfl, rfl, trivial⟩)
  · intro ua uw SV pV M0 hk hn hd
    have M : Mx none w uw _ := M0
    clear M0
    exact hopM_run (wanted_none rfl) _ (y_litI rfl #[.int .i64 7] rfl (by simp) (by simp) (by simp only [List.map_toArray, List.map_cons, List.map_nil]; kernel_rfl)) trivial ((M.allocS 11 3 1 #[.int .i64 7]).sub ⟨rfl, rfl, rfl, rfl, rfl, rfl, rfl, rfl, rfl, rfl, trivial⟩)
  · intro ua uw SV pV M0 hk hn hd
    have M : Mx none w uw _ := M0
    clear M0
    obtain ⟨s1, f20, q20⟩ := (show SV 1 = true ∧ ua.eval (.tmp 20) = pV 1 ∧ stE _ 1 (pV 1) from hd 20 (by decide))
    have e20 : ua.eval (.tmp 20) = (pV 1) := f20
    exact hopM_call (wanted_none rfl) rfl #[(pV 1)] (args1 e20) (enters_of Try.func49 (by kernel_rfl) rfl) ((fields_slc [7] (fun x hx => by simp at hx; omega) (by simp) rfl (M.at_ 11 _ (condR_look s1 rfl))).mono fun e w2 h => ⟨_, h.1, rfl, (M.step h.2).sub ⟨rfl, rfl, rfl, rfl, rfl, rfl, rfl, rfl, rfl, rfl, trivial⟩⟩)
  · intro ua uw SV pV M0 hk hn hd
    have M : Mx none w uw _ := M0
    clear M0
    obtain ⟨s0, f19, q19⟩ := (show SV 0 = true ∧ ua.eval (.tmp 19) = pV 0 ∧ stE _ 0 (pV 0) from hd 19 (by decide))
    have e19 : ua.eval (.tmp 19) = .int .u64 (hasN m 12) := f19.trans q19
    obtain ⟨s2, f21, q21⟩ := (show SV 2 = true ∧ ua.eval (.tmp 21) = pV 2 ∧ stE _ 2 (pV 2) from hd 21 (by decide))
    have e21 : ua.eval (.tmp 21) = .int .u64 (orF [7]) := f21.trans q21
    exact hopM_run (wanted_none rfl) (.int .u64 (bits .or .u64 (hasN m 12) (orF [7]))) (y_orU _ _ _ _ rfl e19 e21 rfl) rfl (M.sub ⟨rfl, rfl, rfl, rfl, rfl, rfl, rfl, rfl, rfl, rfl, trivial⟩)
  intro p23 a23 w23 M23 G23 y23
  obtain ⟨-, -, -, q3, -⟩ := y23
  have r3 : p23 3 = .int .u64 (bits .or .u64 (hasN m 12) (orF [7])) := q3
  replace M23 : Mx _ _ w23 [(10, objR D (.deferred (some []))), (0, bytR m.l5 V.v5), (1, bytR m.l6 V.v6), (2, bytR m.l7 V.v7), (3, bytR m.l8 V.v8), (4, bytR m.l9 V.v9), (5, blkR g2 29 (msgA m V)), (6, blkR g5 78 (#[.int .u64 (hasN m 12)])), (7, blkR g9 29 (msgA m V)), (11, condR true (slcR 3 1 #[.int .i64 7] (p23 1)))] := M23
  simp only [List.take_succ_cons, List.take_zero, layV, Nat.zero_add, Nat.reduceAdd, r3] at G23
  simp only [List.drop_succ_cons, List.drop_zero]
  refine wl_st (wanted_none rfl) rfl G23 M23 (k := 6) rfl _ _ _ rfl (G23.get rfl) (G23.get rfl) (#[.int .u64 (bits .or .u64 (hasN m 12) (orF [7]))]) (#[.int .u64 (bits .or .u64 (hasN m 12) (orF [7]))]) rfl (Nat.le_of_ble_eq_true rfl) (one_int _ _) (y_put0 rfl) (by kernel_rfl) ?_
  intro w24 M24
  clear M23
  refine hK17 _ _ (wp_seq_k fun K25 hK25 => ?_)
  refine wp_region_lit ?_
  refine exS 4 [(1, .pointer (some ⟨g2, 0, none⟩)), (2, .bool false), (3, .pointer (some ⟨g5, 0, none⟩)), (25, .int .i64 m.k), (27, .int .i64 m.p)] [0, 0] (dcons (M24.blk (k := 5) rfl) dnil) [g2, g2] G23 (by kernel_rfl) fun a26 F26 => ?_
  simp only [List.drop_succ_cons, List.drop_zero]
  refine wl_call (wanted_none rfl) rfl F26 rfl rfl (enters_of Try.func50 (by kernel_rfl) rfl) #[.int .i64 m.k, .int .i64 m.p] (args2 (F26.get rfl) (F26.get rfl)) (call_ex ((hW ▸ wanted2 m.k m.p w24))) ?_
  rintro _ w27 a27 ⟨rfl, b27⟩ F27
  have M27 := M24.step b27
  refine exS 5 [(1, .pointer (some ⟨g2, 0, none⟩)), (2, .bool false), (3, .pointer (some ⟨g5, 0, none⟩)), (5, .int .u64 (wantN m.k m.p)), (6, .bool bW)] [] dnil [] F27 (by kernel_rfl) fun a28 F28 => ?_
  simp only [List.drop_succ_cons, List.drop_zero]
  refine hK25 _ _ (wp_seq_k fun K29 hK29 => ?_)
  refine wp_region_lit ?_
  refine rm rfl F28 fun a30 F30 => ?_
  refine rm rfl F30 fun a31 F31 => ?_
  cases bW
  · refine exS 9 [(2, .bool false)] [] dnil [] F31 (by kernel_rfl) fun a32 F32 => ?_
    simp only [List.drop_succ_cons, List.drop_zero]
    refine hK29 _ _ (wp_ret ?_)
    try simp only [Exit.then, Exit.inBlock, Exit.jump]
    have hDD := M27.anObj (i := 10) rfl
    have Mz := (M27.sub (R' := []) trivial).putObj trivial hDge (fun o3 h3 => by rw [hDD] at h3; cases h3; rfl) (.deferred none)
    exact bodyM_ret1 F32.defers hDD (res1 rfl (F32.get (t := 2) rfl)) ⟨by rw [show rightB m = false from by rw [rightB, hW, hF, show hasB m = _ from if_pos h21]; simp], Mz.below⟩
  refine wl_run (w' := w27) (wanted_yes rfl rfl rfl (F31.get rfl)) rfl F31 rfl (.int .u64 (bits .or .u64 (hasN m 12) (orF [7]))) (y_ld1 _ _ rfl (F31.get rfl) (M27.blk (k := 6) rfl) rfl Try.underlying78 rfl) fun a33 F33 => ?_
  refine rm rfl F33 fun a34 F34 => ?_
  by_cases h35 : (bits .or .u64 (hasN m 12) (orF [7])) = (wantN m.k m.p)
  rotate_left
  · refine wl_run (w' := w27) (wanted_yes rfl rfl rfl (F34.get rfl)) rfl F34 rfl (.bool false) (y_eqI _ _ _ _ rfl (F34.get rfl) (F34.get rfl) Try.underlying78 (y_beqF h35)) fun a40 F40 => ?_
    refine exS 6 [(2, .bool false)] [] dnil [] F40 (by kernel_rfl) fun a41 F41 => ?_
    simp only [List.drop_succ_cons, List.drop_zero]
    refine hK29 _ _ (wp_ret ?_)
    try simp only [Exit.then, Exit.inBlock, Exit.jump]
    have hDD := M27.anObj (i := 10) rfl
    have Mz := (M27.sub (R' := []) trivial).putObj trivial hDge (fun o3 h3 => by rw [hDD] at h3; cases h3; rfl) (.deferred none)
    exact bodyM_ret1 F41.defers hDD (res1 rfl (F41.get (t := 2) rfl)) ⟨by rw [show rightB m = false from by rw [rightB, hW, hF, show hasB m = _ from if_pos h21]; simp [h35]], Mz.below⟩
  refine wl_run (w' := w27) (wanted_yes rfl rfl rfl (F34.get rfl)) rfl F34 rfl (.bool true) (y_eqI _ _ _ _ rfl (F34.get rfl) (F34.get rfl) Try.underlying78 (y_beqT h35)) fun a36 F36 => ?_
  refine exS 3 [(2, .bool false), (37, .bool true), (38, .agg (msgA m V))] [0] (dcons (M27.blk (k := 5) rfl) dnil) [g2] F36 (by kernel_rfl) fun a37 F37 => ?_
  simp only [List.drop_succ_cons, List.drop_zero]
  refine wl_call (wanted_yes rfl rfl rfl (F37.get rfl)) rfl F37 rfl rfl (enters_of Try.func51 (by kernel_rfl) rfl) #[.agg (msgA m V)] (args1 (F37.get rfl)) (call_ex ((hF ▸ fits_any m V hs w27 ⟨M27.isb (k := 0) rfl, M27.isb (k := 1) rfl, M27.isb (k := 2) rfl, M27.isb (k := 3) rfl, M27.isb (k := 4) rfl⟩))) ?_
  rintro _ w38 a38 ⟨rfl, b38⟩ F38
  have M38 := M27.step b38
  refine exS 2 [(2, .bool bF)] [] dnil [] F38 (by kernel_rfl) fun a39 F39 => ?_
  simp only [List.drop_succ_cons, List.drop_zero]
  refine hK29 _ _ (wp_ret ?_)
  try simp only [Exit.then, Exit.inBlock, Exit.jump]
  have hDD := M38.anObj (i := 10) rfl
  have Mz := (M38.sub (R' := []) trivial).putObj trivial hDge (fun o3 h3 => by rw [hDD] at h3; cases h3; rfl) (.deferred none)
  exact bodyM_ret1 F39.defers hDD (res1 rfl (F39.get (t := 2) rfl)) ⟨by rw [show rightB m = bF from by rw [rightB, hW, hF, show hasB m = _ from if_pos h21]; simp [h35]], Mz.below⟩
end Go.Proofs.Ytlbkogdmojlpmaa
namespace Go.Proofs.Ytlbkogdmojlpmaa
set_option linter.unusedVariables false
set_option maxRecDepth 20000
set_option linter.unusedSimpArgs false
open Go.ChangeShapes Go.WideShapes Go.ChangeAt Go.RowKit
theorem Mx.theO {w : World} {l : List UInt8} {v : Value} (h : Byt w 0 v l) : Mx v.ownBlock w w [(0, ownR l v)] :=
  (show Mx v.ownBlock w w [] from ⟨World.grownBy.refl _ _, fun _ _ h => (by cases h), fun _ _ h => (by cases h), fun _ _ h => (by cases h), fun _ _ h => (by cases h), fun _ _ _ _ h => (by cases h)⟩).cons 0 _ h ownR_dep (fun g hg => (h.lt g hg).2) (fun _ g hg => .inr hg) fun k s e => by cases e
theorem Mx.growO {G : Option Nat} {w0 w w' : World} {R : List (Nat × Res)} (M : Mx G w0 w R) {k : Nat} {l l' : List UInt8} {v v' : Value} (hk : look R k = some (ownR l v)) (hb : w.grownBy w' v.ownBlock) (hv : Byt w' 0 v' l') (hlo : ∀ g, v'.ownBlock = some g → w.heap.size ≤ g ∨ v.ownBlock = some g) : Mx G w0 w' ((k, ownR l' v') :: R) :=
  M.write hk rfl hb (fun _ e => e) _ hv ownR_dep fun g hg => ⟨(hv.lt g hg).2, (hlo g hg).symm⟩
set_option maxRecDepth 100000 in
set_option maxHeartbeats 4000000 in
theorem counted_any (l c : List UInt8) (v u : Value) (hl : l.length + c.length ≤ 100000) (w : World) (hb : Byt w 0 v l) (hu : IsB w c u) (hd : ∀ g, v.ownBlock = some g → ¬ bfp u g) :
    Calls Try.prog 45 #[v, u] w fun e w' => ∃ v', e = .returned v' ∧ Byt w' 0 v' (l ++ [byteI (c.length : Int)] ++ c) ∧ (∀ g, v'.ownBlock = some g → w.heap.size ≤ g ∨ v.ownBlock = some g) ∧ w.grownBy w' v.ownBlock := by
  refine calls_fx (args := [v, u]) 14 Try.func45 rfl rfl rfl ?_
  intro fa F
  have M := Mx.theO hb
  replace M := M.argB 1 hu hd
  refine wp_seq_k fun K1 hK1 => wp_region_lit ?_
  refine rm rfl F fun a2 F2 => ?_
  refine hK1 _ _ (wp_seq_k fun K3 hK3 => ?_)
  refine wp_region_lit ?_
  refine rm rfl F2 fun a4 F4 => ?_
  refine rm rfl F4 fun a5 F5 => ?_
  refine rn rfl rfl F5 rfl (.int .i64 (c.length : Int)) (y_len _ rfl (F5.get rfl) (M.isb (k := 1) rfl) rfl) fun a6 F6 => ?_
  refine rn rfl rfl F6 rfl (.int .u8 (((byteI (c.length : Int)).toNat : Nat) : Int)) (y_cvI _ _ _ rfl (F6.get rfl) Try.underlying3 Try.underlying5 (byteI_wrap _)) fun a7 F7 => ?_
  refine wl_runM (wanted_none rfl) rfl F7 rfl (run_litO M 2 [(byteI (c.length : Int))] 1 rfl (by decide) (by decide) rfl (by simp only [List.map_toArray, List.map_cons, List.map_nil, (F7.get (t := 8) rfl)]; kernel_rfl)) ?_
  intro v8 a8 w8 F8 M8
  clear F7 M
  obtain ⟨A8, c8, rfl⟩ := (M8.isO (k := 2) rfl).shape
  refine wl_runM (wanted_none rfl) rfl F8 rfl (run_app M8 (k := 0) rfl _ _ rfl (F8.get rfl) (F8.get rfl) (M8.isO (k := 2) rfl) (by simp only [List.length_append, List.length_cons, List.length_nil]; omega)) ?_
  intro v9 a9 w9 F9 M9
  clear F8 M8
  obtain ⟨A9, c9, rfl⟩ := (M9.isO (k := 0) rfl).shape
  refine rm rfl F9 fun a10 F10 => ?_
  refine hK3 _ _ (wp_seq_k fun K11 hK11 => ?_)
  refine wp_region_lit ?_
  refine rm rfl F10 fun a12 F12 => ?_
  refine rm rfl F12 fun a13 F13 => ?_
  refine wl_runM (wanted_none rfl) rfl F13 rfl (run_app M9 (k := 0) rfl _ _ rfl (F13.get rfl) (F13.get rfl) (M9.isb (k := 1) rfl) (by simp only [List.length_append, List.length_cons, List.length_nil]; omega)) ?_
  intro v14 a14 w14 F14 M14
  clear F13 M9
  obtain ⟨A14, c14, rfl⟩ := (M14.isO (k := 0) rfl).shape
  refine rm rfl F14 fun a15 F15 => ?_
  refine hK11 _ _ (wp_ret ?_)
  try simp only [Exit.then, Exit.inBlock, Exit.jump]
  exact bodyPost_ret (res1 rfl (F15.get (t := 4) rfl)) F15.defers ⟨_, rfl, M14.at_ 0 _ rfl, M14.own 0 _ rfl rfl, M14.grown⟩
end Go.Proofs.Ytlbkogdmojlpmaa
namespace Go.Proofs.Ytlbkogdmojlpmaa
set_option linter.unusedVariables false
set_option maxRecDepth 20000
set_option linter.unusedSimpArgs false
open Go.ChangeShapes Go.WideShapes Go.ChangeAt Go.RowKit
end Go.Proofs.Ytlbkogdmojlpmaa
namespace Go.Proofs.Ytlbkogdmojlpmaa
set_option linter.unusedVariables false
set_option maxRecDepth 20000
set_option linter.unusedSimpArgs false
open Go.ChangeShapes Go.WideShapes Go.ChangeAt Go.RowKit
def bitI (a : Nat) (i : Nat) : Int := ((a / 2 ^ i % 2 : Nat) : Int)
theorem testBit_bit (a i : Nat) : a / 2 ^ i % 2 = (a.testBit i).toNat := by
  rw [Nat.testBit_eq_decide_div_mod_eq]
  rcases Nat.mod_two_eq_zero_or_one (a / 2 ^ i) with h | h <;> simp [h]
theorem bit_dig (a i : Nat) : bits BinOp.and IntKind.u32 (digI a (i / 32) / 2 ^ (i % 32)) 1 = bitI a i := by
  have hd : digI a (i / 32) / 2 ^ (i % 32) = ((dig a (i / 32) / 2 ^ (i % 32) : Nat) : Int) := by unfold digI; simp
  have hl : dig a (i / 32) / 2 ^ (i % 32) < 4294967296 := Nat.lt_of_le_of_lt (Nat.div_le_self _ _) (dig_lt _ _)
  have h := bits_mask .u32 32 (by decide) (fun n h0 h1 => by rw [IntKind.wrap_u32]; omega) 1 (by omega) ((dig a (i / 32) / 2 ^ (i % 32) : Nat) : Int) (Int.natCast_nonneg _) (by exact_mod_cast hl)
  rw [hd]
  have h' : bits BinOp.and IntKind.u32 ((dig a (i / 32) / 2 ^ (i % 32) : Nat) : Int) 1 = ((dig a (i / 32) / 2 ^ (i % 32) : Nat) : Int) % 2 := h
  rw [h', bitI]
  have e : dig a (i / 32) / 2 ^ (i % 32) % 2 = a / 2 ^ i % 2 := by
    rw [testBit_bit, testBit_bit, dig, show (4294967296 : Nat) = 2 ^ 32 from rfl, ← Nat.pow_mul, Nat.testBit_mod_two_pow, Nat.testBit_div_two_pow, show i % 32 + 32 * (i / 32) = i by omega]
    simp [Nat.mod_lt]
  rw [← e]; omega
set_option maxHeartbeats 1000000 in
theorem rbit_any (a : Nat) (i : Nat) (hi : i < 256) (w : World) :
    Calls Try.prog 74 #[numV a, .int .i64 i] w fun e w' => e = .returned (.int .u32 (bitI a i)) ∧ Below w.heap.size w w' := by
  have g0 := Num.new w 27 a
  have c0 := g0.cell (k := i / 32) (by omega)
  go_enter Try.func74, Try.ntmps74
  go_wp2
  go_ret
  exact ⟨by rw [← bit_dig]; rfl, (Below.refl _ _).alloc (Nat.le_refl _) _⟩
attribute [irreducible] bitI
end Go.Proofs.Ytlbkogdmojlpmaa
namespace Go.Proofs.Ytlbkogdmojlpmaa
set_option linter.unusedVariables false
set_option maxRecDepth 20000
set_option linter.unusedSimpArgs false
open Go.ChangeShapes Go.WideShapes Go.ChangeAt Go.RowKit
/-! The digits of a product's row. -/
/-! The number that stands in the row after k rounds. -/
theorem digI_high {n m k : Nat} (h : n < 4294967296 ^ m) (hk : m ≤ k) : digI n k = 0 := by unfold digI; rw [dig_of_lt h hk]; rfl
theorem digI_zeroN (j : Nat) : digI 0 j = 0 := digI_high (m := 0) (by omega) (by omega)
end Go.Proofs.Ytlbkogdmojlpmaa
namespace Go.Proofs.Ytlbkogdmojlpmaa
set_option linter.unusedVariables false
set_option maxRecDepth 20000
set_option linter.unusedSimpArgs false
open Go.ChangeShapes Go.WideShapes Go.ChangeAt Go.RowKit
end Go.Proofs.Ytlbkogdmojlpmaa
namespace Go.Proofs.Ytlbkogdmojlpmaa
set_option linter.unusedVariables false
set_option maxRecDepth 20000
set_option linter.unusedSimpArgs false
open Go.ChangeShapes Go.WideShapes Go.ChangeAt Go.RowKit
end Go.Proofs.Ytlbkogdmojlpmaa
namespace Go.Proofs.Ytlbkogdmojlpmaa
set_option linter.unusedVariables false
set_option maxRecDepth 20000
set_option linter.unusedSimpArgs false
open Go.ChangeShapes Go.WideShapes Go.ChangeAt Go.RowKit
end Go.Proofs.Ytlbkogdmojlpmaa
namespace Go.Proofs.Ytlbkogdmojlpmaa
set_option linter.unusedVariables false
set_option maxRecDepth 20000
set_option linter.unusedSimpArgs false
open Go.ChangeShapes Go.WideShapes Go.ChangeAt Go.RowKit
end Go.Proofs.Ytlbkogdmojlpmaa
namespace Go.Proofs.Ytlbkogdmojlpmaa
set_option linter.unusedVariables false
set_option maxRecDepth 20000
set_option linter.unusedSimpArgs false
open Go.ChangeShapes Go.WideShapes Go.ChangeAt Go.RowKit
end Go.Proofs.Ytlbkogdmojlpmaa
namespace Go.Proofs.Ytlbkogdmojlpmaa
set_option linter.unusedVariables false
set_option maxRecDepth 20000
set_option linter.unusedSimpArgs false
open Go.ChangeShapes Go.WideShapes Go.ChangeAt Go.RowKit
theorem top_ind {m : Nat} (h0 : 0 < m) : ∀ i, m < 4294967296 ^ i → ∃ n, 1 ≤ n ∧ n ≤ i ∧ dig m (n - 1) ≠ 0 ∧ topI m i = 32 * ((n - 1 : Nat) : Int) + Lib.bitLen (dig m (n - 1)) ∧ m < 4294967296 ^ n
  | 0, h => by simp at h; omega
  | i + 1, h => by
    by_cases hz : digI m i = 0
    · have hd : m / 4294967296 ^ i < 4294967296 := by rw [Nat.div_lt_iff_lt_mul (pow_pos' i), Nat.mul_comm, ← Nat.pow_succ]; exact h
      have hz' : dig m i = 0 := by unfold digI at hz; omega
      have e : dig m i = m / 4294967296 ^ i := by unfold dig; rw [Nat.mod_eq_of_lt hd]
      have hlt : m < 4294967296 ^ i := by
        rw [e] at hz'
        rcases Nat.div_eq_zero_iff.1 hz' with h2 | h2
        · have := pow_pos' i; omega
        · exact h2
      obtain ⟨n, h1, h2, h3, h4, h5⟩ := top_ind h0 i hlt
      exact ⟨n, h1, by omega, h3, by rw [topI_zero hz]; exact h4, h5⟩
    · refine ⟨i + 1, by omega, Nat.le_refl _, ?_, ?_, h⟩
      · rw [Nat.add_sub_cancel]; intro e; exact hz (by unfold digI; rw [e]; rfl)
      · rw [topI_here hz, Nat.add_sub_cancel]
        have e : (digI m i).toNat = dig m i := by unfold digI; omega
        rw [e]
/-! The rounds. -/
theorem topI_none : ∀ i, topI 0 i = 0
  | 0 => by simp [topI]
  | i + 1 => by rw [topI_zero (digI_zeroN i)]; exact topI_none i
end Go.Proofs.Ytlbkogdmojlpmaa
namespace Go.Proofs.Ytlbkogdmojlpmaa
set_option linter.unusedVariables false
set_option maxRecDepth 20000
set_option linter.unusedSimpArgs false
open Go.ChangeShapes Go.WideShapes Go.ChangeAt Go.RowKit
theorem pow32 (j : Nat) : 4294967296 ^ j = 2 ^ (32 * j) := by rw [Nat.pow_mul]
theorem top_one {a k : Nat} (ha : a < 4294967296 ^ 8) (h : a / 2 ^ k = 1) : topI a 8 = (k : Int) + 1 := by
  have h0 : 0 < a := by
    refine Nat.pos_of_ne_zero fun e => ?_
    rw [e, Nat.zero_div] at h
    cases h
  obtain ⟨n, h1, h2, h3, h4, h5⟩ := top_ind h0 8 ha
  obtain ⟨j, rfl⟩ : ∃ j, n = j + 1 := ⟨n - 1, by omega⟩
  rw [Nat.add_sub_cancel] at *
  have hd := dig_lt a j
  obtain ⟨b1, b2, b3⟩ := Lib.bitLenAux_bounds 64 (dig a j) (by omega) h3
  change 1 ≤ Lib.bitLen (dig a j) at b1
  change 2 ^ (Lib.bitLen (dig a j) - 1) ≤ dig a j at b2
  change dig a j < 2 ^ Lib.bitLen (dig a j) at b3
  have hk := pow_pos' j
  have hq : a / 4294967296 ^ j < 4294967296 := by rw [Nat.div_lt_iff_lt_mul hk, Nat.mul_comm, ← Nat.pow_succ]; exact h5
  have e2 : dig a j = a / 4294967296 ^ j := by unfold dig; rw [Nat.mod_eq_of_lt hq]
  have lo : 2 ^ (32 * j + (Lib.bitLen (dig a j) - 1)) ≤ a := by
    rw [Nat.pow_add, ← pow32, Nat.mul_comm]
    rw [e2] at b2 ⊢
    exact Nat.le_trans (Nat.mul_le_mul_right _ b2) (Nat.div_mul_le_self _ _)
  have hi : a < 2 ^ (32 * j + Lib.bitLen (dig a j)) := by
    rw [Nat.pow_add, ← pow32, Nat.mul_comm]
    rw [e2] at b3 ⊢
    exact (Nat.div_lt_iff_lt_mul hk).1 b3
  have lo' : 2 ^ k ≤ a := by
    refine Nat.le_of_not_lt fun hl => ?_
    rw [Nat.div_eq_of_lt hl] at h
    cases h
  have hi' : a < 2 ^ (k + 1) := by
    rw [Nat.pow_succ, Nat.mul_comm]
    exact (Nat.div_lt_iff_lt_mul (Nat.pow_pos (by decide))).1 (by omega)
  have p1 : k < 32 * j + Lib.bitLen (dig a j) := (Nat.pow_lt_pow_iff_right (by decide : 1 < 2)).1 (Nat.lt_of_le_of_lt lo' hi)
  have p2 : 32 * j + (Lib.bitLen (dig a j) - 1) < k + 1 := (Nat.pow_lt_pow_iff_right (by decide : 1 < 2)).1 (Nat.lt_of_le_of_lt lo hi')
  rw [h4]; omega
theorem bit_up {a k : Nat} (h : a / 2 ^ (k + 1) = 0) : (bitI a k = 1 ∧ a / 2 ^ k = 1) ∨ (bitI a k = 0 ∧ a / 2 ^ k = 0) := by
  rw [Nat.pow_succ, ← Nat.div_div_eq_div_mul] at h
  unfold bitI
  generalize a / 2 ^ k = q at *
  have : q = 0 ∨ q = 1 := by omega
  rcases this with rfl | rfl
  · right; simp
  · left; simp
set_option maxHeartbeats 1000000 in
theorem rbits_any (a : Nat) (ha : a < 4294967296 ^ 8) (w : World) :
    Calls Try.prog 41 #[numV a] w fun e w' => e = .returned (.int .i64 (topI a 8)) ∧ Below w.heap.size w w' := by
  have TOP := hid (fun k => @top_one a k ha)
  have ST : Hid (a / 2 ^ 256 = 0) := hid (Nat.div_eq_of_lt (by rw [show (2 : Nat) ^ 256 = 4294967296 ^ 8 by decide +kernel]; exact ha))
  clear ha
  have g0 := Num.new w 27 a
  have gb := step_alloc w (.cells (numA a) 27)
  go_enter Try.func41, Try.ntmps41
  go_wp2
  generalize World.alloc _ _ = W at *
  go_loopw [3] (fun i wr => ∃ q : Int, -1 ≤ q ∧ q ≤ 255 ∧ i = .int .i64 q ∧ Hid (a / 2 ^ (q + 1).toNat = 0) ∧ Below (w.heap.size + 1) W wr) (fun i _ => (intOf i + 1).toNat)
  case atStart => exact ⟨255, by omega, by omega, rfl, ST, Below.refl _ _⟩
  case round =>
    obtain ⟨q, hq1, hq2, rfl, ht, hB⟩ := hrel
    have n0 := g0.below hB (by omega)
    have hlt := g0.lt
    by_cases hq : 0 ≤ q
    · obtain ⟨k, rfl⟩ := Int.eq_ofNat_of_zero_le hq
      have hk := rbit_any a k (by omega)
      rcases bit_up (show a / 2 ^ (k + 1) = 0 from ht.out) with ⟨e1, e2⟩ | ⟨e1, e2⟩
      · have E := hid e2
        rw [e1] at hk
        clear e1 e2 ht
        go_wp2_with (refine wpList_load_num rfl _ _ rfl _ rfl _ _ _ n0 Try.underlying27 rfl size26 ?_)
        refine (hk _).mono ?_
        rintro e w1 ⟨rfl, b1⟩
        clear hk
        go_wp2
        go_ret
        exact ⟨by rw [TOP.out k E.out]; rfl, gb.trans ((hB.trans (b1.mono (by have := hB.size; omega))).mono (by omega))⟩
      · have E := hid e2
        rw [e1] at hk
        clear e1 e2 ht
        go_wp2_with (refine wpList_load_num rfl _ _ rfl _ rfl _ _ _ n0 Try.underlying27 rfl size26 ?_)
        refine (hk _).mono ?_
        rintro e w1 ⟨rfl, b1⟩
        clear hk
        go_wp2
        go_roundw
        case rel => exact ⟨(k : Int) - 1, by omega, by omega, by go_num, by rw [show ((k : Int) - 1 + 1).toNat = k by omega]; exact E, hB.trans (b1.mono (by have := hB.size; omega))⟩
        case measure => simp [intOf] <;> omega
    · have hq' : q = -1 := by omega
      subst hq'
      have e : a = 0 := by have := ht.out; simpa using this
      have E := hid (show topI a 8 = 0 by rw [e]; exact topI_none 8)
      clear e
      go_wp2
      go_ret
      exact ⟨by rw [E.out]; rfl, gb.trans (hB.mono (by omega))⟩
end Go.Proofs.Ytlbkogdmojlpmaa
namespace Go.Proofs.Ytlbkogdmojlpmaa
set_option linter.unusedVariables false
set_option maxRecDepth 20000
set_option linter.unusedSimpArgs false
open Go.ChangeShapes Go.WideShapes Go.ChangeAt Go.RowKit
def encN (m : MsgN) : Nat → List UInt8
  | 0 => [0, 0, byteI m.k]
  | k + 1 => if contN m k = [] then encN m k else encN m k ++ [byteI (k : Int)] ++ [byteI ((contN m k).length : Int)] ++ contN m k
theorem encN_one (m : MsgN) : encN m 1 = [0, 0, byteI m.k] := rfl
theorem encN_skip {m : MsgN} {k : Nat} (h : contN m k = []) : encN m (k + 1) = encN m k := if_pos h
theorem encN_put {m : MsgN} {k : Nat} (h : contN m k ≠ []) : encN m (k + 1) = encN m k ++ [byteI (k : Int)] ++ [byteI ((contN m k).length : Int)] ++ contN m k := if_neg h
theorem encN_len {m : MsgN} (hc : ∀ k, (contN m k).length ≤ 120) : ∀ k, (encN m k).length ≤ 3 + 122 * k
  | 0 => by simp [encN]
  | k + 1 => by
    have h1 := encN_len hc k
    have h2 := hc k
    unfold encN
    split
    · omega
    · simp only [List.length_append, List.length_cons, List.length_nil]; omega
theorem encN_len3 (m : MsgN) : ∀ k, 3 ≤ (encN m k).length
  | 0 => by simp [encN]
  | k + 1 => by
    have h1 := encN_len3 m k
    unfold encN
    split
    · omega
    · simp only [List.length_append, List.length_cons, List.length_nil]; omega
theorem top_le {a : Nat} (ha : a < 4294967296 ^ 8) (h : topI a 8 ≤ 32) : a < 4294967296 := by
  by_cases h0 : a = 0
  · omega
  · have h1 := Nat.log2_self_le h0
    have h2 : a < 2 ^ (Nat.log2 a + 1) := Nat.lt_log2_self
    have h3 : a / 2 ^ (Nat.log2 a) = 1 := by
      apply Nat.div_eq_of_lt_le
      · omega
      · rw [Nat.pow_succ] at h2; omega
    rw [top_one ha h3] at h
    have h4 : Nat.log2 a + 1 ≤ 32 := by omega
    exact Nat.lt_of_lt_of_le h2 (Nat.pow_le_pow_right (by omega) h4)
theorem cont_len {m : MsgN} (h : fitsB m = true) (k : Nat) : (contN m k).length ≤ 120 := by
  unfold fitsB at h
  simp only [Bool.and_eq_true, Bool.or_eq_true, decide_eq_true_eq] at h
  obtain ⟨⟨⟨⟨⟨⟨⟨⟨⟨⟨⟨h1, h2⟩, h3⟩, h4⟩, h5⟩, h6⟩, h7⟩, h8⟩, h9⟩, h10⟩, h11⟩, h12⟩ := h
  have hs : m.s.size ≤ 16 := by
    rcases h2 with h2 | h2
    · unfold nilB at h2
      have := of_decide_eq_true h2
      have e : m.s.toList.length = m.s.size := by rw [ByteArray.toList_eq]; simp
      rw [this] at e
      have : (({ data := #[] } : ByteArray).toList).length = 0 := by simp
      omega
    · unfold nameB at h2
      exact (@of_decide_eq_true _ (Classical.propDecidable _) h2).2.1
  have ho : ∀ p, (octL p).length ≤ 120 := fun p => by unfold octL; split <;> simp
  have hf : ∀ a, (fourO a).length ≤ 120 := fun a => by
    unfold fourO
    split
    · simp
    · unfold fourL; simp [bytesN_length]
  unfold contN
  split <;> first | exact ho _ | exact hf _ | omega | skip
  · simp [sBy]; omega
  · unfold eightO; split
    · simp
    · rw [eightI_len]; omega
  · simp
def encF (m : MsgN) : List UInt8 := ((encN m 12).set 0 0).set 1 (byteI (((encN m 12).length : Int) - 2))
noncomputable def encOk (m : MsgN) : Bool := rightB m && decide (((encN m 12).length : Int) - 2 ≤ 200)
noncomputable def encL (m : MsgN) : List UInt8 := if encOk m = true then encF m else []
set_option maxRecDepth 100000 in
set_option maxHeartbeats 4000000 in
theorem encode_any (m : MsgN) (V : MsgV) (ho : MsgOk m) (hs : m.s.size ≤ 1000) (w : World) (hm : MsgIs w m V) :
    Calls Try.prog 17 #[.agg (msgA m V)] w fun e w' => ∃ v, e = .returned (.tuple #[v, .bool (encOk m)]) ∧ Byt w' w.heap.size v (encL m) ∧ Below w.heap.size w w' := by
  obtain ⟨bR, hR⟩ : ∃ b, rightB m = b := ⟨_, rfl⟩
  obtain ⟨N, hN⟩ : ∃ N, (encN m 12).length = N := ⟨_, rfl⟩
  have hN3 : 3 ≤ N := hN ▸ encN_len3 m 12
  have hcl : bR = true → ∀ k, (contN m k).length ≤ 120 := fun h => cont_len (by rw [h] at hR; unfold rightB at hR; simp only [Bool.and_eq_true] at hR; exact hR.2)
  refine calls_fxM (args := [.agg (msgA m V)]) 42 Try.func17 rfl rfl rfl ?_
  intro fa F
  have M := Mx.start w
  replace M := M.argB 0 hm.h5 (fun g e => by cases e)
  replace M := M.argB 1 hm.h6 (fun g e => by cases e)
  replace M := M.argB 2 hm.h7 (fun g e => by cases e)
  replace M := M.argB 3 hm.h8 (fun g e => by cases e)
  replace M := M.argB 4 hm.h9 (fun g e => by cases e)
  refine wp_seq_k fun K1 hK1 => wp_region_lit ?_
  refine wl_alloc (wanted_none rfl) rfl F rfl M 5 (t := 29) (c := msgA m V) (by unfold execOp; simp only [(F.get (t := 0) rfl)]; kernel_rfl) ?_
  intro g2 a2 w2 F2 M2
  clear F M
  refine rm rfl F2 fun a3 F3 => ?_
  refine rm rfl F3 fun a4 F4 => ?_
  refine hK1 _ _ (wp_seq_k fun K5 hK5 => ?_)
  refine wp_seq_k fun K6 hK6 => wp_region_lit ?_
  refine rn rfl rfl F4 rfl (.agg (msgA m V)) (y_ldN _ _ rfl (F4.get rfl) (M2.blk (k := 5) rfl) (msgA m V) (y_all rfl) Try.underlying29 rfl (by kernel_rfl)) fun a7 F7 => ?_
  refine wl_call (wanted_none rfl) rfl F7 rfl rfl (enters_of Try.func19 (by kernel_rfl) rfl) #[.agg (msgA m V)] (args1 (F7.get rfl)) (call_ex ((hR ▸ right_any m V ho hs w2 ⟨M2.isb (k := 0) rfl, M2.isb (k := 1) rfl, M2.isb (k := 2) rfl, M2.isb (k := 3) rfl, M2.isb (k := 4) rfl⟩))) ?_
  rintro _ w8 a8 ⟨rfl, b8⟩ F8
  have M8 := M2.step b8
  cases bR
  · refine rn rfl rfl F8 rfl (.bool true) (run_not _ _ rfl (F8.get (t := 9) rfl)) fun a9 F9 => ?_
    refine hK6 _ _ (wp_cond_true (F9.get (t := 10) rfl) ?_)
    refine wp_seq_k fun K10 hK10 => wp_region_lit ?_
    refine rm rfl F9 fun a11 F11 => ?_
    refine rm rfl F11 fun a12 F12 => ?_
    refine hK10 _ _ (wp_ret ?_)
    try simp only [Exit.then, Exit.inBlock, Exit.jump]
    exact bodyM_ret0 (res2 rfl (F12.get (t := 2) rfl) (F12.get (t := 3) rfl)) F12.defers ⟨.slice none 0 0, (by rw [show encOk m = false from by rw [encOk, hR]; simp]), (by rw [show encL m = _ from if_neg (by rw [encOk, hR]; simp)]; exact Byt.nil _ _), M8.below⟩
  refine rn rfl rfl F8 rfl (.bool false) (run_not _ _ rfl (F8.get (t := 9) rfl)) fun a13 F13 => ?_
  refine hK6 _ _ (wp_cond_false (F13.get (t := 10) rfl) ?_)
  refine wp_skip ?_
  refine hK5 _ _ (wp_seq_k fun K14 hK14 => ?_)
  refine wp_region_lit ?_
  refine exS 2 [(1, .pointer (some ⟨g2, 0, none⟩)), (2, .slice none 0 0), (3, .bool false), (12, .int .i64 m.k)] [0] (dcons (M8.blk (k := 5) rfl) dnil) [g2] F13 (by kernel_rfl) fun a15 F15 => ?_
  simp only [List.drop_succ_cons, List.drop_zero]
  refine rn rfl rfl F15 rfl (.int .u8 (((byteI m.k).toNat : Nat) : Int)) (y_cvI _ _ _ rfl (F15.get rfl) Try.underlying3 Try.underlying5 (byteI_wrap _)) fun a16 F16 => ?_
  refine wl_runM (wanted_none rfl) rfl F16 rfl (run_litO M8 6 [0, 0, (byteI m.k)] 3 rfl (by decide) (by decide) rfl (by simp only [List.map_toArray, List.map_cons, List.map_nil, (F16.get (t := 13) rfl)]; kernel_rfl)) ?_
  intro v17 a17 w17 F17 M17
  clear F16 M8
  obtain ⟨A17, c17, rfl⟩ := (M17.isO (k := 6) rfl).shape
  refine wl_alloc (wanted_none rfl) rfl F17 rfl M17 7 (t := 22) (c := #[.slice none 0 0]) (by unfold execOp; kernel_rfl) ?_
  intro g18 a18 w18 F18 M18
  clear F17 M17
  refine wl_st (wanted_none rfl) rfl F18 M18 (k := 7) rfl _ _ _ rfl (F18.get rfl) (F18.get rfl) (#[.slice A17 ([0, 0, (byteI m.k)]).length c17]) (#[.slice A17 ([0, 0, (byteI m.k)]).length c17]) rfl (Nat.le_of_ble_eq_true rfl) (one_slc rfl) (y_put0 rfl) (by kernel_rfl) ?_
  intro w19 M19
  clear M18
  refine hK14 _ _ (wp_seq_k fun K20 hK20 => ?_)
  refine wp_seq_k fun K21 hK21 => wp_region_lit ?_
  refine rn rfl rfl F18 rfl (.agg (msgA m V)) (y_ldN _ _ rfl (F18.get rfl) (M19.blk (k := 5) rfl) (msgA m V) (y_all rfl) Try.underlying29 rfl (by kernel_rfl)) fun a22 F22 => ?_
  refine wl_call (wanted_none rfl) rfl F22 rfl rfl (enters_of Try.func44 (by kernel_rfl) rfl) #[.agg (msgA m V)] (args1 (F22.get rfl)) (there_ex m V w19) ?_
  rintro _ w23 a23 ⟨g23, rfl, hg23, hc23, b23⟩ F23
  have M23 := M19.newb b23 8 hg23 hc23
  clear M19 hg23 hc23 b23
  refine hK21 _ _ (wp_block ?_)
  have hwle24 := M23.le
  refine range_fx2 F23 (gf := 75) (lb := #[.pointer (some ⟨g23, 0, none⟩)]) (F23.get (t := 16) rfl) (enters_of Try.func75 (by kernel_rfl) rfl) rfl rfl (α := Nat × Value) (fun x => .int .i64 (x.1 : Int)) (fun x => x.2)
    (fun x W => (1 ≤ x.1 ∧ x.1 ≤ 11 ∧ contN m x.1 ≠ []) ∧ ∃ bv, Mx none w W [(9, bytR (contN m x.1) x.2), (0, bytR m.l5 V.v5), (1, bytR m.l6 V.v6), (2, bytR m.l7 V.v7), (3, bytR m.l8 V.v8), (4, bytR m.l9 V.v9), (5, blkR g2 29 (msgA m V)), (6, ownR (encN m x.1) bv), (7, blkR g18 22 (#[bv])), (8, blkR g23 29 (msgA m V))]) (fun x W => ∃ bv, Mx none w W [(0, bytR m.l5 V.v5), (1, bytR m.l6 V.v6), (2, bytR m.l7 V.v7), (3, bytR m.l8 V.v8), (4, bytR m.l9 V.v9), (5, blkR g2 29 (msgA m V)), (6, ownR (encN m (x.1 + 1)) bv), (7, blkR g18 22 (#[bv])), (8, blkR g23 29 (msgA m V))]) (fun W => ∃ bv, Mx none w W [(0, bytR m.l5 V.v5), (1, bytR m.l6 V.v6), (2, bytR m.l7 V.v7), (3, bytR m.l8 V.v8), (4, bytR m.l9 V.v9), (5, blkR g2 29 (msgA m V)), (6, ownR (encN m 12) bv), (7, blkR g18 22 (#[bv])), (8, blkR g23 29 (msgA m V))]) ?_ ?_ ?_
  · intro l D o1 o2 W1 hD hL bW hrec hY
    have M1 : Mx none w W1 [(0, bytR m.l5 V.v5), (1, bytR m.l6 V.v6), (2, bytR m.l7 V.v7), (3, bytR m.l8 V.v8), (4, bytR m.l9 V.v9), (5, blkR g2 29 (msgA m V)), (6, ownR (encN m 1) (.slice A17 ([0, 0, (byteI m.k)]).length c17)), (7, blkR g18 22 (#[(.slice A17 ([0, 0, (byteI m.k)]).length c17)])), (8, blkR g23 29 (msgA m V))] := (M23.step bW).sub ⟨rfl, rfl, rfl, rfl, rfl, rfl, (by rw [encN_one]; rfl), rfl, rfl, trivial⟩
    refine there1_any m V ho (fun k W => ∃ bv, Mx none w W [(0, bytR m.l5 V.v5), (1, bytR m.l6 V.v6), (2, bytR m.l7 V.v7), (3, bytR m.l8 V.v8), (4, bytR m.l9 V.v9), (5, blkR g2 29 (msgA m V)), (6, ownR (encN m k) bv), (7, blkR g18 22 (#[bv])), (8, blkR g23 29 (msgA m V))]) g23 l D o1 o2 ?_ ?_ ?_ W1 ⟨_, M1⟩ hrec
    · rintro k W ⟨bv, hM⟩
      exact ⟨⟨hM.isb (k := 0) rfl, hM.isb (k := 1) rfl, hM.isb (k := 2) rfl, hM.isb (k := 3) rfl, hM.isb (k := 4) rfl⟩, hM.blk (k := 8) rfl⟩
    · rintro k W W' h1 h2 hn ⟨bv, hM⟩ hb
      exact ⟨_, (hM.step hb).sub ⟨rfl, rfl, rfl, rfl, rfl, rfl, (by rw [encN_skip hn]; rfl), rfl, rfl, trivial⟩⟩
    rintro k v W W' h1 h2 hn ⟨bv, hM⟩ hb hv hloc hre
    exact hY (k, v) W' ⟨⟨h1, h2, hn⟩, ⟨_, hM.content hb 9 hv hloc (k5 := 0) (k6 := 1) (k7 := 2) (k8 := 3) (k9 := 4) rfl rfl rfl rfl rfl⟩⟩ hre
  · rintro l ⟨k, v⟩ W ra F24 hlo hlt ⟨⟨h1, h2, hn⟩, ⟨bv, M24⟩⟩
    replace F24 : Fx 42 ra _ := F24
    dsimp only at h1 h2 hn M24 F24 ⊢
    clear F23 M23
    replace M24 : Mx none w W [(9, bytR (contN m k) v), (0, bytR m.l5 V.v5), (1, bytR m.l6 V.v6), (2, bytR m.l7 V.v7), (3, bytR m.l8 V.v8), (4, bytR m.l9 V.v9), (5, blkR g2 29 (msgA m V)), (6, ownR (encN m k) bv), (7, blkR g18 22 (#[bv])), (8, blkR g23 29 (msgA m V))] := M24
    have hk1 := encN_len (hcl rfl) k
    have hk2 := hcl rfl k
    refine wpIn_seq_k fun K25 hK25 => ?_
    refine wpIn_lit' (fun ⟨_, _, h⟩ => h) rfl ?_
    refine rm rfl F24 fun a26 F26 => ?_
    refine hK25 _ _ ?_
    refine wpIn_lit' (fun ⟨_, _, h⟩ => h) rfl ?_
    refine rm rfl F26 fun a27 F27 => ?_
    refine ⟨KeepsOthers.refl _, fun o hnc hoc => ?_⟩
    have CM : CellsA _ _ := (show CellsA W [(9, bytR (contN m k) v), (0, bytR m.l5 V.v5), (1, bytR m.l6 V.v6), (2, bytR m.l7 V.v7), (3, bytR m.l8 V.v8), (4, bytR m.l9 V.v9), (5, blkR g2 29 (msgA m V)), (6, ownR (encN m k) bv), (7, blkR g18 22 (#[bv])), (8, blkR g23 29 (msgA m V))] from ⟨cells_bytR (M24.at_ 9 _ rfl), cells_bytR (M24.at_ 0 _ rfl), cells_bytR (M24.at_ 1 _ rfl), cells_bytR (M24.at_ 2 _ rfl), cells_bytR (M24.at_ 3 _ rfl), cells_bytR (M24.at_ 4 _ rfl), cells_blk (M24.at_ 5 _ rfl), cells_ownR (M24.at_ 6 _ rfl), cells_blk (M24.at_ 7 _ rfl), cells_blk (M24.at_ 8 _ rfl), trivial⟩)
    have M28 := M24.putObj CM (Nat.le_of_lt (Nat.lt_of_le_of_lt hwle24 hlo)) hnc o
    clear CM M24
    have hLo : (W.putObj l o).heap[l]? = some o := World.putObj_heap_same hlt
    obtain ⟨Wp, hWp⟩ : ∃ x, x = W.putObj l o := ⟨_, rfl⟩
    rw [← hWp] at M28 hLo ⊢
    have CM : CellsA _ _ := (show CellsA Wp [(9, bytR (contN m k) v), (0, bytR m.l5 V.v5), (1, bytR m.l6 V.v6), (2, bytR m.l7 V.v7), (3, bytR m.l8 V.v8), (4, bytR m.l9 V.v9), (5, blkR g2 29 (msgA m V)), (6, ownR (encN m k) bv), (7, blkR g18 22 (#[bv])), (8, blkR g23 29 (msgA m V))] from ⟨cells_bytR (M28.at_ 9 _ rfl), cells_bytR (M28.at_ 0 _ rfl), cells_bytR (M28.at_ 1 _ rfl), cells_bytR (M28.at_ 2 _ rfl), cells_bytR (M28.at_ 3 _ rfl), cells_bytR (M28.at_ 4 _ rfl), cells_blk (M28.at_ 5 _ rfl), cells_ownR (M28.at_ 6 _ rfl), cells_blk (M28.at_ 7 _ rfl), cells_blk (M28.at_ 8 _ rfl), trivial⟩)
    replace M28 := M28.oth CM 10
    clear CM
    refine wpIn_block ?_
    refine wpIn_seq_k fun K29 hK29 => ?_
    refine wpIn_lit' (fun ⟨_, _, h⟩ => h) rfl ?_
    refine rn rfl rfl F27 rfl (bv) (y_ld1 _ _ rfl (F27.get rfl) (M28.blk (k := 7) rfl) rfl Try.underlying22 rfl) fun a30 F30 => ?_
    refine rm rfl F30 fun a31 F31 => ?_
    refine rn rfl rfl F31 rfl (.int .u8 (((byteI (k : Int)).toNat : Nat) : Int)) (y_cvI _ _ _ rfl (F31.get rfl) Try.underlying3 Try.underlying5 (byteI_wrap _)) fun a32 F32 => ?_
    refine wl_runM (wanted_none rfl) rfl F32 rfl (run_litO M28 12 [(byteI (k : Int))] 1 rfl (by decide) (by decide) rfl (by simp only [List.map_toArray, List.map_cons, List.map_nil, (F32.get (t := 21) rfl)]; kernel_rfl)) ?_
    intro v33 a33 w33 F33 M33
    clear F32 M28
    obtain ⟨A33, c33, rfl⟩ := (M33.isO (k := 12) rfl).shape
    refine wl_runM (wanted_none rfl) rfl F33 rfl (run_app M33 (k := 6) rfl _ _ rfl (F33.get rfl) (F33.get rfl) (M33.isO (k := 12) rfl) (by simp only [List.length_append, List.length_cons, List.length_nil]; omega)) ?_
    intro v34 a34 w34 F34 M34
    clear F33 M33
    obtain ⟨A34, c34, rfl⟩ := (M34.isO (k := 6) rfl).shape
    refine wl_st (wanted_none rfl) rfl F34 M34 (k := 7) rfl _ _ _ rfl (F34.get rfl) (F34.get rfl) (#[.slice A34 (((encN m k) ++ [(byteI (k : Int))])).length c34]) (#[.slice A34 (((encN m k) ++ [(byteI (k : Int))])).length c34]) rfl (Nat.le_of_ble_eq_true rfl) (one_slc rfl) (y_put0 rfl) (by kernel_rfl) ?_
    intro w35 M35
    clear M34
    refine hK29 _ _ ?_
    refine wpIn_lit' (fun ⟨_, _, h⟩ => h) rfl ?_
    refine rn rfl rfl F34 rfl (.slice A34 (((encN m k) ++ [(byteI (k : Int))])).length c34) (y_ld1 _ _ rfl (F34.get rfl) (M35.blk (k := 7) rfl) rfl Try.underlying22 rfl) fun a36 F36 => ?_
    refine rm rfl F36 fun a37 F37 => ?_
    refine wl_call (wanted_none rfl) rfl F37 rfl rfl (enters_of Try.func45 (by kernel_rfl) rfl) #[.slice A34 (((encN m k) ++ [(byteI (k : Int))])).length c34, v] (args2 (F37.get rfl) (F37.get rfl)) (counted_any ((encN m k) ++ [(byteI (k : Int))]) (contN m k) (.slice A34 (((encN m k) ++ [(byteI (k : Int))])).length c34) (v) (by simp only [List.length_append, List.length_cons, List.length_nil]; omega) w35 (M35.at_ 6 _ rfl) (M35.isb (k := 9) rfl) (fun g e hg => M35.dis 6 9 _ _ rfl rfl (by decide) rfl g e hg)) ?_
    rintro v38 w38 a38 ⟨hv38, hlo38, gb38⟩ F38
    have M38 := M35.growO (k := 6) rfl gb38 hv38 hlo38
    clear M35 gb38 hv38 hlo38
    obtain ⟨A38, c38, rfl⟩ := (M38.isO (k := 6) rfl).shape
    refine wl_st (wanted_none rfl) rfl F38 M38 (k := 7) rfl _ _ _ rfl (F38.get rfl) (F38.get rfl) (#[.slice A38 (((((encN m k) ++ [(byteI (k : Int))]) ++ [byteI ((contN m k).length : Int)]) ++ (contN m k))).length c38]) (#[.slice A38 (((((encN m k) ++ [(byteI (k : Int))]) ++ [byteI ((contN m k).length : Int)]) ++ (contN m k))).length c38]) rfl (Nat.le_of_ble_eq_true rfl) (one_slc rfl) (y_put0 rfl) (by kernel_rfl) ?_
    intro w39 M39
    clear M38
    have KO := M39.keeps (i := 10) rfl
    have Me : Mx none w _ [(0, bytR m.l5 V.v5), (1, bytR m.l6 V.v6), (2, bytR m.l7 V.v7), (3, bytR m.l8 V.v8), (4, bytR m.l9 V.v9), (5, blkR g2 29 (msgA m V)), (6, ownR (encN m (k + 1)) (.slice A38 (((((encN m k) ++ [(byteI (k : Int))]) ++ [byteI ((contN m k).length : Int)]) ++ (contN m k))).length c38)), (7, blkR g18 22 (#[(.slice A38 (((((encN m k) ++ [(byteI (k : Int))]) ++ [byteI ((contN m k).length : Int)]) ++ (contN m k))).length c38)])), (8, blkR g23 29 (msgA m V))] := M39.sub ⟨rfl, rfl, rfl, rfl, rfl, rfl, (by rw [encN_put hn]; rfl), rfl, rfl, trivial⟩
    have CM : CellsA _ _ := (show CellsA w39 [(0, bytR m.l5 V.v5), (1, bytR m.l6 V.v6), (2, bytR m.l7 V.v7), (3, bytR m.l8 V.v8), (4, bytR m.l9 V.v9), (5, blkR g2 29 (msgA m V)), (6, ownR (encN m (k + 1)) (.slice A38 (((((encN m k) ++ [(byteI (k : Int))]) ++ [byteI ((contN m k).length : Int)]) ++ (contN m k))).length c38)), (7, blkR g18 22 (#[(.slice A38 (((((encN m k) ++ [(byteI (k : Int))]) ++ [byteI ((contN m k).length : Int)]) ++ (contN m k))).length c38)])), (8, blkR g23 29 (msgA m V))] from ⟨cells_bytR (Me.at_ 0 _ rfl), cells_bytR (Me.at_ 1 _ rfl), cells_bytR (Me.at_ 2 _ rfl), cells_bytR (Me.at_ 3 _ rfl), cells_bytR (Me.at_ 4 _ rfl), cells_blk (Me.at_ 5 _ rfl), cells_ownR (Me.at_ 6 _ rfl), cells_blk (Me.at_ 7 _ rfl), cells_blk (Me.at_ 8 _ rfl), trivial⟩)
    exact ⟨KO, fun o2 => ⟨_, Me.putObj CM (Nat.le_of_lt (Nat.lt_of_le_of_lt hwle24 hlo)) (fun o3 h3 => by rw [KO.same l o hLo hoc] at h3; cases h3; exact hoc) o2⟩⟩
  rintro l D o W a41 hD hL ⟨bv, M41⟩ hnc hdd F41
  have CM : CellsA W [(0, bytR m.l5 V.v5), (1, bytR m.l6 V.v6), (2, bytR m.l7 V.v7), (3, bytR m.l8 V.v8), (4, bytR m.l9 V.v9), (5, blkR g2 29 (msgA m V)), (6, ownR (encN m 12) bv), (7, blkR g18 22 (#[bv])), (8, blkR g23 29 (msgA m V))] := ⟨cells_bytR (M41.at_ 0 _ rfl), cells_bytR (M41.at_ 1 _ rfl), cells_bytR (M41.at_ 2 _ rfl), cells_bytR (M41.at_ 3 _ rfl), cells_bytR (M41.at_ 4 _ rfl), cells_blk (M41.at_ 5 _ rfl), cells_ownR (M41.at_ 6 _ rfl), cells_blk (M41.at_ 7 _ rfl), cells_blk (M41.at_ 8 _ rfl), trivial⟩
  replace M41 := M41.putObj CM (by omega) hnc o
  clear CM
  have CM : CellsA (W.putObj l o) [(0, bytR m.l5 V.v5), (1, bytR m.l6 V.v6), (2, bytR m.l7 V.v7), (3, bytR m.l8 V.v8), (4, bytR m.l9 V.v9), (5, blkR g2 29 (msgA m V)), (6, ownR (encN m 12) bv), (7, blkR g18 22 (#[bv])), (8, blkR g23 29 (msgA m V))] := ⟨cells_bytR (M41.at_ 0 _ rfl), cells_bytR (M41.at_ 1 _ rfl), cells_bytR (M41.at_ 2 _ rfl), cells_bytR (M41.at_ 3 _ rfl), cells_bytR (M41.at_ 4 _ rfl), cells_blk (M41.at_ 5 _ rfl), cells_ownR (M41.at_ 6 _ rfl), cells_blk (M41.at_ 7 _ rfl), cells_blk (M41.at_ 8 _ rfl), trivial⟩
  replace M41 := M41.obj CM 11 D _ hdd rfl
  clear CM
  have hDge : w.heap.size ≤ D := by omega
  clear hdd hnc hL hD
  obtain ⟨w41, hw41⟩ : ∃ x, x = W.putObj l o := ⟨_, rfl⟩
  rw [← hw41] at M41 ⊢
  clear hw41
  have hN2 : N ≤ 1467 := hN ▸ encN_len (hcl rfl) 12
  refine hK20 _ _ (wp_seq_k fun K42 hK42 => ?_)
  refine wp_region_lit ?_
  refine rn rfl rfl F41 rfl (bv) (y_ld1 _ _ rfl (F41.get rfl) (M41.blk (k := 7) rfl) rfl Try.underlying22 rfl) fun a43 F43 => ?_
  refine rn rfl rfl F43 rfl (.int .i64 (N : Int)) (y_len _ rfl (F43.get rfl) (M41.isO (k := 6) rfl) (by rw [hN])) fun a44 F44 => ?_
  refine rn rfl rfl F44 rfl (.int .i64 ((N : Int) - 2)) (y_subI _ _ _ _ rfl (F44.get rfl) rfl rfl (by omega)) fun a45 F45 => ?_
  refine rm rfl F45 fun a46 F46 => ?_
  refine hK42 _ _ (wp_seq_k fun K47 hK47 => ?_)
  refine wp_seq_k fun K48 hK48 => wp_region_lit ?_
  refine rm rfl F46 fun a49 F49 => ?_
  by_cases h50 : 200 < ((N : Int) - 2)
  · refine rn rfl rfl F49 rfl (.bool true) (y_gtr _ _ _ _ rfl (F49.get rfl) rfl (decide_eq_true h50)) fun a51 F51 => ?_
    refine hK48 _ _ (wp_cond_true (F51.get (t := 31) rfl) ?_)
    refine wp_seq_k fun K52 hK52 => wp_region_lit ?_
    refine rm rfl F51 fun a53 F53 => ?_
    refine rm rfl F53 fun a54 F54 => ?_
    refine hK52 _ _ (wp_ret ?_)
    try simp only [Exit.then, Exit.inBlock, Exit.jump]
    have hDD := M41.anObj (i := 11) rfl
    have Mz := (M41.sub (R' := []) trivial).putObj trivial hDge (fun o3 h3 => by rw [hDD] at h3; cases h3; rfl) (.deferred none)
    exact bodyM_ret1 F54.defers hDD (res2 rfl (F54.get (t := 2) rfl) (F54.get (t := 3) rfl)) ⟨.slice none 0 0, (by rw [show encOk m = false from by rw [encOk, hR, hN]; simp; omega]), (by rw [show encL m = _ from if_neg (by rw [encOk, hR, hN]; simp; omega)]; exact Byt.nil _ _), Mz.below⟩
  refine rn rfl rfl F49 rfl (.bool false) (y_gtr _ _ _ _ rfl (F49.get rfl) rfl (decide_eq_false h50)) fun a55 F55 => ?_
  refine hK48 _ _ (wp_cond_false (F55.get (t := 31) rfl) ?_)
  refine wp_skip ?_
  refine hK47 _ _ (wp_seq_k fun K56 hK56 => ?_)
  refine region_fxM F55 [fun vE => vE = bv, fun vE => vE = bv, fun vE => vE = .int .i64 ((N : Int) - 2), fun vE => vE = .int .i64 0, fun vE => vE = .int .u8 0, fun vE => vE = .int .i64 ((N : Int) - 2), fun vE => vE = .int .u8 (((byteI ((N : Int) - 2)).toNat : Nat) : Int), fun vE => vE = (ixV (bv) 0), fun vE => vE = undef] (JM none w fun SV pV => [(11, objR D (.deferred (some []))), (0, bytR m.l5 V.v5), (1, bytR m.l6 V.v6), (2, bytR m.l7 V.v7), (3, bytR m.l8 V.v8), (4, bytR m.l9 V.v9), (5, blkR g2 29 (msgA m V)), (6, eitherR (SV 8) (ownR ((encN m 12).set 0 0) bv) (ownR (encN m 12) bv)), (7, blkR g18 22 (#[bv])), (8, blkR g23 29 (msgA m V))]) 9 rfl (by kernel_rfl) rfl ⟨trivial, trivial, trivial, trivial, trivial, trivial, trivial, trivial, fun _ => Iff.rfl, trivial⟩ (fun p => (M41.step (step_drew _)).sub ⟨rfl, rfl, rfl, rfl, rfl, rfl, rfl, rfl, rfl, rfl, trivial⟩) ⟨?_, ?_, ?_, ?_, ?_, ?_, ?_, ?_, ?_, trivial⟩ ?_
  · intro ua uw SV pV M0 hk hn hd
    have M : Mx none w uw _ := M0
    clear M0
    have e4 : ua.eval (.tmp 4) = .pointer (some ⟨g18, 0, none⟩) := (show ua.eval (.tmp 4) = _ from hd 4 (by decide)).trans (F55.get (t := 4) rfl)
    exact hopM_run (wanted_none rfl) (bv) (y_ld1 _ _ rfl e4 (M.blk (k := 7) rfl) rfl Try.underlying22 rfl) rfl (M.sub ⟨rfl, rfl, rfl, rfl, rfl, rfl, rfl, rfl, rfl, rfl, trivial⟩)
  · intro ua uw SV pV M0 hk hn hd
    have M : Mx none w uw _ := M0
    clear M0
    have e4 : ua.eval (.tmp 4) = .pointer (some ⟨g18, 0, none⟩) := (show ua.eval (.tmp 4) = _ from hd 4 (by decide)).trans (F55.get (t := 4) rfl)
    exact hopM_run (wanted_none rfl) (bv) (y_ld1 _ _ rfl e4 (M.blk (k := 7) rfl) rfl Try.underlying22 rfl) rfl (M.sub ⟨rfl, rfl, rfl, rfl, rfl, rfl, rfl, rfl, rfl, rfl, trivial⟩)
  · intro ua uw SV pV M0 hk hn hd
    have M : Mx none w uw _ := M0
    clear M0
    have e7 : ua.eval (.tmp 7) = .int .i64 ((N : Int) - 2) := (show ua.eval (.tmp 7) = _ from hd 7 (by decide)).trans (F55.get (t := 7) rfl)
    exact hopM_run (wanted_none rfl) (.int .i64 ((N : Int) - 2)) (run_mv _ (.inl rfl) e7) rfl (M.sub ⟨rfl, rfl, rfl, rfl, rfl, rfl, rfl, rfl, rfl, rfl, trivial⟩)
  · intro ua uw SV pV M0 hk hn hd
    have M : Mx none w uw _ := M0
    clear M0
    obtain ⟨s2, f34, q34⟩ := (show SV 2 = true ∧ ua.eval (.tmp 34) = pV 2 ∧ stE _ 2 (pV 2) from hd 34 (by decide))
    have e34 : ua.eval (.tmp 34) = .int .i64 ((N : Int) - 2) := f34.trans q34
    exact hopM_run (wanted_none rfl) (.int .i64 0) (y_shrI _ _ _ _ rfl e34 rfl (by decide) (by show ((N : Int) - 2) / 2 ^ 8 = 0; omega)) rfl (M.sub ⟨rfl, rfl, rfl, rfl, rfl, rfl, rfl, rfl, rfl, rfl, trivial⟩)
  · intro ua uw SV pV M0 hk hn hd
    have M : Mx none w uw _ := M0
    clear M0
    obtain ⟨s3, f35, q35⟩ := (show SV 3 = true ∧ ua.eval (.tmp 35) = pV 3 ∧ stE _ 3 (pV 3) from hd 35 (by decide))
    have e35 : ua.eval (.tmp 35) = .int .i64 0 := f35.trans q35
    exact hopM_run (wanted_none rfl) (.int .u8 0) (y_cvI _ _ _ rfl e35 Try.underlying3 Try.underlying5 rfl) rfl (M.sub ⟨rfl, rfl, rfl, rfl, rfl, rfl, rfl, rfl, rfl, rfl, trivial⟩)
  · intro ua uw SV pV M0 hk hn hd
    have M : Mx none w uw _ := M0
    clear M0
    have e7 : ua.eval (.tmp 7) = .int .i64 ((N : Int) - 2) := (show ua.eval (.tmp 7) = _ from hd 7 (by decide)).trans (F55.get (t := 7) rfl)
    exact hopM_run (wanted_none rfl) (.int .i64 ((N : Int) - 2)) (run_mv _ (.inl rfl) e7) rfl (M.sub ⟨rfl, rfl, rfl, rfl, rfl, rfl, rfl, rfl, rfl, rfl, trivial⟩)
  · intro ua uw SV pV M0 hk hn hd
    have M : Mx none w uw _ := M0
    clear M0
    obtain ⟨s5, f37, q37⟩ := (show SV 5 = true ∧ ua.eval (.tmp 37) = pV 5 ∧ stE _ 5 (pV 5) from hd 37 (by decide))
    have e37 : ua.eval (.tmp 37) = .int .i64 ((N : Int) - 2) := f37.trans q37
    exact hopM_run (wanted_none rfl) (.int .u8 (((byteI ((N : Int) - 2)).toNat : Nat) : Int)) (y_cvI _ _ _ rfl e37 Try.underlying3 Try.underlying5 (byteI_wrap _)) rfl (M.sub ⟨rfl, rfl, rfl, rfl, rfl, rfl, rfl, rfl, rfl, rfl, trivial⟩)
  · intro ua uw SV pV M0 hk hn hd
    have M : Mx none w uw _ := M0
    clear M0
    obtain ⟨s0, f32, q32⟩ := (show SV 0 = true ∧ ua.eval (.tmp 32) = pV 0 ∧ stE _ 0 (pV 0) from hd 32 (by decide))
    have e32 : ua.eval (.tmp 32) = bv := f32.trans q32
    exact hopM_run (wanted_none rfl) ((ixV (bv) 0)) (y_ixB _ _ rfl e32 (M.isO (k := 6) (eitherR_r (hn 8 (by kernel_rfl)) rfl)) rfl rfl (by first | omega | (simp only [List.length_set]; omega))) rfl (M.sub ⟨rfl, rfl, rfl, rfl, rfl, rfl, rfl, rfl, rfl, rfl, trivial⟩)
  · intro ua uw SV pV M0 hk hn hd
    have M : Mx none w uw _ := M0
    clear M0
    obtain ⟨s7, f39, q39⟩ := (show SV 7 = true ∧ ua.eval (.tmp 39) = pV 7 ∧ stE _ 7 (pV 7) from hd 39 (by decide))
    have e39 : ua.eval (.tmp 39) = (ixV (bv) 0) := f39.trans q39
    obtain ⟨s4, f36, q36⟩ := (show SV 4 = true ∧ ua.eval (.tmp 36) = pV 4 ∧ stE _ 4 (pV 4) from hd 36 (by decide))
    have e36 : ua.eval (.tmp 36) = .int .u8 0 := f36.trans q36
    exact hopM_doM (wanted_none rfl) rfl (run_setO M (k := 6) (eitherR_r hk rfl) _ _ rfl e39 0 e36 rfl (by first | omega | (simp only [List.length_set]; omega))) (fun w2 h2 => h2.sub ⟨rfl, rfl, rfl, rfl, rfl, rfl, rfl, rfl, rfl, rfl, trivial⟩) rfl
  intro p57 a57 w57 M57 G57 y57
  obtain ⟨-, q1, -, -, -, -, q6, -, -, -⟩ := y57
  have r1 : p57 1 = bv := q1
  have r6 : p57 6 = .int .u8 (((byteI ((N : Int) - 2)).toNat : Nat) : Int) := q6
  replace M57 : Mx _ _ w57 [(11, objR D (.deferred (some []))), (0, bytR m.l5 V.v5), (1, bytR m.l6 V.v6), (2, bytR m.l7 V.v7), (3, bytR m.l8 V.v8), (4, bytR m.l9 V.v9), (5, blkR g2 29 (msgA m V)), (6, eitherR true (ownR ((encN m 12).set 0 0) bv) (ownR (encN m 12) bv)), (7, blkR g18 22 (#[bv])), (8, blkR g23 29 (msgA m V))] := M57
  simp only [List.take_succ_cons, List.take_zero, layV, Nat.zero_add, Nat.reduceAdd, r1, r6] at G57
  simp only [List.drop_succ_cons, List.drop_zero]
  refine rn rfl rfl G57 rfl ((ixV (bv) 1)) (y_ixB _ _ rfl (G57.get rfl) (M57.isO (k := 6) rfl) rfl rfl (by first | omega | (simp only [List.length_set]; omega))) fun a58 F58 => ?_
  refine wl_doM (wanted_none rfl) rfl F58 (run_setO M57 (k := 6) rfl _ _ rfl (F58.get rfl) (byteI ((N : Int) - 2)) (F58.get rfl) rfl (by first | omega | (simp only [List.length_set]; omega))) ?_
  intro w59 M59
  clear M57
  refine hK56 _ _ (wp_seq_k fun K60 hK60 => ?_)
  refine wp_region_lit ?_
  refine exS 3 [(2, bv), (3, .bool true)] [0] (dcons (M59.blk (k := 7) rfl) dnil) [g18] F58 (by kernel_rfl) fun a61 F61 => ?_
  simp only [List.drop_succ_cons, List.drop_zero]
  refine hK60 _ _ (wp_ret ?_)
  try simp only [Exit.then, Exit.inBlock, Exit.jump]
  have hDD := M59.anObj (i := 11) rfl
  have Mz : Mx none w _ [(6, ownR (((encN m 12).set 0 0).set 1 (byteI ((N : Int) - 2))) bv)] := (M59.sub (R' := [(6, ownR (((encN m 12).set 0 0).set 1 (byteI ((N : Int) - 2))) bv)]) ⟨rfl, trivial⟩).putObj ⟨cells_ownR (M59.at_ 6 _ rfl), trivial⟩ hDge (fun o3 h3 => by rw [hDD] at h3; cases h3; rfl) (.deferred none)
  exact bodyM_ret1 F61.defers hDD (res2 rfl (F61.get (t := 2) rfl) (F61.get (t := 3) rfl)) ⟨bv, (by rw [show encOk m = true from by rw [encOk, hR, hN]; simp; omega]), (by rw [show encL m = _ from if_pos (by rw [encOk, hR, hN]; simp; omega), encF, hN]; exact Mz.byt (k := 6) rfl), Mz.below⟩
end Go.Proofs.Ytlbkogdmojlpmaa
