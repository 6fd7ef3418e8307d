/- sponge.Same: two rows of bytes are the same just where they are. -/
import Derived.Test.YtgccbfkofkohpaaMake
import Derived.Test.YtgccbfkofkohpaaMul
import Derived.Test.YtgccbfkofkohpaaGaByte
import Derived.Test.YtgccbfkofkohpaaGaBk
import Derived.Test.YtgccbfkofkohpaaGaSc
import Derived.Test.YtgccbfkofkohpaaGenR
import Derived.RangeFuncNested
import Derived.RangeFuncBound
import Derived.RangeFuncCalls
import Derived.RangeFuncLeaves
import Derived.Shelf.RegionOpen
import Derived.OwnWalkIn
import Derived.TacticsInMore
import Derived.LoopNIn
import Derived.LoopIn
namespace Go.Proofs.Ytgccbfkofkohpaa
set_option linter.unusedVariables false
set_option maxRecDepth 20000
set_option linter.unusedSimpArgs false
open Go.ChangeShapes Go.WideShapes Go.ChangeAt Go.RowKit
/-- The bytes x 0 .. x (n - 1) that a slice leads to. -/
def RdB (w : World) (A : Option Addr) (n : Nat) (x : Nat → Int) : Prop :=
  n ≤ maxLen ∧ (∀ k, 0 ≤ x k ∧ x k < 256) ∧ (0 < n → ∃ b o, A = some ⟨b, o, none⟩ ∧ b < w.heap.size ∧ ∀ k, k < n → w.cell? ⟨b, o + k, none⟩ = some (.int .u8 (x k)))
theorem u8_or_xor (a b c : Int) (ha : 0 ≤ a ∧ a < 256) (hb : 0 ≤ b ∧ b < 256) (hc : 0 ≤ c ∧ c < 256) : bits .or .u8 c (bits .xor .u8 a b) = 0 ↔ c = 0 ∧ a = b := by
  obtain ⟨a, rfl⟩ := Int.eq_ofNat_of_zero_le ha.1
  obtain ⟨b, rfl⟩ := Int.eq_ofNat_of_zero_le hb.1
  obtain ⟨c, rfl⟩ := Int.eq_ofNat_of_zero_le hc.1
  have ha' : a < 2 ^ 8 := by omega
  have hb' : b < 2 ^ 8 := by omega
  have hc' : c < 2 ^ 8 := by omega
  have hx : bits .xor .u8 (a : Int) (b : Int) = ((a ^^^ b : Nat) : Int) := by
    have e1 : a % 2 ^ IntKind.u8.bits = a := Nat.mod_eq_of_lt ha'
    have e2 : b % 2 ^ IntKind.u8.bits = b := Nat.mod_eq_of_lt hb'
    have e3 : a ^^^ b < 2 ^ 8 := Nat.xor_lt_two_pow ha' hb'
    simp only [bits, BitVec.ofInt_natCast, BitVec.toNat_xor, BitVec.toNat_ofNat, e1, e2]
    rw [IntKind.wrap_u8]; omega
  rw [hx, (bits_nat .u8 8 (by decide) (fun n h0 h1 => by rw [IntKind.wrap_u8]; omega) c (a ^^^ b) hc' (Nat.xor_lt_two_pow ha' hb')).2]
  constructor
  · intro h
    have h1 : c ||| (a ^^^ b) = 0 := by omega
    obtain ⟨h2, h3⟩ := Nat.or_eq_zero_iff.1 h1
    have h4 : a = b := by
      have e : a ^^^ b ^^^ b = 0 ^^^ b := by rw [h3]
      rwa [Nat.xor_assoc, Nat.xor_self, Nat.xor_zero, Nat.zero_xor] at e
    exact ⟨by omega, by omega⟩
  · rintro ⟨h1, h2⟩
    have h1' : c = 0 := by omega
    have h2' : a = b := by omega
    subst h1' h2'
    simp
theorem u8_bd (op : BinOp) (a b : Int) : 0 ≤ bits op .u8 a b ∧ bits op .u8 a b < 256 := by
  have := wrap_within .u8 (bits op .u8 a b)
  unfold bits
  rw [IntKind.wrap_u8]
  omega
def AgreeTo (x y : Nat → Int) (k : Nat) : Prop := ∀ j, j < k → x j = y j
theorem agree_succ {x y : Nat → Int} {k : Nat} : AgreeTo x y (k + 1) ↔ AgreeTo x y k ∧ x k = y k := by
  constructor
  · exact fun h => ⟨fun j hj => h j (by omega), h k (by omega)⟩
  · rintro ⟨h1, h2⟩ j hj
    by_cases e : j = k
    · subst e; exact h2
    · exact h1 j (by omega)
/-- The answer. -/
noncomputable def sameB (x y : Nat → Int) (n : Nat) : Bool := @decide (AgreeTo x y n) (Classical.propDecidable _)
end Go.Proofs.Ytgccbfkofkohpaa
namespace Go.Proofs.Ytgccbfkofkohpaa
set_option linter.unusedVariables false
set_option maxRecDepth 20000
set_option linter.unusedSimpArgs false
open Go.ChangeShapes Go.WideShapes Go.ChangeAt Go.RowKit Go.Shelf

/-- The loop's record, ready; the block for deferred calls. -/
def RecAt (l D : Nat) (o1 o2 : Obj) (W : World) : Prop := W.heap[l]? = some o1 ∧ W.heap[D]? = some o2 ∧ o1.isCells = false ∧ o2.isCells = false
theorem RecAt.kept {l D : Nat} {o1 o2 : Obj} {W W' : World} (h : RecAt l D o1 o2 W) (hk : KeepsOthers W W') : RecAt l D o1 o2 W' :=
  ⟨hk.same _ _ h.1 h.2.2.1, hk.same _ _ h.2.1 h.2.2.2, h.2.2⟩
def roundEnd (l : Nat) (W2 : World) (R : World → Prop) : Exit → Act → World → Prop
  | .normal, _, W3 => KeepsOthers W2 W3 ∧ ∀ o, R (W3.putObj l o)
  | _, _, _ => False
/-- Block l holds no cells. -/
def NotCells (w : World) (l : Nat) : Prop := ∀ o', w.heap[l]? = some o' → o'.isCells = false
/-- What is asked behind the assignment to the loop's variables. -/
def MidOk (F : Fence) (n : Nat) (P : Program) (l : Nat) (body : Code) (W : World) (R : World → Prop) (a₁ : Act) (W1 : World) : Prop :=
  KeepsOthers W W1 ∧ ∀ o, NotCells W1 l → body.wpIn (F.inRound l) n P (roundEnd l (W1.putObj l o) R) a₁ (W1.putObj l o)
theorem wpIn_range {F : Fence} {n : Nat} {P : Program} {g : Operand} {ps : Array Tmp} {assign body : Code} {Q : Exit → Act → World → Prop} {a : Act} {w : World}
    (hro : F.round = none) (h1 : 1 ≤ n) {gf : Nat} {lb : Array Value} (hg : a.eval g = .func (.func gf) #[] lb) (hFg : F.fn gf) (eg : ∀ args w, (callFunc gf args).run P w = .ok (.enter gf args) w)
    {α : Type} (encs : α → Array Value) (hps : ∀ x, (encs x).size = ps.size) (Pre : α → World → Prop) (Post : α → World → World → Prop) (Fin : World → Prop)
    (hround : ∀ (l : Nat) (x : α) (W : World), w.heap.size < l → l < W.heap.size → Pre x W →
      assign.wpIn (F.inRound l) (n - 1 - 1) P (Exit.then (MidOk F (n - 1 - 1) P l body W (Post x W)) (fun _ _ _ => False)) { tmps := (ps.zip (encs x)).foldl (fun t (p, v) => t.setIfInBounds p v) a.tmps, defers := [] } W)
    (hiter : ∀ (l D : Nat) (o1 o2 : Obj) (W1 : World), D = w.heap.size → l = w.heap.size + 1 → W1 = (w.alloc o2).alloc o1 → RecAt l D o1 o2 W1 →
      (∀ x W, Pre x W → RecAt l D o1 o2 W → YieldAt F (n - 1 - 1) P l (encs x) W fun e W' => e = .returned (.bool true) ∧ RecAt l D o1 o2 W' ∧ Post x W W') →
      CallsIn F (n - 1) P gf (#[.func (.yield l) #[] #[]] ++ lb) W1 fun e W' => (∃ v, e = .returned v) ∧ RecAt l D o1 o2 W' ∧ Fin W')
    (hdone : ∀ (l D : Nat) (o : Obj) (W : World), D = w.heap.size → l = w.heap.size + 1 → Fin W → l < W.heap.size → NotCells W l → (W.putObj l o).heap[D]? = some (.deferred (some [])) →
      Q .normal { a with defers := { target := .collected D, args := #[] } :: a.defers } (W.putObj l o)) :
    (Code.rangeFunc g ps assign body).wpIn F n P Q a w := by
  refine wpIn_rangeFunc ?_
  intro fn hfn
  rw [hro]
  obtain ⟨rec, hrec⟩ : ∃ rec : LoopState → Option Code → Loop, rec = fun st pe => { state := st, pending := pe, fn, tmps := a.tmps, params := ps, assign, body, defers := w.heap.size } := ⟨_, rfl⟩
  obtain ⟨W1, hW1⟩ : ∃ W1, (w.alloc (.deferred (some []))).alloc (.loop (rec .ready none)) = W1 := ⟨_, rfl⟩
  have hL1 : W1.heap[w.heap.size + 1]? = some (.loop (rec .ready none)) := by
    rw [← hW1]; have := World.alloc_heap_new (w.alloc (.deferred (some []))) (.loop (rec .ready none)); rwa [World.size_alloc] at this
  have hK1 : W1.heap[w.heap.size]? = some (.deferred (some [])) := by
    rw [← hW1]; exact (Below.heap_alloc _ _ _ (by simp)).trans (World.alloc_heap_new w _)
  refine ⟨w.heap.size + 1, [{ target := .collected w.heap.size, args := #[] }], W1, { target := .fn (.func gf) lb, args := #[.func (.yield (w.heap.size + 1)) #[] #[]] }, W1, gf,
    #[.func (.yield (w.heap.size + 1)) #[] #[]] ++ lb, W1, ?_, ?_, ?_, ?_, fun _ => h1, ?_⟩
  · rw [← hW1, hrec]; exact run_enterLoop_outer _ _ _ _ _
  · simp only [resolve, hg]
    simp [go_sem]
  · intro f' hf'; simp [Target.leads] at hf'; subst hf'; exact hFg
  · simp [invoke, go_sem, eg]
  · refine (hiter (w.heap.size + 1) w.heap.size (.loop (rec .ready none)) (.deferred (some [])) W1 rfl rfl hW1.symm ⟨hL1, hK1, rfl, rfl⟩ ?_).mono ?_
    · rintro x W hpre ⟨hl, hk, -, -⟩
      have hlt : w.heap.size + 1 < W.heap.size := (Array.getElem?_eq_some_iff.1 hl).1
      have hy := run_yield (P := P) (args := encs x) hl (by rw [hrec]; exact hps x)
      rw [hrec] at hy
      refine ⟨fn, _, assign, body, hy, roundIn_of_wpIn hfn (wpIn_mono (hround (w.heap.size + 1) x W (by omega) hlt hpre) ?_)⟩
      rintro e a1 W2 hp
      cases e with
      | normal =>
        obtain ⟨hk2, hb⟩ := hp
        have hl2 := hk2.same _ _ hl rfl
        have hd2 := hk2.same _ _ hk rfl
        have hlt2 := (Array.getElem?_eq_some_iff.1 hl2).1
        refine ⟨_, run_beginRound hl2 (by rw [hrec]), ?_⟩
        refine wpIn_mono (hb (.loop { rec .ready none with state := .busy }) (fun o' ho' => by rw [hl2] at ho'; cases ho'; rfl)) ?_
        rintro e3 a3 W3 hp3
        cases e3 with
        | normal =>
          obtain ⟨hk3, hR⟩ := hp3
          have hl3 : W3.heap[w.heap.size + 1]? = some (.loop { rec .ready none with state := .busy }) := hk3.same _ _ (World.putObj_heap_same hlt2) rfl
          have hd3 : W3.heap[w.heap.size]? = some (.deferred (some [])) := hk3.same _ _ ((World.putObj_heap_other (by omega)).trans hd2) rfl
          have hend := run_endRound (P := P) none hl3
          rw [hrec] at hend
          refine ⟨_, _, hend, rfl, ⟨?_, ?_, rfl, rfl⟩, hR _⟩
          · rw [hrec]; exact World.putObj_heap_same (Array.getElem?_eq_some_iff.1 hl3).1
          · exact (World.putObj_heap_other (by omega)).trans hd3
        | _ => exact hp3.elim
      | _ => exact hp.elim
    · rintro e W2 ⟨⟨v, rfl⟩, ⟨hl, hk, -, -⟩, hf⟩
      refine ⟨none, _, by have := run_endLoop (P := P) hl (by rw [hrec]; simp); rw [hrec] at this; exact this, ?_⟩
      exact hdone (w.heap.size + 1) w.heap.size _ W2 rfl rfl hf (Array.getElem?_eq_some_iff.1 hl).1 (fun o' ho' => by rw [hl] at ho'; cases ho'; rfl) ((World.putObj_heap_other (by omega)).trans hk)
/-- In a fence: a load, a store, by its run. -/
theorem wpListIn_load_run {F : Fence} {n : Nat} {P : Program} {w : World} {ops : Array Oper} {rest : List Oper} {o : Oper} {a : Act} {Q : Exit → Act → World → Prop} (hg : o.guard = none) (ty : TypeId) (x : Operand) (ho : o.op = .load ty x) {u v : Value} (hx : a.eval x = u)
    (hr : (Instr.loadAt ty u).run P w = .ok v w) (h : wpListIn F n P ops Q rest (a.put o.dst v) w) : wpListIn F n P ops Q (o :: rest) a w := by
  refine wpListIn_plain hg fun K hK => ?_
  unfold Oper.wpIn
  refine ⟨?_, ?_⟩
  · simp [Oper.about, ho]
  · rw [Oper.semAt_plain F _ _ (by rw [ho]; intro c hc'; cases hc')]
    simp only [execOp, ho, hx, Sem.run_bind, hr, Result.andThen_ok, Sem.run_pure]
    exact hK _ _ h
theorem wpListIn_store_run {F : Fence} {n : Nat} {P : Program} {w w' : World} {ops : Array Oper} {rest : List Oper} {o : Oper} {a : Act} {Q : Exit → Act → World → Prop} (hg : o.guard = none) (ty : TypeId) (x y : Operand) (ho : o.op = .store ty x y) {u v : Value} (hx : a.eval x = u) (hy : a.eval y = v)
    (hr : (Instr.storeAt ty u v).run P w = .ok () w') (h : wpListIn F n P ops Q rest (a.put o.dst undef) w') : wpListIn F n P ops Q (o :: rest) a w := by
  refine wpListIn_plain hg fun K hK => ?_
  unfold Oper.wpIn
  refine ⟨?_, ?_⟩
  · simp [Oper.about, ho]
  · rw [Oper.semAt_plain F _ _ (by rw [ho]; intro c hc'; cases hc')]
    simp only [execOp, ho, hx, hy, Sem.run_bind, hr, Result.andThen_ok, Sem.run_pure]
    exact hK _ _ h
end Go.Proofs.Ytgccbfkofkohpaa
namespace Go.Proofs.Ytgccbfkofkohpaa
set_option linter.unusedVariables false
set_option maxRecDepth 20000
set_option linter.unusedSimpArgs false
open Go.ChangeShapes Go.WideShapes Go.ChangeAt Go.RowKit

def byI (L : List UInt8) (k : Nat) : Int := ((L.getD k 0).toNat : Int)
theorem byI_bd (L : List UInt8) (k : Nat) : 0 ≤ byI L k ∧ byI L k < 256 := by
  unfold byI
  have := (L.getD k 0).toNat_lt
  omega
theorem absN_congr {z z' : Nat → Int} (s : W8) : ∀ k, (∀ j, j < k → z j = z' j) → absN z s k = absN z' s k
  | 0, _ => rfl
  | k + 1, h => by rw [absN, absN, absN_congr s k fun j hj => h j (by omega), h k (by omega)]
theorem takeW_congr {z z' : Nat → Int} (s : W8) (h : ∀ k, k < 16 → z k = z' k) : takeW z s = takeW z' s := by
  unfold takeW; rw [absN_congr s 16 h]
def feed (s : W8) (L : List UInt8) : W8 × List UInt8 := if L.length < 16 then (s, L) else feed (takeW (byI L) s) (L.drop 16)
termination_by L.length
decreasing_by simp only [List.length_drop]; omega
theorem feed_lt {s : W8} {L : List UInt8} (h : L.length < 16) : feed s L = (s, L) := by rw [feed, if_pos h]
theorem feed_ge {s : W8} {L : List UInt8} (h : 16 ≤ L.length) : feed s L = feed (takeW (byI L) s) (L.drop 16) := by
  conv => lhs; rw [feed]
  rw [if_neg (by omega)]
theorem feed_block {s : W8} {B L : List UInt8} (h : B.length = 16) : feed s (B ++ L) = feed (takeW (byI B) s) L := by
  have e : takeW (byI (B ++ L)) s = takeW (byI B) s := takeW_congr s fun k hk => by
    unfold byI
    simp only [List.getD_eq_getElem?_getD]
    rw [List.getElem?_append_left (by omega)]
  rw [feed_ge (by rw [List.length_append]; omega), List.drop_append_of_le_length (by omega), List.drop_of_length_le (by omega), List.nil_append, e]
theorem feed_len (s : W8) (L : List UInt8) : (feed s L).2.length < 16 := by
  induction h : L.length using Nat.strongRecOn generalizing s L with
  | _ n ih =>
    by_cases h16 : L.length < 16
    · rw [feed_lt h16]; exact h16
    · rw [feed_ge (by omega)]
      exact ih (L.drop 16).length (by rw [List.length_drop]; omega) _ _ rfl
theorem feed_append (s : W8) (L R : List UInt8) : feed s (L ++ R) = feed (feed s L).1 ((feed s L).2 ++ R) := by
  induction h : L.length using Nat.strongRecOn generalizing s L with
  | _ n ih =>
    by_cases h16 : L.length < 16
    · rw [feed_lt h16]
    · rw [feed_ge (s := s) (L := L) (by omega)]
      have e : L ++ R = L.take 16 ++ (L.drop 16 ++ R) := by rw [← List.append_assoc, List.take_append_drop]
      have e2 : takeW (byI (L.take 16)) s = takeW (byI L) s := takeW_congr s fun k hk => by
        unfold byI; simp only [List.getD_eq_getElem?_getD, List.getElem?_take]; rw [if_pos hk]
      rw [e, feed_block (by rw [List.length_take]; omega), e2]
      exact ih (L.drop 16).length (by rw [List.length_drop]; omega) _ _ rfl
theorem feed_ok {s : W8} (hs : s.ok) (L : List UInt8) : (feed s L).1.ok := by
  induction h : L.length using Nat.strongRecOn generalizing s L with
  | _ n ih =>
    by_cases h16 : L.length < 16
    · rw [feed_lt h16]; exact hs
    · rw [feed_ge (by omega)]
      exact ih (L.drop 16).length (by rw [List.length_drop]; omega) (ok_takeW hs) _ rfl
attribute [irreducible] byI

/-! Worlds of which one block below N may have turned. -/
structure Kp (N p : Nat) (a b : World) : Prop where
  os : b.os = a.os
  tape : b.tape = a.tape
  output : b.output = a.output
  size : a.heap.size ≤ b.heap.size
  block : ∀ i, i < N → i ≠ p → b.heap[i]? = a.heap[i]?
theorem Kp.refl (N p : Nat) (a : World) : Kp N p a a := ⟨rfl, rfl, rfl, Nat.le_refl _, fun _ _ _ => rfl⟩
theorem Kp.trans {N p : Nat} {a b c : World} (h : Kp N p a b) (k : Kp N p b c) : Kp N p a c :=
  ⟨k.os.trans h.os, k.tape.trans h.tape, k.output.trans h.output, Nat.le_trans h.size k.size, fun i hi hp => (k.block i hi hp).trans (h.block i hi hp)⟩
theorem Kp.grown {N p : Nat} {a b : World} {r : Nat} (h : a.grownBy b (some r)) (hN : N ≤ a.heap.size) (hr : r = p ∨ N ≤ r) : Kp N p a b :=
  ⟨h.os, h.tape, h.output, h.size, fun i hi hp => h.block i (by omega) (fun e => by cases e; omega)⟩
theorem Kp.below {N p : Nat} {a b : World} (h : Below N a b) : Kp N p a b := ⟨h.os, h.tape, h.output, h.size, fun i hi _ => h.block i hi⟩
theorem Kp.grownBy {p : Nat} {a b : World} (h : Kp a.heap.size p a b) : a.grownBy b (some p) := ⟨h.os, h.tape, h.output, h.size, fun i hi hp => h.block i hi fun e => hp (by rw [e])⟩
theorem Kp.mono {N M p : Nat} {a b : World} (h : Kp N p a b) (hM : M ≤ N) : Kp M p a b := ⟨h.os, h.tape, h.output, h.size, fun i hi hp => h.block i (by omega) hp⟩
/-- Bytes that lie below N, not in block p. -/
def Src (N p : Nat) (w : World) (A : Option Addr) (l : List UInt8) : Prop :=
  0 < l.length → ∃ b o, A = some ⟨b, o, none⟩ ∧ b < N ∧ b ≠ p ∧ ∀ j x, l[j]? = some x → w.cell? ⟨b, o + j, none⟩ = some (.int .u8 (x.toNat : Int))
theorem cell_same {w w' : World} {b k : Nat} (e : w'.heap[b]? = w.heap[b]?) : w'.cell? ⟨b, k, none⟩ = w.cell? ⟨b, k, none⟩ := by simp only [World.cell?, e]
theorem Src.kp {N p : Nat} {w w' : World} {A : Option Addr} {l : List UInt8} (h : Src N p w A l) (k : Kp N p w w') : Src N p w' A l := fun hl => by
  obtain ⟨b, o, e, h1, h2, h3⟩ := h hl
  exact ⟨b, o, e, h1, h2, fun j x hx => (cell_same (k.block b h1 h2)).trans (h3 j x hx)⟩
theorem Src.of_rd {p : Nat} {w : World} {A : Option Addr} {l : List UInt8} (h : Rd w A l) (hp : ∀ b o, A = some ⟨b, o, none⟩ → b ≠ p) : Src w.heap.size p w A l := fun hl => by
  obtain ⟨b, o, e, h1, h2⟩ := h.at hl
  exact ⟨b, o, e, h1, hp b o e, h2⟩
/-- A sponge in memory: its words, what waits. -/
def SpAt (w : World) (p : Nat) (s : W8) (l : List UInt8) : Prop :=
  ∃ y : Nat → Int, (∀ k, 0 ≤ y k ∧ y k < 256) ∧ (∀ k, k < l.length → y k = byI l k) ∧ Blk w p 138 (arrS s y (l.length : Int)) ∧ s.ok ∧ l.length < 16
theorem SpAt.lt {w : World} {p : Nat} {s : W8} {l : List UInt8} (h : SpAt w p s l) : p < w.heap.size := by
  obtain ⟨y, _, _, h, _⟩ := h
  exact h.lt
theorem SpAt.of_block {w w' : World} {p : Nat} {s : W8} {l : List UInt8} (h : SpAt w p s l) (e : w'.heap[p]? = w.heap[p]?) : SpAt w' p s l := by
  obtain ⟨y, h1, h2, h3, h4⟩ := h
  exact ⟨y, h1, h2, e.trans h3, h4⟩
/-- What copy leaves of a sponge's block. -/
def laid (y : Nat → Int) (h : Nat) (L : List UInt8) (k : Nat) : Int := if h ≤ k ∧ k < h + L.length then byI L (k - h) else y k
theorem laid_bd {y : Nat → Int} (hy : ∀ k, 0 ≤ y k ∧ y k < 256) (h : Nat) (L : List UInt8) (k : Nat) : 0 ≤ laid y h L k ∧ laid y h L k < 256 := by
  unfold laid; split
  · exact byI_bd _ _
  · exact hy k
theorem byI_append {l L : List UInt8} {k : Nat} : byI (l ++ L) k = if k < l.length then byI l k else byI L (k - l.length) := by
  unfold byI
  simp only [List.getD_eq_getElem?_getD]
  by_cases h : k < l.length
  · rw [if_pos h, List.getElem?_append_left h]
  · rw [if_neg h, List.getElem?_append_right (by omega)]
theorem laid_at {y : Nat → Int} {l L : List UInt8} (h : ∀ k, k < l.length → y k = byI l k) : ∀ k, k < (l ++ L).length → laid y l.length L k = byI (l ++ L) k := by
  intro k hk
  rw [List.length_append] at hk
  rw [byI_append]
  unfold laid
  by_cases h1 : k < l.length
  · rw [if_neg (by omega), if_pos h1, h k h1]
  · rw [if_pos (by omega), if_neg h1]
theorem arrS_get (s : W8) (y : Nat → Int) (h : Int) {k : Nat} (hk : k < 16) : (arrS s y h)[8 + k]? = some (.int .u8 (y k)) := by
  have : k = 0 ∨ k = 1 ∨ k = 2 ∨ k = 3 ∨ k = 4 ∨ k = 5 ∨ k = 6 ∨ k = 7 ∨ k = 8 ∨ k = 9 ∨ k = 10 ∨ k = 11 ∨ k = 12 ∨ k = 13 ∨ k = 14 ∨ k = 15 := by omega
  rcases this with rfl | rfl | rfl | rfl | rfl | rfl | rfl | rfl | rfl | rfl | rfl | rfl | rfl | rfl | rfl | rfl <;> rfl
theorem arrS_out (s : W8) (y z : Nat → Int) (h : Int) {i : Nat} (hi : i < 8 ∨ 24 ≤ i) : (arrS s y h)[i]? = (arrS s z h)[i]? := by
  rcases hi with hi | hi
  · have : i = 0 ∨ i = 1 ∨ i = 2 ∨ i = 3 ∨ i = 4 ∨ i = 5 ∨ i = 6 ∨ i = 7 := by omega
    rcases this with rfl | rfl | rfl | rfl | rfl | rfl | rfl | rfl <;> rfl
  · by_cases e : i = 24
    · subst e; rfl
    · have hs : ∀ y, (arrS s y h).size = 25 := fun y => rfl
      rw [Array.getElem?_eq_none (by rw [hs]; omega), Array.getElem?_eq_none (by rw [hs]; omega)]
theorem byI_get {L : List UInt8} {j : Nat} {b : UInt8} (h : L[j]? = some b) : byI L j = (b.toNat : Int) := by
  unfold byI; rw [List.getD_eq_getElem?_getD, h]; rfl
theorem arrS_copy (s : W8) (y : Nat → Int) (h : Int) (q : Nat) (L : List UInt8) (hq : q + L.length ≤ 16) :
    ((arrS s y h).toList.take (8 + q) ++ L.map bv ++ (arrS s y h).toList.drop (8 + q + (L.map bv).length)).toArray = arrS s (laid y q L) h := by
  apply Array.ext_getElem?
  intro i
  have hs : (arrS s y h).toList.length = 25 := rfl
  rw [List.getElem?_toArray, List.length_map]
  by_cases h1 : i < 8 + q
  · rw [List.append_assoc, List.getElem?_append_left (by rw [List.length_take]; omega), List.getElem?_take, if_pos h1, Array.getElem?_toList]
    by_cases h8 : i < 8
    · exact arrS_out _ _ _ _ (.inl h8)
    · obtain ⟨k, rfl⟩ : ∃ k, i = 8 + k := ⟨i - 8, by omega⟩
      rw [arrS_get s y h (by omega), arrS_get s _ h (by omega)]
      unfold laid; rw [if_neg (by omega)]
  · have hl1 : ((arrS s y h).toList.take (8 + q)).length = 8 + q := by rw [List.length_take]; omega
    by_cases h2 : i < 8 + q + L.length
    · rw [List.append_assoc, List.getElem?_append_right (by omega), hl1, List.getElem?_append_left (by rw [List.length_map]; omega), List.getElem?_map]
      obtain ⟨k, rfl⟩ : ∃ k, i = 8 + k := ⟨i - 8, by omega⟩
      rw [arrS_get s _ h (by omega)]
      have hk : 8 + k - (8 + q) = k - q := by omega
      rw [hk, List.getElem?_eq_getElem (by omega : k - q < L.length), Option.map_some]
      unfold laid bv
      rw [if_pos (by omega), byI_get (List.getElem?_eq_getElem (by omega : k - q < L.length))]
    · rw [List.getElem?_append_right (by rw [List.length_append, hl1, List.length_map]; omega), List.length_append, hl1, List.length_map, List.getElem?_drop, show 8 + q + L.length + (i - (8 + q + L.length)) = i by omega, Array.getElem?_toList]
      by_cases h24 : 24 ≤ i
      · exact arrS_out _ _ _ _ (.inr h24)
      · obtain ⟨k, rfl⟩ : ∃ k, i = 8 + k := ⟨i - 8, by omega⟩
        rw [arrS_get s y h (by omega), arrS_get s _ h (by omega)]
        unfold laid; rw [if_neg (by omega)]
theorem arrS_have (s : W8) (y : Nat → Int) (h h' : Int) : (arrS s y h).setIfInBounds 24 (.int .i64 h') = arrS s y h' := rfl
/-- copy, at a step of a region that draws its order. -/
theorem step_copy {P : Program} {ops : Array Oper} {o : Oper} {a : Act} {w w' : World} {K : Act → World → Prop} {Q : Exit → Act → World → Prop} {E : Prop} (hgd : o.guard = none) (x y : Operand) (t1 t2 : TypeId)
    (ho : o.op = .call { callee := .builtin .copy, args := #[x, y], argTypes := #[t1, t2] }) {u v r : Value} (hx : a.eval x = u) (hy : a.eval y = v) (hr : (Builtin.copy_ #[t1, t2] o.type #[u, v]).run P w = .ok r w') (h : K (a.put o.dst r) w') :
    if Region.wanted o (yielded ops a.tmps) = true then Oper.wp P o a w K Q else E := by
  rw [if_pos (by simp [Region.wanted, hgd])]
  unfold Oper.wp
  have : (execOp a.eval o).run P w = .ok (.value r) w' := by
    simp only [execOp, ho, resolve, Sem.run_bind, Sem.run_pure, Result.andThen_ok, invoke, List.map_toArray, List.map_cons, List.map_nil, hx, hy]
    simp [builtin, hr, Result.andThen]
  rw [this]
  exact h
end Go.Proofs.Ytgccbfkofkohpaa
namespace Go.Proofs.Ytgccbfkofkohpaa
set_option linter.unusedVariables false
set_option maxRecDepth 20000
set_option linter.unusedSimpArgs false
open Go.ChangeShapes Go.WideShapes Go.ChangeAt Go.RowKit Go.Shelf
attribute [local go_sem] Oper.semAt_some

theorem elem_u8s : Try.prog.elem 43 = 5 := by kernel_rfl
theorem sizeOf_u8 (w : World) : (sizeOf 5).run Try.prog w = .ok 1 w := by kernel_rfl
def cutA (A : Option Addr) (c k : Nat) : Option Addr := if c = k then A else A.map (·.add k)
theorem slice_from (w : World) (A : Option Addr) (n c k : Nat) (hk : k ≤ n) : (Instr.sliceAt 43 (.slice A n c) (some (.int .i64 (k : Int))) none none).run Try.prog w = .ok (.slice (cutA A c k) (n - k) (c - k)) w := by
  have hu : Try.prog.underlying 43 = some (.slice (Try.prog.elem 43)) := by rw [elem_u8s]; exact Try.underlying43
  rw [run_sliceAt_slice _ _ _ _ _ _ hu, run_slice_l _ _ _ _ _ hu .i64 k (by omega) (by omega), elem_u8s, sizeOf_u8]
  simp only [Result.andThen_ok, sliced, Int.toNat_natCast, Nat.mul_one, cutA]
theorem Src.cut {N p : Nat} {w : World} {A : Option Addr} {r : List UInt8} (h : Src N p w A r) {c k : Nat} (hc : r.length ≤ c) : Src N p w (cutA A c k) (r.drop k) := fun hp => by
  rw [List.length_drop] at hp
  obtain ⟨b, o, e, h1, h2, h3⟩ := h (by omega)
  refine ⟨b, o + k, ?_, h1, h2, fun j x hx => ?_⟩
  · unfold cutA
    rw [if_neg (by omega), e]
    simp only [Option.map_some, addr_add]
  · rw [List.getElem?_drop] at hx
    have := h3 (k + j) x hx
    rwa [show o + (k + j) = o + k + j by omega] at this
/-- The bytes that are left, read off the world: the loop's measure. -/
def restW (bx : Nat) (w : World) : Nat := match w.cell? ⟨bx, 0, none⟩ with
  | some (.slice _ n _) => n
  | _ => 0
theorem copy_wait (W : World) (N p : Nat) (A : Option Addr) (r : List UInt8) (n c : Nat) (hr : r.length = n) (hS : Src N p W A r) (s : W8) (y : Nat → Int) (h k m mc : Nat) (hb : Blk W p 138 (arrS s y (h : Int))) (hk : k = min m n) (hm : h + m = 16) (hA : A = none → c = 0) :
    ∃ W2, (Builtin.copy_ #[43, 43] 3 #[.slice (some ⟨p, 8 + h, none⟩) m mc, .slice A n c]).run Try.prog W = .ok (.int .i64 (k : Int)) W2 ∧ Blk W2 p 138 (arrS s (laid y h (r.take k)) (h : Int)) ∧ W.grownBy W2 (some p) := by
  subst hr
  by_cases h0 : r.length = 0
  · obtain rfl : r = [] := List.eq_nil_of_length_eq_zero h0
    obtain rfl : k = 0 := by simpa using hk
    refine ⟨W, run_copy_none (P := Try.prog) W 43 43 3 5 _ A m mc 0 c Try.underlying43 size_u8 (by simp), ?_, World.grownBy.refl _ _⟩
    have e : laid y h (([] : List UInt8).take 0) = y := by funext j; unfold laid; rw [if_neg (by simp)]
    rw [e]; exact hb
  · obtain ⟨b, o, rfl, h1, h2, h3⟩ := hS (by omega)
    have hk2 : (r.take k).length = k := by rw [List.length_take]; omega
    have hrun := run_copy_row (P := Try.prog) W 43 43 3 5 p (8 + h) m mc ⟨b, o, none⟩ r.length c (arrS s y (h : Int)) 138 ((r.take k).map bv) Try.underlying43 size_u8 hb (by rw [List.length_map, hk2, hk, Nat.min_comm])
      (fun j v hj => by
        rw [List.getElem?_map] at hj
        obtain ⟨x, hx, rfl⟩ := Option.map_eq_some_iff.1 hj
        rw [List.getElem?_take] at hx
        split at hx
        · rw [addr_add]; exact h3 j x hx
        · cases hx) (by rw [List.length_map, hk2]; show 8 + h + k ≤ 25; omega) (fun v hv => by
        obtain ⟨x, _, rfl⟩ := List.mem_map.1 hv
        rfl)
    rw [List.length_map, hk2] at hrun
    refine ⟨_, hrun, ?_, grown_setRow _ _ _⟩
    have := setRow_heap W p (arrS s y (h : Int)) ((arrS s y (h : Int)).toList.take (8 + h) ++ (r.take k).map bv ++ (arrS s y (h : Int)).toList.drop (8 + h + k)).toArray 138 (0, 0) hb
    have e := arrS_copy s y (h : Int) h (r.take k) (by omega)
    rw [List.length_map, hk2] at e
    unfold Blk
    rw [this, e]
theorem Kp.undrew {N p : Nat} {a b : World} (h : Kp N p a.drew b) : Kp N p a b := ⟨h.os, h.tape, h.output, h.size, h.block⟩
theorem Kp.set {N p : Nat} {w : World} {a : Addr} (v : Value) (h : a.block = p ∨ N ≤ a.block) (hN : N ≤ w.heap.size) : Kp N p w (w.setCell a v) :=
  Kp.grown (grown_set (World.grownBy.refl w (some a.block)) rfl v) hN h
theorem RecAt.set {l D : Nat} {o1 o2 : Obj} {w : World} {a : Addr} (h : RecAt l D o1 o2 w) (v : Value) (hl : l ≠ a.block) (hD : D ≠ a.block) : RecAt l D o1 o2 (w.setCell a v) :=
  ⟨(Below.heap_setCell w a v l hl).trans h.1, (Below.heap_setCell w a v D hD).trans h.2.1, h.2.2⟩
theorem RecAt.grown {l D r : Nat} {o1 o2 : Obj} {w w' : World} (h : RecAt l D o1 o2 w) (hg : w.grownBy w' (some r)) (hl : l ≠ r) (hD : D ≠ r) : RecAt l D o1 o2 w' :=
  ⟨(hg.block l (Array.getElem?_eq_some_iff.1 h.1).1 (fun e => by cases e; exact hl rfl)).trans h.1, (hg.block D (Array.getElem?_eq_some_iff.1 h.2.1).1 (fun e => by cases e; exact hD rfl)).trans h.2.1, h.2.2⟩
theorem arrS_sub16 (s : W8) (y : Nat → Int) (h : Int) : ∀ (j : Nat) (v : Value), (arr16 y)[j]? = some v → (arrS s y h)[8 + j]? = some v := by
  intro j v hv
  have hj : j < 16 := (Array.getElem?_eq_some_iff.1 hv).1
  have : j = 0 ∨ j = 1 ∨ j = 2 ∨ j = 3 ∨ j = 4 ∨ j = 5 ∨ j = 6 ∨ j = 7 ∨ j = 8 ∨ j = 9 ∨ j = 10 ∨ j = 11 ∨ j = 12 ∨ j = 13 ∨ j = 14 ∨ j = 15 := by omega
  rcases this with rfl | rfl | rfl | rfl | rfl | rfl | rfl | rfl | rfl | rfl | rfl | rfl | rfl | rfl | rfl | rfl <;> exact hv
theorem load_wait {w : World} {p : Nat} {s : W8} {y : Nat → Int} {h : Int} (hb : Blk w p 138 (arrS s y h)) : (Instr.loadAt 60 (.pointer (some ⟨p, 8, none⟩))).run Try.prog w = .ok (.agg (arr16 y)) w :=
  run_load_sub w _ p 8 _ _ (arr16 y) _ hb (arrS_sub16 s y h) Try.underlying60 rfl size16
set_option maxHeartbeats 8000000 in
set_option maxRecDepth 100000 in
theorem blocks1_any (N p bx b2 l D : Nat) (o1 o2 : Obj) (W0 : World) (s0 : W8) (l0 : List UInt8) (A0 : Option Addr) (c0 : Nat) (r0 : List UInt8) (hbx : N ≤ bx) (hb2 : N ≤ b2) (hl : N ≤ l) (hD : N ≤ D) (hx2 : bx ≠ b2) (hxl : bx ≠ l) (hxD : bx ≠ D) (hpN : p < N) (hNW : N ≤ W0.heap.size)
    (hS0 : SpAt W0 p s0 l0) (hR0 : Src N p W0 A0 r0) (hB0 : Blk W0 bx 43 #[.slice A0 r0.length c0]) (hP0 : Blk W0 b2 126 #[.pointer (some ⟨p, 0, none⟩)]) (hc0 : r0.length ≤ c0) (hm0 : c0 ≤ maxLen) (hA0 : A0 = none → c0 = 0) (hrec : RecAt l D o1 o2 W0)
    (hY : ∀ (s : W8) (y : Nat → Int) (W : World), s.ok → (∀ k, 0 ≤ y k ∧ y k < 256) → Blk W p 138 (arrS s y 0) → RecAt l D o1 o2 W → Kp N p W0 W →
      YieldAt Fence.wide 1 Try.prog l #[.agg (arr16 y)] W fun e W' => e = .returned (.bool true) ∧ RecAt l D o1 o2 W' ∧ (Kp N p W W' ∧ W'.heap[bx]? = W.heap[bx]? ∧ W'.heap[b2]? = W.heap[b2]? ∧ Blk W' p 138 (arrS (takeW y s) y 0))) :
    CallsIn Fence.wide 2 Try.prog 118 #[.func (.yield l) #[] #[], .pointer (some ⟨bx, 0, none⟩), .pointer (some ⟨b2, 0, none⟩)] W0 fun e W' => (∃ v, e = .returned v) ∧ RecAt l D o1 o2 W' ∧ SpAt W' p (feed s0 (l0 ++ r0)).1 (feed s0 (l0 ++ r0)).2 ∧ Kp N p W0 W' := by
  obtain ⟨T, hT⟩ : ∃ T, T = feed s0 (l0 ++ r0) := ⟨_, rfl⟩
  rw [← hT]
  have HT := hid hT
  clear hT
  refine callsIn_wide.2 ?_
  go_enter Try.func118, Try.ntmps118
  go_wp2
  go_loopw [4] (fun z wr => ∃ (s : W8) (l' : List UInt8) (A : Option Addr) (c : Nat) (r : List UInt8), SpAt wr p s l' ∧ Src N p W0 A r ∧ Blk wr bx 43 #[.slice A r.length c] ∧ Blk wr b2 126 #[.pointer (some ⟨p, 0, none⟩)] ∧ r.length ≤ c ∧ c ≤ maxLen ∧ (A = none → c = 0) ∧ RecAt l D o1 o2 wr ∧ Kp N p W0 wr ∧ Hid (T = feed s (l' ++ r))) (fun _ wr => restW bx wr)
  case atStart => exact ⟨s0, l0, A0, c0, r0, hS0, hR0, hB0, hP0, hc0, hm0, hA0, hrec, Kp.refl _ _ _, HT⟩
  case round =>
    obtain ⟨s, l', A, c, r, hS, hR, hB, hP, hc, hm, hA, hre, hK, hTr⟩ := hrel
    clear hS0 hR0 hB0 hP0 hc0 hm0 hA0 hrec HT
    obtain ⟨n, hn⟩ : ∃ n, r.length = n := ⟨_, rfl⟩
    rw [hn] at hB hc
    unfold maxLen at hm
    have cB : wr.cell? ⟨bx, 0, none⟩ = some (.slice A n c) := hB.cell (k := 0) rfl
    have fB := hB.frozen 0
    have cP : wr.cell? ⟨b2, 0, none⟩ = some (.pointer (some ⟨p, 0, none⟩)) := hP.cell (k := 0) rfl
    obtain ⟨y, hy, hyl, hb, hsok, hl16⟩ := hS
    obtain ⟨h, hh⟩ : ∃ h, l'.length = h := ⟨_, rfl⟩
    rw [hh] at hb hl16
    by_cases h0 : n = 0
    · subst h0
      obtain rfl : r = [] := List.eq_nil_of_length_eq_zero hn
      have HH := hid hh
      have HN := hid hn
      clear hh hn
      go_wp2
      go_end0
      refine ⟨⟨_, rfl⟩, hre, ?_, hK⟩
      rw [hTr.out, List.append_nil, feed_lt (by rw [HH.out]; exact hl16)]
      exact ⟨y, hy, hyl, by rw [HH.out]; exact hb, hsok, by rw [HH.out]; exact hl16⟩
    · have h1n : 0 < n := by omega
      obtain ⟨k, m, hm16, hk⟩ : ∃ k m : Nat, h + m = 16 ∧ k = min m n := ⟨_, 16 - h, by omega, rfl⟩
      have hkn : k ≤ n := by omega
      have hkm : k ≤ m := by omega
      have hk0 : 0 < k := by omega
      obtain ⟨W2, hcp, hb2', hg2⟩ := copy_wait wr.drew N p A r n c hn (fun hp => (hR.kp hK) hp) s y h k m m hb.drew hk hm16 hA
      have hc24 : wr.cell? ⟨p, 24, none⟩ = some (.int .i64 (h : Int)) := hb.cell (k := 24) rfl
      have hh0 : (0 : Int) ≤ (h : Int) := Int.natCast_nonneg _
      have hh1 : (h : Int) ≤ 16 := by omega
      have hm1 : 16 - h = m := by omega
      have h16 : ¬ 16 = h := by omega
      have hpb : p ≠ bx := by omega
      have hpb' : bx ≠ p := by omega
      have hsl := fun w => slice_from w A n c k hkn
      have bB2 : Blk W2 bx 43 #[.slice A n c] := (hg2.block bx (by have := hB.lt; simpa using this) (fun e => by cases e; omega)).trans hB
      have bP2 : Blk W2 b2 126 #[.pointer (some ⟨p, 0, none⟩)] := (hg2.block b2 (by have := hP.lt; simpa using this) (fun e => by cases e; omega)).trans hP
      have cB2 : W2.cell? ⟨bx, 0, none⟩ = some (.slice A n c) := bB2.cell (k := 0) rfl
      have fB2 := bB2.frozen 0
      have cP2 : W2.cell? ⟨b2, 0, none⟩ = some (.pointer (some ⟨p, 0, none⟩)) := bP2.cell (k := 0) rfl
      have cH2 : W2.cell? ⟨p, 24, none⟩ = some (.int .i64 (h : Int)) := hb2'.cell (k := 24) rfl
      have fH2 := hb2'.frozen 24
      have HCP := hid hcp
      have HH := hid hh
      have HN := hid hn
      have HK := hid hk
      clear hcp hh hn hk h0
      go_wp2_with fail
      go_region_held3 (fun w' => w'.cell? ⟨bx, 0, none⟩ = some (.slice A n c) ∧ w'.cell? ⟨b2, 0, none⟩ = some (.pointer (some ⟨p, 0, none⟩)) ∧ w'.cell? ⟨p, 24, none⟩ = some (.int .i64 (h : Int))) (first | go_keep | exact ⟨cB2, cP2, cH2⟩)
        ((refine step_copy (by rfl) _ _ _ _ (by rfl) (by rfl) (by rfl) HCP.out ?_))
      have hcase : (h + k < 16 ∧ k = n) ∨ h + k = 16 := by have := HK.out; omega
      have hNr : N ≤ wr.heap.size := Nat.le_trans hNW hK.size
      have hN2 : N ≤ W2.heap.size := Nat.le_trans hNr hg2.size
      have r2 : RecAt l D o1 o2 W2 := RecAt.grown (w := wr.drew) hre hg2 (by omega) (by omega)
      have K2 : Kp N p W0 W2 := hK.trans (Kp.undrew (Kp.grown hg2 hNr (.inl rfl)))
      obtain ⟨Y, hY2⟩ : ∃ Y, Y = laid y h (r.take k) := ⟨_, rfl⟩
      have Yb : ∀ j, 0 ≤ Y j ∧ Y j < 256 := fun j => by rw [hY2]; exact laid_bd hy h _ j
      have Yl : ∀ j, j < (l' ++ r.take k).length → Y j = byI (l' ++ r.take k) j := fun j hj => by
        rw [hY2, ← HH.out]
        exact laid_at hyl j hj
      rw [← hY2] at hb2'
      have YB := hid Yb
      have YL := hid Yl
      clear HCP hY2 Yb Yl hyl hy
      obtain ⟨W3, hW3⟩ : ∃ W3, W3 = W2.setCell ⟨bx, 0, none⟩ (.slice (cutA A c k) (n - k) (c - k)) := ⟨_, rfl⟩
      have b3 : Blk W3 p 138 (arrS s Y (h : Int)) := by rw [hW3]; exact (Below.heap_setCell W2 _ _ p hpb).trans hb2'
      have B3 : Blk W3 bx 43 #[.slice (cutA A c k) (n - k) (c - k)] := by rw [hW3]; exact bB2.set 0 _ rfl
      have P3 : Blk W3 b2 126 #[.pointer (some ⟨p, 0, none⟩)] := by rw [hW3]; exact (Below.heap_setCell W2 _ _ b2 (fun e => hx2 e.symm)).trans bP2
      have r3 : RecAt l D o1 o2 W3 := by rw [hW3]; exact r2.set _ (fun e => hxl e.symm) (fun e => hxD e.symm)
      have K3 : Kp N p W0 W3 := by rw [hW3]; exact K2.trans (Kp.set _ (.inr hbx) hN2)
      have hN3 : N ≤ W3.heap.size := Nat.le_trans hNW K3.size
      have HW3 := hid hW3
      have b4 := fun v => b3.set 24 (.int .i64 v) (arrS_have s Y (h : Int) v)
      have B4 := fun v => (Below.heap_setCell W3 ⟨p, 24, none⟩ (.int .i64 v) bx hpb').trans B3
      have P4 := fun v => (Below.heap_setCell W3 ⟨p, 24, none⟩ (.int .i64 v) b2 (by simp only; omega)).trans P3
      have r4 := fun v => r3.set (a := ⟨p, 24, none⟩) (.int .i64 v) (by simp only; omega) (by simp only; omega)
      have K4 := fun v => K3.trans (Kp.set (a := ⟨p, 24, none⟩) (.int .i64 v) (.inl rfl) hN3)
      have B4 := hid B4
      have P4 := hid P4
      have b4 := hid b4
      have r4 := hid r4
      have K4 := hid K4
      clear hW3 r2 K2 b3 B3 P3 r3 K3
      rcases hcase with ⟨hlt, hkn2⟩ | heq
      · have hd : decide ((h : Int) + (k : Int) < 16) = true := by rw [decide_eq_true_iff]; omega
        have HKN := hid hkn2
        clear hkn2
        go_wp2
        refine bodyPost_ret (results_none rfl _ _ _) rfl ⟨⟨_, rfl⟩, ?_, ?_, ?_⟩
        · rw [← HW3.out]; exact r4.out _
        · have et : r.take k = r := List.take_of_length_le (by rw [HN.out, HKN.out]; exact Nat.le_refl _)
          have el : (l' ++ r).length = h + k := by rw [List.length_append, HH.out, HN.out, HKN.out]
          rw [hTr.out, feed_lt (by rw [el]; exact hlt), ← HW3.out]
          refine ⟨Y, YB.out, fun j hj => by have := YL.out j; rw [et] at this; exact this hj, ?_, hsok, by rw [el]; exact hlt⟩
          rw [el]
          have := b4.out ((h : Int) + (k : Int))
          rw [show ((h + k : Nat) : Int) = (h : Int) + (k : Int) by omega]
          exact this
        · rw [← HW3.out]; exact K4.out _
      · have hd : decide ((h : Int) + (k : Int) < 16) = false := by rw [decide_eq_false_iff_not]; omega
        go_upto_region 6 with (fail)
        have b5 : Blk ((W3.setCell ⟨p, 24, none⟩ (.int .i64 ((h : Int) + (k : Int)))).setCell ⟨p, 24, none⟩ (.int .i64 0)) p 138 (arrS s Y 0) := (b4.out _).set 24 _ (arrS_have s Y _ 0)
        have B5 := (Below.heap_setCell (W3.setCell ⟨p, 24, none⟩ (.int .i64 ((h : Int) + (k : Int)))) ⟨p, 24, none⟩ (.int .i64 0) bx hpb').trans (B4.out _)
        have P5 := (Below.heap_setCell (W3.setCell ⟨p, 24, none⟩ (.int .i64 ((h : Int) + (k : Int)))) ⟨p, 24, none⟩ (.int .i64 0) b2 (by simp only; omega)).trans (P4.out _)
        have r5 := (r4.out ((h : Int) + (k : Int))).set (a := ⟨p, 24, none⟩) (.int .i64 0) (by simp only; omega) (by simp only; omega)
        have K5 := (K4.out ((h : Int) + (k : Int))).trans (Kp.set (a := ⟨p, 24, none⟩) (.int .i64 0) (.inl rfl) (Nat.le_trans hNW (K4.out _).size))
        rw [HW3.out] at b5 B5 P5 r5 K5
        clear b4 B4 P4 r4 K4 HW3 hd
        generalize World.setCell (World.setCell (World.setCell _ _ _) _ _) _ _ = W5 at *
        refine (wpIn_wide (n := 2)).1 ?_
        have c5 : W5.cell? ⟨b2, 0, none⟩ = some (.pointer (some ⟨p, 0, none⟩)) := Blk.cell (k := 0) P5 rfl
        have hld := load_wait b5
        obtain ⟨fn, tmps, assign, body, hyy, hRo⟩ := hY s Y W5 hsok YB.out b5 r5 K5
        gi_wp2_with (refine wpListIn_load_run rfl _ _ rfl rfl hld ?_)
        refine hRo.mono ?_
        rintro e W6 ⟨rfl, r6, K6, e6x, e6b, b6⟩
        gi_wp2
        go_wp2
        go_roundw
        case rel =>
          have ed : (r.drop k).length = n - k := by rw [List.length_drop, HN.out]
          have el : (l' ++ r.take k).length = 16 := by rw [List.length_append, HH.out, List.length_take, HN.out]; omega
          refine ⟨takeW Y s, [], cutA A c k, c - k, r.drop k, ⟨Y, YB.out, fun j hj => absurd hj (by simp), b6, ok_takeW hsok, by decide⟩, hR.cut (by rw [HN.out]; exact hc), ?_, e6b.trans P5, by rw [ed]; omega, by unfold maxLen; omega, fun h => ?_, r6, K5.trans K6, hid ?_⟩
          · rw [ed]; exact e6x.trans B5
          · unfold cutA at h
            split at h
            · omega
            · have : A = none := by cases A <;> simp_all
              have := hA this; omega
          · rw [hTr.out, List.nil_append]
            have e1 : l' ++ r = (l' ++ r.take k) ++ r.drop k := by rw [List.append_assoc, List.take_append_drop]
            rw [e1, feed_block el, takeW_congr s (fun j hj => (YL.out j (by rw [el]; exact hj)).symm)]
        case measure =>
          have c6 : W6.cell? ⟨bx, 0, none⟩ = some (.slice (cutA A c k) (n - k) (c - k)) := Blk.cell (k := 0) (e6x.trans B5) rfl
          have f1 : restW bx W6 = n - k := by unfold restW; rw [c6]
          have f2 : restW bx wr = n := by unfold restW; rw [cB]
          rw [f1, f2]; omega
end Go.Proofs.Ytgccbfkofkohpaa
