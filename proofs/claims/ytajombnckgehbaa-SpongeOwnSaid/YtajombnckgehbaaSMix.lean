/- sponge.Mix, sentinelref3.Mix. -/
import Derived.Test.YtajombnckgehbaaSQuarter
namespace Go.Proofs.Ytajombnckgehbaa
set_option linter.unusedVariables false
set_option linter.unusedSimpArgs false
open Go.ChangeShapes Go.WideShapes Go.ChangeAt Go.RowKit

section
variable {P : Program}
theorem run_load_blk (w : World) (ty : TypeId) (g : Nat) (t : TypeId) (c : Array Value) (d : TypeDesc) (hg : Blk w g t c) (hu : P.underlying ty = some d)
    (hd : (match d with | .struct _ | .array _ _ => true | _ => false) = true) (hi : (P.info? ty).map (·.size) = some c.size) : (Instr.loadAt ty (.pointer (some ⟨g, 0, none⟩))).run P w = .ok (.agg c) w := by
  simp only [Instr.loadAt, Instr.sureAddr, Sem.run_bind, Sem.run_pure, Result.andThen_ok]
  exact run_loadVar_row w g t ty c (0, 0) d hg hu hd hi
theorem run_store_blk (w : World) (ty : TypeId) (g : Nat) (c : Array Value) (hc : c.all (·.oneCell') = true) (cs : Array Value) (hcs : cs.size = c.size) (hg : w.heap[g]? = some (.cells cs ty (0, 0)))
    (hi : (P.info? ty).map (·.size) = some c.size) : (Instr.storeAt ty (.pointer (some ⟨g, 0, none⟩)) (.agg c)).run P w = .ok () (w.setRow g c) := by
  simp only [Instr.storeAt, Instr.sureAddr, Sem.run_bind, Sem.run_pure, Result.andThen_ok]
  exact run_storeVar_row w g ty ty cs c hg hi hcs hc
theorem wpList_store_blk {ops : Array Oper} {rest : List Oper} {o : Oper} {a : Act} {w : World} {Q : Exit → Act → World → Prop} (hgd : o.guard = none) (ty : TypeId) (x y : Operand) (ho : o.op = .store ty x y)
    (g : Nat) (hx : a.eval x = .pointer (some ⟨g, 0, none⟩)) (c : Array Value) (hy : a.eval y = .agg c) (hc : c.all (·.oneCell') = true) (cs : Array Value) (hg : Blk w g ty cs) (hcs : cs.size = c.size)
    (hi : (P.info? ty).map (·.size) = some c.size)
    (h : ∀ w', w.grownBy w' (some g) → Blk w' g ty c → wpList P ops Q rest (a.put o.dst undef) w') : wpList P ops Q (o :: rest) a w :=
  wpList_plain hgd fun K hK => by
    unfold Oper.wp execOp
    simp only [ho, hx, hy, Sem.run_bind, run_store_blk w ty g c hc cs hcs hg hi, Result.andThen_ok, Sem.run_pure]
    exact hK _ _ (h _ (grown_setRow _ _ _) (setRow_heap w g cs c ty (0, 0) hg))
theorem wpList_load_blk {ops : Array Oper} {rest : List Oper} {o : Oper} {a : Act} {w : World} {Q : Exit → Act → World → Prop} (hw : Region.wanted o (yielded ops a.tmps) = true) (ty : TypeId) (x : Operand) (ho : o.op = .load ty x)
    (g : Nat) (hx : a.eval x = .pointer (some ⟨g, 0, none⟩)) (t : TypeId) (c : Array Value) (d : TypeDesc) (hg : Blk w g t c) (hu : P.underlying ty = some d)
    (hd : (match d with | .struct _ | .array _ _ => true | _ => false) = true) (hi : (P.info? ty).map (·.size) = some c.size)
    (h : wpList P ops Q rest (a.put o.dst (.agg c)) w) : wpList P ops Q (o :: rest) a w :=
  wpList_want hw fun K hK => wp_load_row ty x ho g hx t c (0, 0) d hg hu hd hi (hK _ _ h)
theorem results_blk {fn : Func} {p : Tmp} {ty : TypeId} (h : fn.results = #[.cell p ty]) {tmps : Array Value} {w : World} {g : Nat} {t : TypeId} {c : Array Value} {d : TypeDesc}
    (hp : tmps.getD p undef = .pointer (some ⟨g, 0, none⟩)) (hg : Blk w g t c)
    (hu : P.underlying ty = some d) (hd : (match d with | .struct _ | .array _ _ => true | _ => false) = true) (hi : (P.info? ty).map (·.size) = some c.size) :
    (results fn tmps).run P w = .ok (.agg c) w :=
  results_cell_row h tmps w g t c (0, 0) d hp hg hu hd hi
end
structure W8 where
  (x0 x1 x2 x3 x4 x5 x6 x7 : Int)
def W8.ok (s : W8) : Prop := (0 ≤ s.x0 ∧ s.x0 < 4294967296) ∧ (0 ≤ s.x1 ∧ s.x1 < 4294967296) ∧ (0 ≤ s.x2 ∧ s.x2 < 4294967296) ∧ (0 ≤ s.x3 ∧ s.x3 < 4294967296) ∧ (0 ≤ s.x4 ∧ s.x4 < 4294967296) ∧ (0 ≤ s.x5 ∧ s.x5 < 4294967296) ∧ (0 ≤ s.x6 ∧ s.x6 < 4294967296) ∧ (0 ≤ s.x7 ∧ s.x7 < 4294967296)
def arrW (s : W8) : Array Value := #[Value.int .u32 s.x0, .int .u32 s.x1, .int .u32 s.x2, .int .u32 s.x3, .int .u32 s.x4, .int .u32 s.x5, .int .u32 s.x6, .int .u32 s.x7]
theorem arrW_one (s : W8) : (arrW s).all (·.oneCell') = true := by simp [arrW, Value.oneCell']
theorem size8 : (Try.prog.info? 25).map (·.size) = some 8 := by kernel_rfl
theorem sizeW (s : W8) : (Try.prog.info? 25).map (·.size) = some (arrW s).size := size8
def W8.r (s : W8) (k : Nat) : W8 := { s with x0 := xorW s.x0 ((k : Int) + 1) }
theorem ok_r {s : W8} (h : s.ok) (k : Nat) : (s.r k).ok := by
  obtain ⟨h0, h1, h2, h3, h4, h5, h6, h7⟩ := h
  exact ⟨xorW_bd _ _, h1, h2, h3, h4, h5, h6, h7⟩
def W8.p0 (s : W8) : W8 := { s with x0 := qa s.x0 s.x1 s.x2 s.x3, x1 := qb s.x0 s.x1 s.x2 s.x3, x2 := qc s.x0 s.x1 s.x2 s.x3, x3 := qd s.x0 s.x1 s.x2 s.x3 }
theorem ok_p0 {s : W8} (h : s.ok) : s.p0.ok := by
  obtain ⟨h0, h1, h2, h3, h4, h5, h6, h7⟩ := h
  exact ⟨qa_bd _ _ _ _, qb_bd _ _ _ _, qc_bd _ _ _ _, qd_bd _ _ _ _, h4, h5, h6, h7⟩
theorem quarter_w0 (s : W8) (h : s.ok) (b : Nat) (t : TypeId) (w : World) (hb : Blk w b t (arrW s)) :
    Calls Try.prog 35 #[.pointer (some ⟨b, 0, none⟩), .pointer (some ⟨b, 1, none⟩), .pointer (some ⟨b, 2, none⟩), .pointer (some ⟨b, 3, none⟩)] w fun e w' => e = .returned (.tuple #[]) ∧ w.grownBy w' (some b) ∧ Blk w' b t (arrW s.p0) := by
  obtain ⟨h0, h1, h2, h3, h4, h5, h6, h7⟩ := h
  exact quarter_p0 b t _ _ _ _ _ _ _ _ h0 h1 h2 h3 h4 h5 h6 h7 w hb
def W8.p1 (s : W8) : W8 := { s with x4 := qa s.x4 s.x5 s.x6 s.x7, x5 := qb s.x4 s.x5 s.x6 s.x7, x6 := qc s.x4 s.x5 s.x6 s.x7, x7 := qd s.x4 s.x5 s.x6 s.x7 }
theorem ok_p1 {s : W8} (h : s.ok) : s.p1.ok := by
  obtain ⟨h0, h1, h2, h3, h4, h5, h6, h7⟩ := h
  exact ⟨h0, h1, h2, h3, qa_bd _ _ _ _, qb_bd _ _ _ _, qc_bd _ _ _ _, qd_bd _ _ _ _⟩
theorem quarter_w1 (s : W8) (h : s.ok) (b : Nat) (t : TypeId) (w : World) (hb : Blk w b t (arrW s)) :
    Calls Try.prog 35 #[.pointer (some ⟨b, 4, none⟩), .pointer (some ⟨b, 5, none⟩), .pointer (some ⟨b, 6, none⟩), .pointer (some ⟨b, 7, none⟩)] w fun e w' => e = .returned (.tuple #[]) ∧ w.grownBy w' (some b) ∧ Blk w' b t (arrW s.p1) := by
  obtain ⟨h0, h1, h2, h3, h4, h5, h6, h7⟩ := h
  exact quarter_p1 b t _ _ _ _ _ _ _ _ h0 h1 h2 h3 h4 h5 h6 h7 w hb
def W8.p2 (s : W8) : W8 := { s with x0 := qa s.x0 s.x5 s.x2 s.x7, x5 := qb s.x0 s.x5 s.x2 s.x7, x2 := qc s.x0 s.x5 s.x2 s.x7, x7 := qd s.x0 s.x5 s.x2 s.x7 }
theorem ok_p2 {s : W8} (h : s.ok) : s.p2.ok := by
  obtain ⟨h0, h1, h2, h3, h4, h5, h6, h7⟩ := h
  exact ⟨qa_bd _ _ _ _, h1, qc_bd _ _ _ _, h3, h4, qb_bd _ _ _ _, h6, qd_bd _ _ _ _⟩
theorem quarter_w2 (s : W8) (h : s.ok) (b : Nat) (t : TypeId) (w : World) (hb : Blk w b t (arrW s)) :
    Calls Try.prog 35 #[.pointer (some ⟨b, 0, none⟩), .pointer (some ⟨b, 5, none⟩), .pointer (some ⟨b, 2, none⟩), .pointer (some ⟨b, 7, none⟩)] w fun e w' => e = .returned (.tuple #[]) ∧ w.grownBy w' (some b) ∧ Blk w' b t (arrW s.p2) := by
  obtain ⟨h0, h1, h2, h3, h4, h5, h6, h7⟩ := h
  exact quarter_p2 b t _ _ _ _ _ _ _ _ h0 h1 h2 h3 h4 h5 h6 h7 w hb
def W8.p3 (s : W8) : W8 := { s with x4 := qa s.x4 s.x1 s.x6 s.x3, x1 := qb s.x4 s.x1 s.x6 s.x3, x6 := qc s.x4 s.x1 s.x6 s.x3, x3 := qd s.x4 s.x1 s.x6 s.x3 }
theorem ok_p3 {s : W8} (h : s.ok) : s.p3.ok := by
  obtain ⟨h0, h1, h2, h3, h4, h5, h6, h7⟩ := h
  exact ⟨h0, qb_bd _ _ _ _, h2, qd_bd _ _ _ _, qa_bd _ _ _ _, h5, qc_bd _ _ _ _, h7⟩
theorem quarter_w3 (s : W8) (h : s.ok) (b : Nat) (t : TypeId) (w : World) (hb : Blk w b t (arrW s)) :
    Calls Try.prog 35 #[.pointer (some ⟨b, 4, none⟩), .pointer (some ⟨b, 1, none⟩), .pointer (some ⟨b, 6, none⟩), .pointer (some ⟨b, 3, none⟩)] w fun e w' => e = .returned (.tuple #[]) ∧ w.grownBy w' (some b) ∧ Blk w' b t (arrW s.p3) := by
  obtain ⟨h0, h1, h2, h3, h4, h5, h6, h7⟩ := h
  exact quarter_p3 b t _ _ _ _ _ _ _ _ h0 h1 h2 h3 h4 h5 h6 h7 w hb
def mixN : Nat → W8 → W8
  | 0, s => s
  | n + 1, s => ((((mixN n s).r n).p0).p1).p2.p3
def mixW (s : W8) : W8 := mixN 8 s
theorem ok_mixN {s : W8} (h : s.ok) : ∀ n, (mixN n s).ok
  | 0 => h
  | n + 1 => ok_p3 (ok_p2 (ok_p1 (ok_p0 (ok_r (ok_mixN h n) n))))
theorem ok_mixW {s : W8} (h : s.ok) : (mixW s).ok := ok_mixN h 8
theorem Blk.cell0 {w : World} {b : Nat} {t : TypeId} {s : W8} (h : Blk w b t (arrW s)) : w.cell? ⟨b, 0, none⟩ = some (.int .u32 s.x0) := h.cell rfl
theorem Blk.setr {w : World} {b : Nat} {t : TypeId} {s : W8} (h : Blk w b t (arrW s)) (k : Nat) : Blk (w.setCell ⟨b, 0, none⟩ (.int .u32 (s.r k).x0)) b t (arrW (s.r k)) := h.set 0 _ rfl
set_option maxHeartbeats 2000000 in
set_option maxRecDepth 100000 in
theorem mix_any (s : W8) (hs : s.ok) (w : World) :
    Calls Try.prog 16 #[.agg (arrW s)] w fun e w' => e = .returned (.agg (arrW (mixW s))) ∧ Below w.heap.size w w' := by
  have OK := hid (ok_mixN hs)
  clear hs
  go_enter Try.func16, Try.ntmps16
  go_wp2
  go_loopw [4] (fun u wr => ∃ k : Nat, k ≤ 8 ∧ u = .int .u32 k ∧ Below w.heap.size w wr ∧ Blk wr w.heap.size 25 (arrW (mixN k s)) ∧ Blk wr (w.heap.size + 1) 25 #[Value.int .u32 0, .int .u32 0, .int .u32 0, .int .u32 0, .int .u32 0, .int .u32 0, .int .u32 0, .int .u32 0]) (fun u _ => 8 - (intOf u).toNat)
  case atStart =>
    refine ⟨0, by omega, rfl, ((Below.refl _ _).alloc (Nat.le_refl _) _).alloc (by simp) _, (Blk.new w _ (arrW s)).alloc _, ?_⟩
    have := Blk.new (w.alloc (.cells (arrW s) 25)) 25 #[Value.int .u32 0, .int .u32 0, .int .u32 0, .int .u32 0, .int .u32 0, .int .u32 0, .int .u32 0, .int .u32 0]
    rw [World.size_alloc] at this
    exact this
  case round =>
    obtain ⟨k, hk, rfl, hB, hb, hz⟩ := hrel
    by_cases hlt : k < 8
    · have c0 := hb.cell0
      have f0 := hb.frozen 0
      have ok := OK.out k
      have o1 := ok.1.1
      have o2 := ok.1.2
      have OK' := hid ok
      clear ok
      have e1 : bits .xor .u32 (mixN k s).x0 ((k : Int) + 1) = ((mixN k s).r k).x0 := by unfold W8.r xorW; rfl
      go_wp2_with fail
      have b1 := hb.setr k
      have g1 := grown_set (p := ⟨w.heap.size, 0, none⟩) (World.grownBy.refl wr (some w.heap.size)) rfl (.int .u32 ((mixN k s).r k).x0)
      generalize World.setCell _ _ _ = v1 at *
      clear c0 f0 e1 o1 o2 hb
      refine (quarter_w0 _ (ok_r OK'.out k) _ _ _ b1).mono ?_
      rintro e v2 ⟨rfl, g2, b2⟩
      go_wp2_with fail
      refine (quarter_w1 _ (ok_p0 (ok_r OK'.out k)) _ _ _ b2).mono ?_
      rintro e v3 ⟨rfl, g3, b3⟩
      go_wp2_with fail
      refine (quarter_w2 _ (ok_p1 (ok_p0 (ok_r OK'.out k))) _ _ _ b3).mono ?_
      rintro e v4 ⟨rfl, g4, b4⟩
      go_wp2_with fail
      refine (quarter_w3 _ (ok_p2 (ok_p1 (ok_p0 (ok_r OK'.out k)))) _ _ _ b4).mono ?_
      rintro e v5 ⟨rfl, g5, b5⟩
      go_wp2_with fail
      go_roundw
      case rel =>
        have n1 : some (w.heap.size + 1) ≠ some w.heap.size := by simp
        have B1 := below_of_grown hB g1 hB.size (Nat.le_refl _)
        have B2 := below_of_grown B1 g2 B1.size (Nat.le_refl _)
        have B3 := below_of_grown B2 g3 B2.size (Nat.le_refl _)
        have B4 := below_of_grown B3 g4 B3.size (Nat.le_refl _)
        exact ⟨k + 1, by omega, by go_num, below_of_grown B4 g5 B4.size (Nat.le_refl _), b5, ((((hz.grown g1 n1).grown g2 n1).grown g3 n1).grown g4 n1).grown g5 n1⟩
      case measure => simp [intOf]; omega
    · have : k = 8 := by omega
      subst this
      go_wp2_with (first | (refine wpList_load_blk rfl _ _ rfl _ rfl _ _ _ hb Try.underlying25 rfl (sizeW _) ?_) | (refine wpList_store_blk rfl _ _ _ rfl _ rfl _ rfl (arrW_one _) _ hz rfl (sizeW _) ?_; intro v gv mv))
      exact bodyPost_ret (results_blk rfl rfl mv Try.underlying25 rfl (sizeW _)) rfl ⟨rfl, below_of_grown hB gv hB.size (by omega)⟩
end Go.Proofs.Ytajombnckgehbaa
