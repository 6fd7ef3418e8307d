/- What VaultGets stands on, part 4. -/
import Derived.Deep.CutRange
import Derived.Test.YtmjbnmbobocpdaaGreatVaultGetsP1
import Derived.Test.YtmjbnmbobocpdaaGreatVaultGetsP2
import Derived.Test.YtmjbnmbobocpdaaGreatVaultGetsP3
set_option maxRecDepth 100000
set_option maxHeartbeats 8000000
set_option linter.unusedVariables false
set_option linter.unusedSimpArgs false
namespace Go.Proofs.YtmjbnmbobocpdaaGreat
open Go.ChangeShapes Go.WideShapes Go.ChangeAt Go.RowKit
def ReIn (R : List (Nat × Res)) : List (Nat × Res) → Prop
  | [] => True
  | p :: L => (∃ q, look R q = some p.2 ∧ (p.2.wr = true → q = p.1)) ∧ ReIn R L
theorem ReIn.at {R : List (Nat × Res)} : ∀ {L : List (Nat × Res)}, ReIn R L → ∀ i r, look L i = some r → ∃ q, look R q = some r ∧ (r.wr = true → q = i)
  | [], _, i, r, h => by cases h
  | p :: L, h, i, r, e => by
    obtain ⟨k, x⟩ := p
    rw [zu] at e
    split at e
    · rename_i hk
      cases e; subst hk; exact h.1
    · exact h.2.at i r e
theorem numI_in (c : List UInt8) : -9223372036854775808 ≤ numI c ∧ numI c < 9223372036854775808 := by
  unfold numI
  split
  · rename_i h
    have := (of_decide_eq_true h).2
    omega
  · omega
theorem readO_lt (c : List UInt8) : zqb c < 4294967296 ^ 8 := by
  unfold zqb
  split
  · rename_i h; exact readN_lt_num h
  · exact Nat.pow_pos (by omega)
end Go.Proofs.YtmjbnmbobocpdaaGreat
namespace Go.Proofs.YtmjbnmbobocpdaaGreat
open Go.ChangeShapes Go.WideShapes Go.ChangeAt Go.RowKit
structure RecN where
  p : Int
  s : ByteArray
  l2 : List UInt8
  a : Nat
  b : Nat
  l5 : List UInt8
  t : Int
  c : Int
  z : Int
structure RecV where
  v2 : Value
  v5 : Value
def recA (r : RecN) (V : RecV) : Array Value := #[.int .i64 r.p, .string r.s, V.v2, numF r.a 0, numF r.a 1, numF r.a 2, numF r.a 3, numF r.a 4, numF r.a 5, numF r.a 6, numF r.a 7, numF r.b 0, numF r.b 1, numF r.b 2, numF r.b 3, numF r.b 4, numF r.b 5, numF r.b 6, numF r.b 7, V.v5, .int .i64 r.t, .int .i64 r.c, .int .i64 r.z]
structure RecIs (w : World) (r : RecN) (V : RecV) : Prop where
  h2 : IsB w r.l2 V.v2
  h5 : IsB w r.l5 V.v5
structure RecOk (r : RecN) : Prop where
  p : -9223372036854775808 ≤ r.p ∧ r.p < 9223372036854775808
  t : -9223372036854775808 ≤ r.t ∧ r.t < 9223372036854775808
  c : -9223372036854775808 ≤ r.c ∧ r.c < 9223372036854775808
  z : -9223372036854775808 ≤ r.z ∧ r.z < 9223372036854775808
  s : r.s.size ≤ 1000
  a : r.a < 4294967296 ^ 8
  b : r.b < 4294967296 ^ 8
theorem zta {w : World} {r : RecN} {V : RecV} (h : RecIs w r V) : (recA r V).all (·.oneCell') = true := by
  obtain ⟨v2, v5⟩ := V
  obtain ⟨A2, c2, rfl⟩ := h.h2.shape
  obtain ⟨A5, c5, rfl⟩ := h.h5.shape
  simp [recA, numF, Value.oneCell']
noncomputable def zka (r : RecN) : Bool := protoB r.p && nameB r.s && decide ((r.l2.length : Int) ≤ 16) && decide ((r.l5.length : Int) ≤ 48) && decide (topI r.a 8 ≤ 32) && decide (topI r.b 8 ≤ 32) && decide (0 ≤ r.t) && decide (r.t ≤ 255) && decide (0 ≤ r.c) && decide (0 ≤ r.z)
theorem keeps_any (r : RecN) (V : RecV) (hs : r.s.size ≤ 1000) (w : World) (hm : RecIs w r V) :
  Calls Tryz.prog 72 #[.agg (recA r V)] w fun e w' => e = .returned (.bool (zka r)) ∧ Below w.heap.size w w' := by
 refine zi (args := [.agg (recA r V)]) 55 Tryz.func72 rfl rfl rfl ?_
 intro fa F
 have M := Mx.start w
 replace M := M.argB 0 hm.h2 (fun g e => by cases e)
 replace M := M.argB 1 hm.h5 (fun g e => by cases e)
 obtain ⟨bP, hP⟩ : ∃ b, protoB r.p = b := ⟨_, rfl⟩
 obtain ⟨bN, hN⟩ : ∃ b, nameB r.s = b := ⟨_, rfl⟩
 refine zT fun _ hK1 => ?_
 refine zh (zb rfl) rfl F rfl M 2 (t := 37) (c := recA r V) (by unfold execOp; simp only [(F.get (t := 0) rfl)]; kernel_rfl) ?_
 intro g2 a2 w2 F2 M2
 clear F M
 refine rm rfl F2 fun _ F3 => ?_
 refine hK1 _ _ (zS fun _ hK4 => ?_)
 refine zR ?_
 refine zB 2 [(1, .pointer (some ⟨g2, 0, none⟩)), (2, .bool false), (4, .int .i64 r.p)] [0] (zt (M2.blk (k := 2) rfl) dnil) [g2] F3 fun _ F5 => ?_
 refine zg (zb rfl) rfl F5 rfl rfl (zE Tryz.func100 rfl) #[.int .i64 r.p] (zx (F5.get rfl)) (zda ((hP ▸ isProto_any r.p w2))) ?_
 rintro _ w6 a6 ⟨rfl, b6⟩ F6
 have M6 := M2.step b6
 refine rm rfl F6 fun _ F7 => ?_
 cases bP
 ·refine zB 49 [(2, .bool false)] [] dnil [] F7 fun _ F8 => ?_
  refine hK4 _ _ (wp_ret ?_)
  try simp only [Exit.then, Exit.inBlock, Exit.jump]
  exact bodyPost_ret (res1 rfl (F8.get rfl)) F8.defers ⟨by rw [show zka r = false from by unfold zka; simp [hP, hN]], M6.below⟩
 refine zB 2 [(1, .pointer (some ⟨g2, 0, none⟩)), (2, .bool false), (6, .bool true), (8, .string r.s)] [0] (zt (M6.blk (k := 2) rfl) dnil) [g2] F7 fun _ F9 => ?_
 refine zg (zf rfl rfl rfl (F9.get rfl)) rfl F9 rfl rfl (zE Tryz.func101 rfl) #[.string r.s] (zx (F9.get rfl)) (zda ((hN ▸ isname_any r.s hs w6))) ?_
 rintro _ w10 a10 ⟨rfl, b10⟩ F10
 have M10 := M6.step b10
 refine rn rfl rfl F10 rfl (.bool bN) (zbb rfl (F10.get rfl) (F10.get rfl)) fun _ F11 => ?_
 refine rm rfl F11 fun _ F12 => ?_
 cases bN
 ·refine zB 44 [(2, .bool false)] [] dnil [] F12 fun _ F13 => ?_
  refine hK4 _ _ (wp_ret ?_)
  try simp only [Exit.then, Exit.inBlock, Exit.jump]
  exact bodyPost_ret (res1 rfl (F13.get rfl)) F13.defers ⟨by rw [show zka r = false from by unfold zka; simp [hP, hN]], M10.below⟩
 refine zB 2 [(1, .pointer (some ⟨g2, 0, none⟩)), (2, .bool false), (11, .bool true), (13, V.v2)] [0] (zt (M10.blk (k := 2) rfl) dnil) [g2] F12 fun _ F14 => ?_
 refine zc (w' := w10) (zf rfl rfl rfl (F14.get rfl)) rfl F14 rfl (.int .i64 (r.l2.length : Int)) (zob _ rfl (F14.get rfl) (M10.isb (k := 0) rfl) rfl) fun _ F15 => ?_
 by_cases h16 : (r.l2.length : Int) ≤ 16
 rotate_left
 ·refine zc (w' := w10) (zf rfl rfl rfl (F15.get rfl)) rfl F15 rfl (.bool false) (y_leq _ _ _ _ rfl (F15.get rfl) rfl (decide_eq_false h16)) fun _ F57 => ?_
  refine zB 40 [(2, .bool false)] [] dnil [] F57 fun _ F58 => ?_
  refine hK4 _ _ (wp_ret ?_)
  try simp only [Exit.then, Exit.inBlock, Exit.jump]
  exact bodyPost_ret (res1 rfl (F58.get rfl)) F58.defers ⟨by rw [show zka r = false from by unfold zka; simp [hP, hN, h16]], M10.below⟩
 refine zc (w' := w10) (zf rfl rfl rfl (F15.get rfl)) rfl F15 rfl (.bool true) (y_leq _ _ _ _ rfl (F15.get rfl) rfl (decide_eq_true h16)) fun _ F17 => ?_
 refine zB 4 [(1, .pointer (some ⟨g2, 0, none⟩)), (2, .bool false), (17, .bool true), (19, V.v5)] [0] (zt (M10.blk (k := 2) rfl) dnil) [g2] F17 fun _ F18 => ?_
 refine zc (w' := w10) (zf rfl rfl rfl (F18.get rfl)) rfl F18 rfl (.int .i64 (r.l5.length : Int)) (zob _ rfl (F18.get rfl) (M10.isb (k := 1) rfl) rfl) fun _ F19 => ?_
 by_cases h20 : (r.l5.length : Int) ≤ 48
 rotate_left
 ·refine zc (w' := w10) (zf rfl rfl rfl (F19.get rfl)) rfl F19 rfl (.bool false) (y_leq _ _ _ _ rfl (F19.get rfl) rfl (decide_eq_false h20)) fun _ F55 => ?_
  refine zB 34 [(2, .bool false)] [] dnil [] F55 fun _ F56 => ?_
  refine hK4 _ _ (wp_ret ?_)
  try simp only [Exit.then, Exit.inBlock, Exit.jump]
  exact bodyPost_ret (res1 rfl (F56.get rfl)) F56.defers ⟨by rw [show zka r = false from by unfold zka; simp [hP, hN, h16, h20]], M10.below⟩
 refine zc (w' := w10) (zf rfl rfl rfl (F19.get rfl)) rfl F19 rfl (.bool true) (y_leq _ _ _ _ rfl (F19.get rfl) rfl (decide_eq_true h20)) fun _ F21 => ?_
 refine zB 4 [(1, .pointer (some ⟨g2, 0, none⟩)), (2, .bool false), (23, .bool true), (25, numV r.a)] [0] (zt (M10.blk (k := 2) rfl) dnil) [g2] F21 fun _ F22 => ?_
 refine zg (zf rfl rfl rfl (F22.get rfl)) rfl F22 rfl rfl (zE Tryz.func102 rfl) #[numV r.a] (zx (F22.get rfl)) (zda (bits_any r.a w10)) ?_
 rintro _ w23 a23 ⟨rfl, b23⟩ F23
 have M23 := M10.step b23
 by_cases h24 : (topI r.a 8) ≤ 32
 rotate_left
 ·refine zc (w' := w23) (zf rfl rfl rfl (F23.get rfl)) rfl F23 rfl (.bool false) (y_leq _ _ _ _ rfl (F23.get rfl) rfl (decide_eq_false h24)) fun _ F53 => ?_
  refine zB 28 [(2, .bool false)] [] dnil [] F53 fun _ F54 => ?_
  refine hK4 _ _ (wp_ret ?_)
  try simp only [Exit.then, Exit.inBlock, Exit.jump]
  exact bodyPost_ret (res1 rfl (F54.get rfl)) F54.defers ⟨by rw [show zka r = false from by unfold zka; simp [hP, hN, h16, h20, h24]], M23.below⟩
 refine zc (w' := w23) (zf rfl rfl rfl (F23.get rfl)) rfl F23 rfl (.bool true) (y_leq _ _ _ _ rfl (F23.get rfl) rfl (decide_eq_true h24)) fun _ F25 => ?_
 refine zB 4 [(1, .pointer (some ⟨g2, 0, none⟩)), (2, .bool false), (29, .bool true), (31, numV r.b)] [0] (zt (M23.blk (k := 2) rfl) dnil) [g2] F25 fun _ F26 => ?_
 refine zg (zf rfl rfl rfl (F26.get rfl)) rfl F26 rfl rfl (zE Tryz.func102 rfl) #[numV r.b] (zx (F26.get rfl)) (zda (bits_any r.b w23)) ?_
 rintro _ w27 a27 ⟨rfl, b27⟩ F27
 have M27 := M23.step b27
 by_cases h28 : (topI r.b 8) ≤ 32
 rotate_left
 ·refine zc (w' := w27) (zf rfl rfl rfl (F27.get rfl)) rfl F27 rfl (.bool false) (y_leq _ _ _ _ rfl (F27.get rfl) rfl (decide_eq_false h28)) fun _ F51 => ?_
  refine zB 22 [(2, .bool false)] [] dnil [] F51 fun _ F52 => ?_
  refine hK4 _ _ (wp_ret ?_)
  try simp only [Exit.then, Exit.inBlock, Exit.jump]
  exact bodyPost_ret (res1 rfl (F52.get rfl)) F52.defers ⟨by rw [show zka r = false from by unfold zka; simp [hP, hN, h16, h20, h24, h28]], M27.below⟩
 refine zc (w' := w27) (zf rfl rfl rfl (F27.get rfl)) rfl F27 rfl (.bool true) (y_leq _ _ _ _ rfl (F27.get rfl) rfl (decide_eq_true h28)) fun _ F29 => ?_
 refine zB 4 [(1, .pointer (some ⟨g2, 0, none⟩)), (2, .bool false), (35, .bool true), (37, .int .i64 r.t)] [0] (zt (M27.blk (k := 2) rfl) dnil) [g2] F29 fun _ F30 => ?_
 by_cases h31 : 0 ≤ r.t
 rotate_left
 ·refine zc (w' := w27) (zf rfl rfl rfl (F30.get rfl)) rfl F30 rfl (.bool false) (y_geq _ _ _ _ rfl (F30.get rfl) rfl (decide_eq_false h31)) fun _ F49 => ?_
  refine zB 17 [(2, .bool false)] [] dnil [] F49 fun _ F50 => ?_
  refine hK4 _ _ (wp_ret ?_)
  try simp only [Exit.then, Exit.inBlock, Exit.jump]
  exact bodyPost_ret (res1 rfl (F50.get rfl)) F50.defers ⟨by rw [show zka r = false from by unfold zka; simp [hP, hN, h16, h20, h24, h28, h31]], M27.below⟩
 refine zc (w' := w27) (zf rfl rfl rfl (F30.get rfl)) rfl F30 rfl (.bool true) (y_geq _ _ _ _ rfl (F30.get rfl) rfl (decide_eq_true h31)) fun _ F32 => ?_
 refine zB 4 [(1, .pointer (some ⟨g2, 0, none⟩)), (2, .bool false), (40, .bool true), (42, .int .i64 r.t)] [0] (zt (M27.blk (k := 2) rfl) dnil) [g2] F32 fun _ F33 => ?_
 by_cases h34 : r.t ≤ 255
 rotate_left
 ·refine zc (w' := w27) (zf rfl rfl rfl (F33.get rfl)) rfl F33 rfl (.bool false) (y_leq _ _ _ _ rfl (F33.get rfl) rfl (decide_eq_false h34)) fun _ F47 => ?_
  refine zB 12 [(2, .bool false)] [] dnil [] F47 fun _ F48 => ?_
  refine hK4 _ _ (wp_ret ?_)
  try simp only [Exit.then, Exit.inBlock, Exit.jump]
  exact bodyPost_ret (res1 rfl (F48.get rfl)) F48.defers ⟨by rw [show zka r = false from by unfold zka; simp [hP, hN, h16, h20, h24, h28, h31, h34]], M27.below⟩
 refine zc (w' := w27) (zf rfl rfl rfl (F33.get rfl)) rfl F33 rfl (.bool true) (y_leq _ _ _ _ rfl (F33.get rfl) rfl (decide_eq_true h34)) fun _ F35 => ?_
 refine zB 4 [(1, .pointer (some ⟨g2, 0, none⟩)), (2, .bool false), (45, .bool true), (47, .int .i64 r.c)] [0] (zt (M27.blk (k := 2) rfl) dnil) [g2] F35 fun _ F36 => ?_
 by_cases h37 : 0 ≤ r.c
 rotate_left
 ·refine zc (w' := w27) (zf rfl rfl rfl (F36.get rfl)) rfl F36 rfl (.bool false) (y_geq _ _ _ _ rfl (F36.get rfl) rfl (decide_eq_false h37)) fun _ F45 => ?_
  refine zB 7 [(2, .bool false)] [] dnil [] F45 fun _ F46 => ?_
  refine hK4 _ _ (wp_ret ?_)
  try simp only [Exit.then, Exit.inBlock, Exit.jump]
  exact bodyPost_ret (res1 rfl (F46.get rfl)) F46.defers ⟨by rw [show zka r = false from by unfold zka; simp [hP, hN, h16, h20, h24, h28, h31, h34, h37]], M27.below⟩
 refine zc (w' := w27) (zf rfl rfl rfl (F36.get rfl)) rfl F36 rfl (.bool true) (y_geq _ _ _ _ rfl (F36.get rfl) rfl (decide_eq_true h37)) fun _ F38 => ?_
 refine zB 4 [(2, .bool false), (50, .bool true), (52, .int .i64 r.z)] [0] (zt (M27.blk (k := 2) rfl) dnil) [g2] F38 fun _ F39 => ?_
 by_cases h40 : 0 ≤ r.z
 ·refine zc (w' := w27) (zf rfl rfl rfl (F39.get rfl)) rfl F39 rfl (.bool true) (y_geq _ _ _ _ rfl (F39.get rfl) rfl (decide_eq_true h40)) fun _ F41 => ?_
  refine zB 2 [(2, .bool true)] [] dnil [] F41 fun _ F42 => ?_
  refine hK4 _ _ (wp_ret ?_)
  try simp only [Exit.then, Exit.inBlock, Exit.jump]
  exact bodyPost_ret (res1 rfl (F42.get rfl)) F42.defers ⟨by rw [show zka r = true from by unfold zka; simp [hP, hN, h16, h20, h24, h28, h31, h34, h37, h40]], M27.below⟩
 refine zc (w' := w27) (zf rfl rfl rfl (F39.get rfl)) rfl F39 rfl (.bool false) (y_geq _ _ _ _ rfl (F39.get rfl) rfl (decide_eq_false h40)) fun _ F43 => ?_
 refine zB 2 [(2, .bool false)] [] dnil [] F43 fun _ F44 => ?_
 refine hK4 _ _ (wp_ret ?_)
 try simp only [Exit.then, Exit.inBlock, Exit.jump]
 exact bodyPost_ret (res1 rfl (F44.get rfl)) F44.defers ⟨by rw [show zka r = false from by unfold zka; simp [hP, hN, h16, h20, h24, h28, h31, h34, h37, h40]], M27.below⟩
end Go.Proofs.YtmjbnmbobocpdaaGreat
namespace Go.Proofs.YtmjbnmbobocpdaaGreat
open Go.ChangeShapes Go.WideShapes Go.ChangeAt Go.RowKit
def cntL (l c : List UInt8) : List UInt8 := l ++ [zy (c.length : Int)] ++ c
theorem cntL_len (l c : List UInt8) : (cntL l c).length = l.length + 1 + c.length := by simp [cntL]; omega
theorem counted_ex (l c : List UInt8) (v u : Value) (hl : l.length + c.length ≤ 100000) (w : World) (hb : Byt w 0 v l) (hu : IsB w c u) (hd : ∀ g, v.ownBlock = some g → ¬ bfp u g) : Calls Tryz.prog 73 #[v, u] w fun e w' => ∃ v', e = .returned v' ∧ Byt w' 0 v' (cntL l c) ∧ (∀ g, v'.ownBlock = some g → w.heap.size ≤ g ∨ v.ownBlock = some g) ∧ w.grownBy w' v.ownBlock :=
  counted_any l c v u hl w hb hu hd
theorem fourL_len (a : Nat) : (fourL a).length = 4 := by unfold fourL; simp [znb]
theorem keep_len {r : RecN} (h : zka r = true) : (sBy r.s).length ≤ 16 ∧ r.l2.length ≤ 16 ∧ r.l5.length ≤ 48 := by
  unfold zka at h
  simp only [Bool.and_eq_true, decide_eq_true_eq] at h
  obtain ⟨⟨⟨⟨⟨⟨⟨⟨⟨h1, h2⟩, h3⟩, h4⟩, _⟩, _⟩, _⟩, _⟩, _⟩, _⟩ := h
  unfold nameB at h2
  have := (@of_decide_eq_true _ (Classical.propDecidable _) h2).2.1
  exact ⟨by simp [sBy]; omega, by omega, by omega⟩
def recL (r : RecN) : List UInt8 := ((((cntL (cntL (cntL [zy r.p] (sBy r.s)) r.l2) r.l5 ++ fourL r.a) ++ fourL r.b) ++ [zy r.t]) ++ zw r.c) ++ zw r.z
noncomputable def recE (r : RecN) : List UInt8 := if zka r = true then recL r else []
theorem record_any (r : RecN) (V : RecV) (ho : RecOk r) (w : World) (hm : RecIs w r V) :
  Calls Tryz.prog 48 #[.agg (recA r V)] w fun e w' => ∃ v, e = .returned (.tuple #[v, .bool (zka r)]) ∧ Byt w' w.heap.size v (recE r) ∧ Below w.heap.size w w' := by
 obtain ⟨bK, hK⟩ : ∃ b, zka r = b := ⟨_, rfl⟩
 have hkk : bK = true → (sBy r.s).length ≤ 16 ∧ r.l2.length ≤ 16 ∧ r.l5.length ≤ 48 := fun h => keep_len (hK.trans h)
 have h4a := fourL_len r.a
 have h4b := fourL_len r.b
 have h8c := z4a r.c
 have h8z := z4a r.z
 refine zi (args := [.agg (recA r V)]) 51 Tryz.func48 rfl rfl rfl ?_
 intro fa F
 have M := Mx.start w
 replace M := M.argB 0 hm.h2 (fun g e => by cases e)
 replace M := M.argB 1 hm.h5 (fun g e => by cases e)
 refine zT fun _ hK1 => ?_
 refine zh (zb rfl) rfl F rfl M 2 (t := 37) (c := recA r V) (by unfold execOp; simp only [(F.get (t := 0) rfl)]; kernel_rfl) ?_
 intro g2 a2 w2 F2 M2
 clear F M
 refine rm rfl F2 fun _ F3 => ?_
 refine rm rfl F3 fun _ F4 => ?_
 refine hK1 _ _ (zS fun _ hK5 => ?_)
 refine zT fun _ hK6 => ?_
 refine rn rfl rfl F4 rfl _ (zna _ _ rfl (F4.get rfl) (M2.blk (k := 2) rfl) (recA r V) (zra rfl) Tryz.underlying37 rfl (by kernel_rfl)) fun _ F7 => ?_
 refine zg (zb rfl) rfl F7 rfl rfl (zE Tryz.func72 rfl) #[.agg (recA r V)] (zx (F7.get rfl)) (zda ((hK ▸ keeps_any r V ho.s w2 ⟨M2.isb (k := 0) rfl, M2.isb (k := 1) rfl⟩))) ?_
 rintro _ w8 a8 ⟨rfl, b8⟩ F8
 have M8 := M2.step b8
 cases bK
 ·refine rn rfl rfl F8 rfl (.bool true) (zub _ _ rfl (F8.get (t := 6) rfl)) fun _ F9 => ?_
  refine hK6 _ _ (wp_cond_true (F9.get rfl) ?_)
  refine zT fun _ hK10 => ?_
  refine rm rfl F9 fun _ F11 => ?_
  refine rm rfl F11 fun _ F12 => ?_
  refine hK10 _ _ (wp_ret ?_)
  try simp only [Exit.then, Exit.inBlock, Exit.jump]
  exact bodyPost_ret (res2 rfl (F12.get rfl) (F12.get rfl)) F12.defers ⟨zN, (by rw [hK]), (by rw [show recE r = [] from if_neg (by rw [hK]; exact Bool.false_ne_true)]; exact Byt.nil _ _), M8.below⟩
 obtain ⟨hls, hl2, hl5⟩ := hkk rfl
 refine rn rfl rfl F8 rfl (.bool false) (zub _ _ rfl (F8.get (t := 6) rfl)) fun _ F13 => ?_
 refine hK6 _ _ (wp_cond_false (F13.get rfl) ?_)
 refine wp_skip ?_
 refine hK5 _ _ (zS fun _ hK14 => ?_)
 refine zR ?_
 refine zB 2 [(1, .pointer (some ⟨g2, 0, none⟩)), (2, zN), (3, .bool false), (9, .int .i64 r.p)] [0] (zt (M8.blk (k := 2) rfl) dnil) [g2] F13 fun _ F15 => ?_
 refine rn rfl rfl F15 rfl (.int .u8 (((zy r.p).toNat : Nat) : Int)) (y_cvI _ _ _ rfl (F15.get rfl) Tryz.underlying3 Tryz.underlying5 (byteI_wrap _)) fun _ F16 => ?_
 refine zdb (zb rfl) rfl F16 rfl (run_litO M8 3 [(zy r.p)] 1 rfl (by decide) (by decide) rfl (by simp only [List.map_toArray, List.map_cons, List.map_nil, (F16.get (t := 10) rfl)]; kernel_rfl)) ?_
 intro v17 a17 w17 F17 M17
 clear F16 M8
 obtain ⟨A17, c17, rfl⟩ := (M17.isO (k := 3) rfl).shape
 refine rm rfl F17 fun _ F18 => ?_
 refine hK14 _ _ (zS fun _ hK19 => ?_)
 refine zR ?_
 refine zA 3 [(12, .slice A17 ([(zy r.p)]).length c17), (13, .pointer (some ⟨g2, 1, none⟩)), (14, .string r.s)] [0] (zt (M17.blk (k := 2) rfl) dnil) [g2] F18 fun _ F20 => ?_
 refine zdb (zb rfl) rfl F20 rfl (run_cvS M17 4 _ rfl (F20.get rfl) (Nat.le_trans ho.s (by omega))) ?_
 intro v21 a21 w21 F21 M21
 clear F20 M17
 have fr21 := M21.frN (k := 4) rfl
 replace M21 := M21.unN (k := 4) rfl
 obtain ⟨A21, c21, rfl⟩ := (M21.isb (k := 4) rfl).shape
 refine zg (zb rfl) rfl F21 rfl rfl (zE Tryz.func73 rfl) #[.slice A17 ([(zy r.p)]).length c17, .slice A21 ((sBy r.s)).length c21] (zha (F21.get rfl) (F21.get rfl)) (counted_ex [(zy r.p)] (sBy r.s) (.slice A17 ([(zy r.p)]).length c17) (.slice A21 ((sBy r.s)).length c21) (by simp only [cntL_len, List.length_append, List.length_cons, List.length_nil]; omega) w21 (M21.at_ 3 _ rfl) (M21.isb (k := 4) rfl) (fun g e hg => M21.dis 3 4 _ _ rfl rfl (by decide) rfl g e hg)) ?_
 rintro v22 w22 a22 ⟨hv22, hlo22, gb22⟩ F22
 have M22 := M21.growO (k := 3) rfl gb22 hv22 hlo22
 clear M21 gb22 hv22 hlo22
 obtain ⟨A22, c22, rfl⟩ := (M22.isO (k := 3) rfl).shape
 refine rm rfl F22 fun _ F23 => ?_
 refine hK19 _ _ (zS fun _ hK24 => ?_)
 refine zR ?_
 refine zA 3 [(17, .slice A22 ((cntL [(zy r.p)] (sBy r.s))).length c22), (18, .pointer (some ⟨g2, 2, none⟩)), (19, V.v2)] [0] (zt (M22.blk (k := 2) rfl) dnil) [g2] F23 fun _ F25 => ?_
 refine zg (zb rfl) rfl F25 rfl rfl (zE Tryz.func73 rfl) #[.slice A22 ((cntL [(zy r.p)] (sBy r.s))).length c22, V.v2] (zha (F25.get rfl) (F25.get rfl)) (counted_ex (cntL [(zy r.p)] (sBy r.s)) r.l2 (.slice A22 ((cntL [(zy r.p)] (sBy r.s))).length c22) (V.v2) (by simp only [cntL_len, List.length_append, List.length_cons, List.length_nil]; omega) w22 (M22.at_ 3 _ rfl) (M22.isb (k := 0) rfl) (fun g e hg => M22.dis 3 0 _ _ rfl rfl (by decide) rfl g e hg)) ?_
 rintro v26 w26 a26 ⟨hv26, hlo26, gb26⟩ F26
 have M26 := M22.growO (k := 3) rfl gb26 hv26 hlo26
 clear M22 gb26 hv26 hlo26
 obtain ⟨A26, c26, rfl⟩ := (M26.isO (k := 3) rfl).shape
 refine rm rfl F26 fun _ F27 => ?_
 refine hK24 _ _ (zS fun _ hK28 => ?_)
 refine zR ?_
 refine zA 3 [(21, .slice A26 ((cntL (cntL [(zy r.p)] (sBy r.s)) r.l2)).length c26), (22, .pointer (some ⟨g2, 19, none⟩)), (23, V.v5)] [0] (zt (M26.blk (k := 2) rfl) dnil) [g2] F27 fun _ F29 => ?_
 refine zg (zb rfl) rfl F29 rfl rfl (zE Tryz.func73 rfl) #[.slice A26 ((cntL (cntL [(zy r.p)] (sBy r.s)) r.l2)).length c26, V.v5] (zha (F29.get rfl) (F29.get rfl)) (counted_ex (cntL (cntL [(zy r.p)] (sBy r.s)) r.l2) r.l5 (.slice A26 ((cntL (cntL [(zy r.p)] (sBy r.s)) r.l2)).length c26) (V.v5) (by simp only [cntL_len, List.length_append, List.length_cons, List.length_nil]; omega) w26 (M26.at_ 3 _ rfl) (M26.isb (k := 1) rfl) (fun g e hg => M26.dis 3 1 _ _ rfl rfl (by decide) rfl g e hg)) ?_
 rintro v30 w30 a30 ⟨hv30, hlo30, gb30⟩ F30
 have M30 := M26.growO (k := 3) rfl gb30 hv30 hlo30
 clear M26 gb30 hv30 hlo30
 obtain ⟨A30, c30, rfl⟩ := (M30.isO (k := 3) rfl).shape
 refine rm rfl F30 fun _ F31 => ?_
 refine hK28 _ _ (zS fun _ hK32 => ?_)
 refine zR ?_
 refine rm rfl F31 fun _ F33 => ?_
 refine zA 2 [(26, .pointer (some ⟨g2, 3, none⟩)), (27, numV r.a)] [0] (zt (M30.blk (k := 2) rfl) dnil) [g2] F33 fun _ F34 => ?_
 refine zg (zb rfl) rfl F34 rfl rfl (zE Tryz.func74 rfl) #[numV r.a] (zx (F34.get rfl)) (four_any r.a w30) ?_
 rintro v35 w35 a35 h35 F35
 have M35 := M30.newB h35.2.2 5 h35.1 h35.2.1
 have fr35 := fun g hg => Nat.le_trans M30.le (h35.2.1 g hg)
 clear M30 h35
 obtain ⟨A35, c35, rfl⟩ := (M35.isb (k := 5) rfl).shape
 refine zdb (zb rfl) rfl F35 rfl (run_app M35 (k := 3) rfl _ _ rfl (F35.get rfl) (F35.get rfl) (M35.isb (k := 5) rfl) (by simp only [cntL_len, List.length_append, List.length_cons, List.length_nil]; omega)) ?_
 intro v36 a36 w36 F36 M36
 clear F35 M35
 obtain ⟨A36, c36, rfl⟩ := (M36.isO (k := 3) rfl).shape
 refine rm rfl F36 fun _ F37 => ?_
 refine hK32 _ _ (zS fun _ hK38 => ?_)
 refine zR ?_
 refine rm rfl F37 fun _ F39 => ?_
 refine zA 2 [(31, .pointer (some ⟨g2, 11, none⟩)), (32, numV r.b)] [0] (zt (M36.blk (k := 2) rfl) dnil) [g2] F39 fun _ F40 => ?_
 refine zg (zb rfl) rfl F40 rfl rfl (zE Tryz.func74 rfl) #[numV r.b] (zx (F40.get rfl)) (four_any r.b w36) ?_
 rintro v41 w41 a41 h41 F41
 have M41 := M36.newB h41.2.2 6 h41.1 h41.2.1
 have fr41 := fun g hg => Nat.le_trans M36.le (h41.2.1 g hg)
 clear M36 h41
 obtain ⟨A41, c41, rfl⟩ := (M41.isb (k := 6) rfl).shape
 refine zdb (zb rfl) rfl F41 rfl (run_app M41 (k := 3) rfl _ _ rfl (F41.get rfl) (F41.get rfl) (M41.isb (k := 6) rfl) (by simp only [cntL_len, List.length_append, List.length_cons, List.length_nil]; omega)) ?_
 intro v42 a42 w42 F42 M42
 clear F41 M41
 obtain ⟨A42, c42, rfl⟩ := (M42.isO (k := 3) rfl).shape
 refine rm rfl F42 fun _ F43 => ?_
 refine hK38 _ _ (zS fun _ hK44 => ?_)
 refine zR ?_
 refine rm rfl F43 fun _ F45 => ?_
 refine zA 2 [(36, .pointer (some ⟨g2, 20, none⟩)), (37, .int .i64 r.t)] [0] (zt (M42.blk (k := 2) rfl) dnil) [g2] F45 fun _ F46 => ?_
 refine rn rfl rfl F46 rfl (.int .u8 (((zy r.t).toNat : Nat) : Int)) (y_cvI _ _ _ rfl (F46.get rfl) Tryz.underlying3 Tryz.underlying5 (byteI_wrap _)) fun _ F47 => ?_
 refine zdb (zb rfl) rfl F47 rfl (run_litO M42 7 [(zy r.t)] 1 rfl (by decide) (by decide) rfl (by simp only [List.map_toArray, List.map_cons, List.map_nil, (F47.get (t := 38) rfl)]; kernel_rfl)) ?_
 intro v48 a48 w48 F48 M48
 clear F47 M42
 obtain ⟨A48, c48, rfl⟩ := (M48.isO (k := 7) rfl).shape
 refine zdb (zb rfl) rfl F48 rfl (run_app M48 (k := 3) rfl _ _ rfl (F48.get rfl) (F48.get rfl) (M48.isO (k := 7) rfl) (by simp only [cntL_len, List.length_append, List.length_cons, List.length_nil]; omega)) ?_
 intro v49 a49 w49 F49 M49
 clear F48 M48
 obtain ⟨A49, c49, rfl⟩ := (M49.isO (k := 3) rfl).shape
 refine rm rfl F49 fun _ F50 => ?_
 refine hK44 _ _ (zS fun _ hK51 => ?_)
 refine zR ?_
 refine rm rfl F50 fun _ F52 => ?_
 refine zA 2 [(42, .pointer (some ⟨g2, 21, none⟩)), (43, .int .i64 r.c)] [0] (zt (M49.blk (k := 2) rfl) dnil) [g2] F52 fun _ F53 => ?_
 refine zg (zb rfl) rfl F53 rfl rfl (zE Tryz.func67 rfl) #[.int .i64 r.c] (zx (F53.get rfl)) (eightI_any r.c w49) ?_
 rintro v54 w54 a54 h54 F54
 have M54 := M49.newO h54.2 8 h54.1
 clear M49 h54
 obtain ⟨A54, c54, rfl⟩ := (M54.isO (k := 8) rfl).shape
 refine zdb (zb rfl) rfl F54 rfl (run_app M54 (k := 3) rfl _ _ rfl (F54.get rfl) (F54.get rfl) (M54.isO (k := 8) rfl) (by simp only [cntL_len, List.length_append, List.length_cons, List.length_nil]; omega)) ?_
 intro v55 a55 w55 F55 M55
 clear F54 M54
 obtain ⟨A55, c55, rfl⟩ := (M55.isO (k := 3) rfl).shape
 refine rm rfl F55 fun _ F56 => ?_
 refine hK51 _ _ (zS fun _ hK57 => ?_)
 refine zR ?_
 refine rm rfl F56 fun _ F58 => ?_
 refine zA 2 [(47, .pointer (some ⟨g2, 22, none⟩)), (48, .int .i64 r.z)] [0] (zt (M55.blk (k := 2) rfl) dnil) [g2] F58 fun _ F59 => ?_
 refine zg (zb rfl) rfl F59 rfl rfl (zE Tryz.func67 rfl) #[.int .i64 r.z] (zx (F59.get rfl)) (eightI_any r.z w55) ?_
 rintro v60 w60 a60 h60 F60
 have M60 := M55.newO h60.2 9 h60.1
 clear M55 h60
 obtain ⟨A60, c60, rfl⟩ := (M60.isO (k := 9) rfl).shape
 refine zdb (zb rfl) rfl F60 rfl (run_app M60 (k := 3) rfl _ _ rfl (F60.get rfl) (F60.get rfl) (M60.isO (k := 9) rfl) (by simp only [cntL_len, List.length_append, List.length_cons, List.length_nil]; omega)) ?_
 intro v61 a61 w61 F61 M61
 clear F60 M60
 obtain ⟨A61, c61, rfl⟩ := (M61.isO (k := 3) rfl).shape
 refine rm rfl F61 fun _ F62 => ?_
 refine rm rfl F62 fun _ F63 => ?_
 refine hK57 _ _ (wp_ret ?_)
 try simp only [Exit.then, Exit.inBlock, Exit.jump]
 exact bodyPost_ret (res2 rfl (F63.get rfl) (F63.get rfl)) F63.defers ⟨_, (by rw [hK]), (by rw [show recE r = recL r from if_pos hK]; exact M61.byt (k := 3) rfl), M61.below⟩
end Go.Proofs.YtmjbnmbobocpdaaGreat
namespace Go.Proofs.YtmjbnmbobocpdaaGreat
open Go.ChangeShapes Go.WideShapes Go.ChangeAt Go.RowKit
theorem rfour_any (g : Nat) (l : List UInt8) (u : Value) (hl : l.length ≤ 100000) (w : World) (hg : w.heap[g]? = some (.cells #[u] 165 (0, 0))) (hu : IsB w l u) (hd : ¬ bfp u g) :
  Calls Tryz.prog 130 #[.pointer (some ⟨g, 0, none⟩)] w fun e w' => ∃ v, e = .returned v ∧ v = numV (zqb (l.take 4)) ∧ ∃ u', IsB w' (l.drop 4) u' ∧ (∀ b, bfp u' b → bfp u b) ∧ w'.heap[g]? = some (.cells #[u'] 165 (0, 0)) ∧ w.grownBy w' (some g) := by
 refine zi (args := [.pointer (some ⟨g, 0, none⟩)]) 12 Tryz.func130 rfl rfl rfl ?_
 intro fa F
 have M := Mx.theG hg 0
 replace M := M.argB 1 hu (fun b e => by cases e; exact hd)
 refine zT fun _ hK1 => ?_
 refine zh (zb rfl) rfl F rfl M 2 (t := 35) (c := numA 0) (y_new_num rfl) ?_
 intro g2 a2 w2 F2 M2
 clear F M
 refine hK1 _ _ (zS fun _ hK3 => ?_)
 refine zR ?_
 refine rm rfl F2 fun _ F4 => ?_
 refine zg (zb rfl) rfl F4 rfl rfl (zE Tryz.func143 rfl) #[.pointer (some ⟨g, 0, none⟩), .int .i64 4] (zha (F4.get rfl) rfl) (take_any g l (u) 4 hl (by omega) w2 (M2.blk (k := 0) rfl) (M2.isb (k := 1) rfl) (fun hb => M2.dis 0 1 _ _ rfl rfl (by decide) rfl g rfl hb)) ?_
 rintro v5 w5 a5 ⟨u5, hv5, hu5, hs5, hc5, hg5⟩ F5
 have M5 := M2.took (k := 0) (ku := 1) rfl hg5 hc5 4 3 hv5 hu5 hs5 rfl rfl
 clear M2 hg5 hc5
 obtain ⟨A5u, c5u, rfl⟩ := hu5.shape
 clear hu5
 clear hv5
 obtain ⟨A5, c5, rfl⟩ := (M5.isO (k := 4) rfl).shape
 refine zg (zb rfl) rfl F5 rfl rfl (zE Tryz.func144 rfl) #[.slice A5 ((l.take 4)).length c5] (zx (F5.get rfl)) (zda ((lread_any (l.take 4) (.slice A5 ((l.take 4)).length c5) (by simp only [List.length_take]; omega) w5 (M5.isO (k := 4) rfl)))) ?_
 rintro _ w6 a6 ⟨rfl, b6⟩ F6
 have M6 := M5.step b6
 refine zB 3 [(2, .pointer (some ⟨g2, 0, none⟩)), (9, numV (zqb (l.take 4))), (10, .bool (decide ((l.take 4).length ≤ 32)))] [] dnil [] F6 fun _ F7 => ?_
 refine zh (zb rfl) rfl F7 rfl M6 5 (t := 35) (c := numA 0) (y_new_num rfl) ?_
 intro g8 a8 w8 F8 M8
 clear F7 M6
 refine zm (zb rfl) rfl F8 M8 (k := 5) rfl _ _ _ rfl (F8.get rfl) (F8.get rfl) (numA (zqb (l.take 4))) _ rfl (zL rfl) (numA_one _) (zn rfl) size26 ?_
 intro w9 M9
 clear M8
 refine rm rfl F8 fun _ F10 => ?_
 refine hK3 _ _ (zS fun _ hK11 => ?_)
 refine zR ?_
 refine rn rfl rfl F10 rfl (numV (zqb (l.take 4))) (zna _ _ rfl (F10.get rfl) (M9.blk (k := 5) rfl) (numA (zqb (l.take 4))) (zra rfl) Tryz.underlying35 rfl size26) fun _ F12 => ?_
 refine zm (zb rfl) rfl F12 M9 (k := 2) rfl _ _ _ rfl (F12.get rfl) (F12.get rfl) (numA (zqb (l.take 4))) _ rfl (zL rfl) (numA_one _) (zn rfl) size26 ?_
 intro w13 M13
 clear M9
 refine hK11 _ _ (wp_ret ?_)
 try simp only [Exit.then, Exit.inBlock, Exit.jump]
 exact bodyPost_ret (results_cell_row rfl _ _ _ _ _ (0, 0) _ (F12.get rfl) (M13.blk (k := 2) rfl) Tryz.underlying35 rfl size26) F12.defers ⟨_, rfl, rfl, .slice A5u ((l.drop 4)).length c5u, M13.isb (k := 3) rfl, fun b h => (hs5 b h), M13.blk (k := 0) rfl, M13.grown⟩
theorem record_ex (r : RecN) (V : RecV) (ho : RecOk r) (w : World) (hm : RecIs w r V) : Calls Tryz.prog 48 #[.agg (recA r V)] w fun e w' => ∃ t, e = .returned t ∧ ∃ v, t = .tuple #[v, .bool (zka r)] ∧ Byt w' w.heap.size v (recE r) ∧ Below w.heap.size w w' :=
  (record_any r V ho w hm).mono fun e w' ⟨v, h1, h2, h3⟩ => ⟨_, h1, v, rfl, h2, h3⟩
def rZero : RecN := ⟨0, ⟨#[]⟩, [], 0, 0, [], 0, 0, 0⟩
def rvZero : RecV := ⟨zN, zN⟩
theorem rvZero_is (w : World) : RecIs w rZero rvZero := ⟨zla _, zla _⟩
def subRV (V' V : RecV) (g : Nat) : Prop := (bfp V'.v2 g → bfp V.v2 g) ∧ (bfp V'.v5 g → bfp V.v5 g)
noncomputable def zrb (r : RecN) (b : List UInt8) : Bool := zka r && decide (recE r = b)
noncomputable def provR (r : RecN) (b : List UInt8) : RecN := if zrb r b = true then r else rZero
theorem provenR_any (r : RecN) (V : RecV) (b : List UInt8) (bv : Value) (ho : RecOk r) (w : World) (hm : RecIs w r V) (hb : IsB w b bv) :
  Calls Tryz.prog 132 #[.agg (recA r V), .func (.func 48) #[] #[], bv] w fun e w' => ∃ t, e = .returned t ∧ ∃ V', t = .tuple #[.agg (recA (provR r b) V'), .bool (zrb r b)] ∧ RecIs w' (provR r b) V' ∧ (∀ g, subRV V' V g) ∧ Below w.heap.size w w' := by
 obtain ⟨bE, hE⟩ : ∃ x, zka r = x := ⟨_, rfl⟩
 obtain ⟨bQ, hQ⟩ : ∃ x, decide (recE r = b) = x := ⟨_, rfl⟩
 refine zi (args := [.agg (recA r V), .func (.func 48) #[] #[], bv]) 27 Tryz.func132 rfl rfl rfl ?_
 intro fa F
 have M := Mx.start w
 replace M := M.argB 0 hm.h2 (fun g e => by cases e)
 replace M := M.argB 1 hm.h5 (fun g e => by cases e)
 replace M := M.argB 2 hb (fun g e => by cases e)
 refine zT fun _ hK1 => ?_
 refine zh (zb rfl) rfl F rfl M 3 (t := 37) (c := recA r V) (by unfold execOp; simp only [(F.get (t := 0) rfl)]; kernel_rfl) ?_
 intro g2 a2 w2 F2 M2
 clear F M
 refine zh (zb rfl) rfl F2 rfl M2 4 (t := 37) (c := recA ⟨0, "".toUTF8, [], 0, 0, [], 0, 0, 0⟩ ⟨zN, zN⟩) (by unfold execOp; kernel_rfl) ?_
 intro g3 a3 w3 F3 M3
 clear F2 M2
 refine rm rfl F3 fun _ F4 => ?_
 refine hK1 _ _ (zS fun _ hK5 => ?_)
 refine zR ?_
 refine rm rfl F4 fun _ F6 => ?_
 refine rn rfl rfl F6 rfl _ (zna _ _ rfl (F6.get rfl) (M3.blk (k := 3) rfl) (recA r V) (zra rfl) Tryz.underlying37 rfl (by kernel_rfl)) fun _ F7 => ?_
 refine wl_callV (zb rfl) rfl F7 rfl rfl (F7.get rfl) (zE Tryz.func48 rfl) #[.agg (recA r V)] (show _ ++ _ = _ from by rw [(zx (F7.get rfl))]; rfl) (hE ▸ record_ex r V ho w3 ⟨M3.isb (k := 0) rfl, M3.isb (k := 1) rfl⟩) ?_
 rintro _ w8 a8 ⟨v8, rfl, hv8, b8⟩ F8
 have M8 := M3.newO b8 5 hv8
 clear M3 b8 hv8
 obtain ⟨A8, c8, rfl⟩ := (M8.isO (k := 5) rfl).shape
 refine zB 5 [(2, bv), (3, .pointer (some ⟨g2, 0, none⟩)), (6, .pointer (some ⟨g3, 0, none⟩)), (7, .bool false), (8, .slice A8 ((recE r)).length c8), (9, .bool bE)] [] dnil [] F8 fun _ F9 => ?_
 refine hK5 _ _ (zS fun _ hK10 => ?_)
 refine zT fun _ hK11 => ?_
 refine rm rfl F9 fun _ F12 => ?_
 cases bE
 ·refine zB 7 [(3, .pointer (some ⟨g2, 0, none⟩)), (6, .pointer (some ⟨g3, 0, none⟩)), (7, .bool false), (24, .bool true)] [] dnil [] F12 fun _ F13 => ?_
  refine hK11 _ _ (wp_cond_true (F13.get rfl) ?_)
  refine zT fun _ hK14 => ?_
  refine zh (zb rfl) rfl F13 rfl M8 6 (t := 37) (c := recA ⟨0, "".toUTF8, [], 0, 0, [], 0, 0, 0⟩ ⟨zN, zN⟩) (by unfold execOp; kernel_rfl) ?_
  intro g15 a15 w15 F15 M15
  clear F13 M8
  refine hK14 _ _ (zS fun _ hK16 => ?_)
  refine zR ?_
  refine rn rfl rfl F15 rfl _ (zna _ _ rfl (F15.get rfl) (M15.blk (k := 6) rfl) (recA ⟨0, "".toUTF8, [], 0, 0, [], 0, 0, 0⟩ ⟨zN, zN⟩) (zra rfl) Tryz.underlying37 rfl (by kernel_rfl)) fun _ F17 => ?_
  refine zm (zb rfl) rfl F17 M15 (k := 4) rfl _ _ _ rfl (F17.get rfl) (F17.get rfl) (recA ⟨0, "".toUTF8, [], 0, 0, [], 0, 0, 0⟩ ⟨zN, zN⟩) _ rfl (zL rfl) (zta (w := w) ⟨zla _, zla _⟩) (zn rfl) (by kernel_rfl) ?_
  intro w18 M18
  clear M15
  refine rm rfl F17 fun _ F19 => ?_
  refine hK16 _ _ (wp_ret ?_)
  try simp only [Exit.then, Exit.inBlock, Exit.jump]
  exact bodyPost_ret (resCT rfl (F19.get rfl) (M18.blk (k := 4) rfl) (F19.get rfl) Tryz.underlying37 rfl (by kernel_rfl)) F19.defers ⟨_, rfl, rvZero, by rw [provR, show zrb r b = false from by rw [zrb, hE]; rfl]; rfl, by rw [provR, show zrb r b = false from by rw [zrb, hE]; rfl]; exact rvZero_is _, fun g => ⟨fun h => (z5a g h).elim, fun h => (z5a g h).elim⟩, M18.below⟩
 refine zA 4 [(18, .bool false), (19, .bool false), (20, .slice A8 ((recE r)).length c8), (21, bv)] [] dnil [] F12 fun _ F20 => ?_
 refine zg (zf rfl rfl rfl (F20.get rfl)) rfl F20 rfl rfl (zE Tryz.func140 rfl) #[.slice A8 ((recE r)).length c8, bv] (zha (F20.get rfl) (F20.get rfl)) (zda ((hQ ▸ equal_any (recE r) b (.slice A8 ((recE r)).length c8) (bv) w8 (M8.isO (k := 5) rfl) (M8.isb (k := 2) rfl)))) ?_
 rintro _ w21 a21 ⟨rfl, b21⟩ F21
 have M21 := M8.step b21
 cases bQ
 rotate_left
 ·refine zA 2 [(23, .bool false), (24, .bool false)] [] dnil [] F21 fun _ F29 => ?_
  refine hK11 _ _ (wp_cond_false (F29.get rfl) ?_)
  refine wp_skip ?_
  refine hK10 _ _ (zS fun _ hK30 => ?_)
  refine zR ?_
  refine rn rfl rfl F29 rfl _ (zna _ _ rfl (F29.get rfl) (M21.blk (k := 3) rfl) (recA r V) (zra rfl) Tryz.underlying37 rfl (by kernel_rfl)) fun _ F31 => ?_
  refine zm (zb rfl) rfl F31 M21 (k := 4) rfl _ _ _ rfl (F31.get rfl) (F31.get rfl) (recA r V) _ rfl (zL rfl) (zta hm) (zn rfl) (by kernel_rfl) ?_
  intro w32 M32
  clear M21
  refine rm rfl F31 fun _ F33 => ?_
  refine hK30 _ _ (wp_ret ?_)
  try simp only [Exit.then, Exit.inBlock, Exit.jump]
  exact bodyPost_ret (resCT rfl (F33.get rfl) (M32.blk (k := 4) rfl) (F33.get rfl) Tryz.underlying37 rfl (by kernel_rfl)) F33.defers ⟨_, rfl, V, by rw [provR, show zrb r b = true from by rw [zrb, hE, hQ]; rfl]; rfl, by rw [provR, show zrb r b = true from by rw [zrb, hE, hQ]; rfl]; exact ⟨M32.isb (k := 0) rfl, M32.isb (k := 1) rfl⟩, fun g => ⟨id, id⟩, M32.below⟩
 refine zA 2 [(23, .bool true), (24, .bool true)] [] dnil [] F21 fun _ F22 => ?_
 refine hK11 _ _ (wp_cond_true (F22.get rfl) ?_)
 refine zT fun _ hK23 => ?_
 refine zh (zb rfl) rfl F22 rfl M21 6 (t := 37) (c := recA ⟨0, "".toUTF8, [], 0, 0, [], 0, 0, 0⟩ ⟨zN, zN⟩) (by unfold execOp; kernel_rfl) ?_
 intro g24 a24 w24 F24 M24
 clear F22 M21
 refine hK23 _ _ (zS fun _ hK25 => ?_)
 refine zR ?_
 refine rn rfl rfl F24 rfl _ (zna _ _ rfl (F24.get rfl) (M24.blk (k := 6) rfl) (recA ⟨0, "".toUTF8, [], 0, 0, [], 0, 0, 0⟩ ⟨zN, zN⟩) (zra rfl) Tryz.underlying37 rfl (by kernel_rfl)) fun _ F26 => ?_
 refine zm (zb rfl) rfl F26 M24 (k := 4) rfl _ _ _ rfl (F26.get rfl) (F26.get rfl) (recA ⟨0, "".toUTF8, [], 0, 0, [], 0, 0, 0⟩ ⟨zN, zN⟩) _ rfl (zL rfl) (zta (w := w) ⟨zla _, zla _⟩) (zn rfl) (by kernel_rfl) ?_
 intro w27 M27
 clear M24
 refine rm rfl F26 fun _ F28 => ?_
 refine hK25 _ _ (wp_ret ?_)
 try simp only [Exit.then, Exit.inBlock, Exit.jump]
 exact bodyPost_ret (resCT rfl (F28.get rfl) (M27.blk (k := 4) rfl) (F28.get rfl) Tryz.underlying37 rfl (by kernel_rfl)) F28.defers ⟨_, rfl, rvZero, by rw [provR, show zrb r b = false from by rw [zrb, hE, hQ]; rfl]; rfl, by rw [provR, show zrb r b = false from by rw [zrb, hE, hQ]; rfl]; exact rvZero_is _, fun g => ⟨fun h => (z5a g h).elim, fun h => (z5a g h).elim⟩, M27.below⟩
end Go.Proofs.YtmjbnmbobocpdaaGreat
namespace Go.Proofs.YtmjbnmbobocpdaaGreat
open Go.ChangeShapes Go.WideShapes Go.ChangeAt Go.RowKit
def cV (l : List UInt8) : List UInt8 := (l.drop 1).take (zp (l.take 1))
def cR (l : List UInt8) : List UInt8 := (l.drop 1).drop (zp (l.take 1))
theorem cR_len (l : List UInt8) : (cR l).length ≤ l.length := by simp only [cR, List.length_drop]; omega
theorem cV_len (l : List UInt8) : (cV l).length ≤ 255 := by
  have := readN_one l
  simp only [cV, List.length_take]; omega
theorem zab (l : List UInt8) (n : Nat) : (l.drop n).length ≤ l.length := by simp only [List.length_drop]; omega
theorem rcounted_ex (g : Nat) (l : List UInt8) (u : Value) (hl : l.length ≤ 100000) (w : World) (hg : w.heap[g]? = some (.cells #[u] 165 (0, 0))) (hu : IsB w l u) (hd : ¬ bfp u g) :
    Calls Tryz.prog 129 #[.pointer (some ⟨g, 0, none⟩)] w fun e w' => ∃ v, e = .returned v ∧ ∃ u', Byt w' w.heap.size v (cV l) ∧ IsB w' (cR l) u' ∧ (∀ b, bfp u' b → bfp u b) ∧ w'.heap[g]? = some (.cells #[u'] 165 (0, 0)) ∧ w.grownBy w' (some g) := rcounted_any g l u hl w hg hu hd
def rdM (b : List UInt8) : RecN :=
  ⟨((zp (b.take 1) : Nat) : Int), ⟨(cV (b.drop 1)).toArray⟩, cV (cR (b.drop 1)), zqb ((cR (cR (cR (b.drop 1)))).take 4), zqb (((cR (cR (cR (b.drop 1)))).drop 4).take 4), cV (cR (cR (b.drop 1))),
    ((zp ((((cR (cR (cR (b.drop 1)))).drop 4).drop 4).take 1) : Nat) : Int), numI (((((cR (cR (cR (b.drop 1)))).drop 4).drop 4).drop 1).take 8), numI ((((((cR (cR (cR (b.drop 1)))).drop 4).drop 4).drop 1).drop 8).take 8)⟩
theorem recOk_mk {p t : Nat} {s : ByteArray} {l2 l5 x y c z : List UInt8} (hp : p < 256) (ht : t < 256) (hs : s.size ≤ 1000) : RecOk ⟨(p : Int), s, l2, zqb x, zqb y, l5, (t : Int), numI c, numI z⟩ :=
  ⟨(show (-9223372036854775808 : Int) ≤ (p : Int) ∧ (p : Int) < 9223372036854775808 by omega), (show (-9223372036854775808 : Int) ≤ (t : Int) ∧ (t : Int) < 9223372036854775808 by omega), numI_in c, numI_in z, hs, readO_lt x, readO_lt y⟩
theorem rdM_ok (b : List UInt8) : RecOk (rdM b) := by
  have h3 := cV_len (b.drop 1)
  have e : (⟨(cV (b.drop 1)).toArray⟩ : ByteArray).size = (cV (b.drop 1)).length := by simp [ByteArray.size]
  unfold rdM
  exact recOk_mk (readN_one b) (readN_one _) (by omega)
noncomputable def rdOk (b : List UInt8) : Bool := zrb (rdM b) b
noncomputable def rdR (b : List UInt8) : RecN := provR (rdM b) b
theorem readrec_any (b : List UInt8) (bv : Value) (hl : b.length ≤ 100000) (w : World) (hb : IsB w b bv) :
  Calls Tryz.prog 105 #[bv] w fun e w' => ∃ V, e = .returned (.tuple #[.agg (recA (rdR b) V), .bool (rdOk b)]) ∧ RecIs w' (rdR b) V ∧ (∀ q, bfp V.v2 q ∨ bfp V.v5 q → w.heap.size ≤ q) ∧ Below w.heap.size w w' := by
 obtain ⟨A0, c0, rfl⟩ := hb.shape
 refine zi (args := [.slice A0 b.length c0]) 32 Tryz.func105 rfl rfl rfl ?_
 intro fa F
 have M := Mx.start w
 replace M := M.argB 0 hb (fun g e => by cases e)
 refine zT fun _ hK1 => ?_
 refine zh (zb rfl) rfl F rfl M 1 (t := 37) (c := recA ⟨0, "".toUTF8, [], 0, 0, [], 0, 0, 0⟩ ⟨zN, zN⟩) (by unfold execOp; kernel_rfl) ?_
 intro g2 a2 w2 F2 M2
 clear F M
 refine rm rfl F2 fun _ F3 => ?_
 refine hK1 _ _ (zS fun _ hK4 => ?_)
 refine zR ?_
 refine rm rfl F3 fun _ F5 => ?_
 refine rn rfl rfl F5 rfl (.agg (#[.slice A0 b.length c0])) (by unfold execOp; simp only [List.map_toArray, List.map_cons, List.map_nil, (F5.get (t := 6) rfl)]; kernel_rfl) fun _ F6 => ?_
 refine zh (zb rfl) rfl F6 rfl M2 2 (t := 165) (c := #[zN]) (by unfold execOp; kernel_rfl) ?_
 intro g7 a7 w7 F7 M7
 clear F6 M2
 refine zm (zb rfl) rfl F7 M7 (k := 2) rfl _ _ _ rfl (F7.get rfl) (F7.get rfl) (#[.slice A0 b.length c0]) _ rfl (zL rfl) (by first | rfl | simp [Value.oneCell']) (zn rfl) (by kernel_rfl) ?_
 intro w8 M8
 clear M7
 refine hK4 _ _ (zS fun _ hK9 => ?_)
 refine zR ?_
 refine zh (zb rfl) rfl F7 rfl M8 3 (t := 37) (c := recA ⟨0, "".toUTF8, [], 0, 0, [], 0, 0, 0⟩ ⟨zN, zN⟩) (by unfold execOp; kernel_rfl) ?_
 intro g10 a10 w10 F10 M10
 clear F7 M8
 refine hK9 _ _ (zS fun _ hK11 => ?_)
 refine zR ?_
 refine zg (zb rfl) rfl F10 rfl rfl (zE Tryz.func128 rfl) #[.pointer (some ⟨g7, 0, none⟩)] (zx (F10.get rfl)) (roctet_any g7 b (.slice A0 b.length c0) hl w10 (M10.blk (k := 2) rfl) (M10.isb (k := 0) rfl) (fun hb => M10.dis 2 0 _ _ rfl rfl (by decide) rfl g7 rfl hb)) ?_
 rintro _ w12 a12 ⟨rfl, u12, hu12, hs12, hc12, hg12⟩ F12
 have M12 := M10.took0 (k := 2) (ku := 0) rfl hg12 hc12 4 hu12 hs12 rfl
 clear M10 hg12 hc12
 obtain ⟨A12u, c12u, rfl⟩ := hu12.shape
 clear hu12
 refine rn rfl rfl F12 rfl (.pointer (some ⟨g10, 0, none⟩)) (y_fa (off := 0) rfl (F12.get rfl) (by kernel_rfl) rfl) fun _ F13 => ?_
 refine zm (zb rfl) rfl F13 M12 (k := 3) rfl _ _ _ rfl (F13.get rfl) (F13.get rfl) (#[.int .i64 ((zp (b.take 1) : Nat) : Int)]) (recA ⟨((zp (b.take 1) : Nat) : Int), "".toUTF8, [], 0, 0, [], 0, 0, 0⟩ ⟨zN, zN⟩) rfl (zL rfl) (z5b _ _) (by kernel_rfl) (by kernel_rfl) ?_
 intro w14 M14
 clear M12
 refine hK11 _ _ (zS fun _ hK15 => ?_)
 refine zR ?_
 refine zg (zb rfl) rfl F13 rfl rfl (zE Tryz.func129 rfl) #[.pointer (some ⟨g7, 0, none⟩)] (zx (F13.get rfl)) (rcounted_ex g7 (b.drop 1) (.slice A12u ((b.drop 1)).length c12u) (Nat.le_trans (zab _ _) hl) w14 (M14.blk (k := 2) rfl) (M14.isb (k := 4) rfl) (fun hb => M14.dis 2 4 _ _ rfl rfl (by decide) rfl g7 rfl hb)) ?_
 rintro v16 w16 a16 ⟨u16, hv16, hu16, hs16, hc16, hg16⟩ F16
 have M16 := M14.took (k := 2) (ku := 4) rfl hg16 hc16 6 5 hv16 hu16 hs16 rfl rfl
 clear M14 hg16 hc16
 obtain ⟨A16u, c16u, rfl⟩ := hu16.shape
 clear hu16
 clear hv16
 obtain ⟨A16, c16, rfl⟩ := (M16.isO (k := 6) rfl).shape
 refine rn rfl rfl F16 rfl (.string (⟨((cV (b.drop 1))).toArray⟩)) (y_str _ rfl (F16.get rfl) (M16.isO (k := 6) rfl)) fun _ F17 => ?_
 refine rn rfl rfl F17 rfl (.pointer (some ⟨g10, 1, none⟩)) (y_fa (off := 1) rfl (F17.get rfl) (by kernel_rfl) rfl) fun _ F18 => ?_
 refine zm (zb rfl) rfl F18 M16 (k := 3) rfl _ _ _ rfl (F18.get rfl) (F18.get rfl) (#[.string (⟨((cV (b.drop 1))).toArray⟩)]) (recA ⟨((zp (b.take 1) : Nat) : Int), ⟨((cV (b.drop 1))).toArray⟩, [], 0, 0, [], 0, 0, 0⟩ ⟨zN, zN⟩) rfl (zL rfl) (one_str _) (by kernel_rfl) (by kernel_rfl) ?_
 intro w19 M19
 clear M16
 refine hK15 _ _ (zS fun _ hK20 => ?_)
 refine zR ?_
 refine zg (zb rfl) rfl F18 rfl rfl (zE Tryz.func129 rfl) #[.pointer (some ⟨g7, 0, none⟩)] (zx (F18.get rfl)) (rcounted_ex g7 (cR (b.drop 1)) (.slice A16u ((cR (b.drop 1))).length c16u) (Nat.le_trans (cR_len _) (Nat.le_trans (zab _ _) hl)) w19 (M19.blk (k := 2) rfl) (M19.isb (k := 5) rfl) (fun hb => M19.dis 2 5 _ _ rfl rfl (by decide) rfl g7 rfl hb)) ?_
 rintro v21 w21 a21 ⟨u21, hv21, hu21, hs21, hc21, hg21⟩ F21
 have M21 := M19.took (k := 2) (ku := 5) rfl hg21 hc21 8 7 hv21 hu21 hs21 rfl rfl
 clear M19 hg21 hc21
 obtain ⟨A21u, c21u, rfl⟩ := hu21.shape
 clear hu21
 clear hv21
 obtain ⟨A21, c21, rfl⟩ := (M21.isO (k := 8) rfl).shape
 refine rn rfl rfl F21 rfl (.pointer (some ⟨g10, 2, none⟩)) (y_fa (off := 2) rfl (F21.get rfl) (by kernel_rfl) rfl) fun _ F22 => ?_
 refine zm (zb rfl) rfl F22 M21 (k := 3) rfl _ _ _ rfl (F22.get rfl) (F22.get rfl) (#[.slice A21 ((cV (cR (b.drop 1)))).length c21]) (recA ⟨((zp (b.take 1) : Nat) : Int), ⟨((cV (b.drop 1))).toArray⟩, (cV (cR (b.drop 1))), 0, 0, [], 0, 0, 0⟩ ⟨.slice A21 ((cV (cR (b.drop 1)))).length c21, zN⟩) rfl (zL rfl) (one_slc rfl) (by kernel_rfl) (by kernel_rfl) ?_
 intro w23 M23
 clear M21
 refine hK20 _ _ (zS fun _ hK24 => ?_)
 refine zR ?_
 refine zg (zb rfl) rfl F22 rfl rfl (zE Tryz.func129 rfl) #[.pointer (some ⟨g7, 0, none⟩)] (zx (F22.get rfl)) (rcounted_ex g7 (cR (cR (b.drop 1))) (.slice A21u ((cR (cR (b.drop 1)))).length c21u) (Nat.le_trans (cR_len _) (Nat.le_trans (cR_len _) (Nat.le_trans (zab _ _) hl))) w23 (M23.blk (k := 2) rfl) (M23.isb (k := 7) rfl) (fun hb => M23.dis 2 7 _ _ rfl rfl (by decide) rfl g7 rfl hb)) ?_
 rintro v25 w25 a25 ⟨u25, hv25, hu25, hs25, hc25, hg25⟩ F25
 have M25 := M23.took (k := 2) (ku := 7) rfl hg25 hc25 10 9 hv25 hu25 hs25 rfl rfl
 clear M23 hg25 hc25
 obtain ⟨A25u, c25u, rfl⟩ := hu25.shape
 clear hu25
 clear hv25
 obtain ⟨A25, c25, rfl⟩ := (M25.isO (k := 10) rfl).shape
 refine rn rfl rfl F25 rfl (.pointer (some ⟨g10, 19, none⟩)) (y_fa (off := 19) rfl (F25.get rfl) (by kernel_rfl) rfl) fun _ F26 => ?_
 refine zm (zb rfl) rfl F26 M25 (k := 3) rfl _ _ _ rfl (F26.get rfl) (F26.get rfl) (#[.slice A25 ((cV (cR (cR (b.drop 1))))).length c25]) (recA ⟨((zp (b.take 1) : Nat) : Int), ⟨((cV (b.drop 1))).toArray⟩, (cV (cR (b.drop 1))), 0, 0, (cV (cR (cR (b.drop 1)))), 0, 0, 0⟩ ⟨.slice A21 ((cV (cR (b.drop 1)))).length c21, .slice A25 ((cV (cR (cR (b.drop 1))))).length c25⟩) rfl (zL rfl) (one_slc rfl) (by kernel_rfl) (by kernel_rfl) ?_
 intro w27 M27
 clear M25
 refine hK24 _ _ (zS fun _ hK28 => ?_)
 refine zR ?_
 refine zg (zb rfl) rfl F26 rfl rfl (zE Tryz.func130 rfl) #[.pointer (some ⟨g7, 0, none⟩)] (zx (F26.get rfl)) (rfour_any g7 (cR (cR (cR (b.drop 1)))) (.slice A25u ((cR (cR (cR (b.drop 1))))).length c25u) (Nat.le_trans (cR_len _) (Nat.le_trans (cR_len _) (Nat.le_trans (cR_len _) (Nat.le_trans (zab _ _) hl)))) w27 (M27.blk (k := 2) rfl) (M27.isb (k := 9) rfl) (fun hb => M27.dis 2 9 _ _ rfl rfl (by decide) rfl g7 rfl hb)) ?_
 rintro _ w29 a29 ⟨rfl, u29, hu29, hs29, hc29, hg29⟩ F29
 have M29 := M27.took0 (k := 2) (ku := 9) rfl hg29 hc29 11 hu29 hs29 rfl
 clear M27 hg29 hc29
 obtain ⟨A29u, c29u, rfl⟩ := hu29.shape
 clear hu29
 refine rn rfl rfl F29 rfl (.pointer (some ⟨g10, 3, none⟩)) (y_fa (off := 3) rfl (F29.get rfl) (by kernel_rfl) rfl) fun _ F30 => ?_
 refine zm (zb rfl) rfl F30 M29 (k := 3) rfl _ _ _ rfl (F30.get rfl) (F30.get rfl) (numA (zqb ((cR (cR (cR (b.drop 1)))).take 4))) (recA ⟨((zp (b.take 1) : Nat) : Int), ⟨((cV (b.drop 1))).toArray⟩, (cV (cR (b.drop 1))), (zqb ((cR (cR (cR (b.drop 1)))).take 4)), 0, (cV (cR (cR (b.drop 1)))), 0, 0, 0⟩ ⟨.slice A21 ((cV (cR (b.drop 1)))).length c21, .slice A25 ((cV (cR (cR (b.drop 1))))).length c25⟩) rfl (zL rfl) (numA_one _) (by kernel_rfl) size26 ?_
 intro w31 M31
 clear M29
 refine hK28 _ _ (zS fun _ hK32 => ?_)
 refine zR ?_
 refine zg (zb rfl) rfl F30 rfl rfl (zE Tryz.func130 rfl) #[.pointer (some ⟨g7, 0, none⟩)] (zx (F30.get rfl)) (rfour_any g7 ((cR (cR (cR (b.drop 1)))).drop 4) (.slice A29u (((cR (cR (cR (b.drop 1)))).drop 4)).length c29u) (Nat.le_trans (zab _ _) (Nat.le_trans (cR_len _) (Nat.le_trans (cR_len _) (Nat.le_trans (cR_len _) (Nat.le_trans (zab _ _) hl))))) w31 (M31.blk (k := 2) rfl) (M31.isb (k := 11) rfl) (fun hb => M31.dis 2 11 _ _ rfl rfl (by decide) rfl g7 rfl hb)) ?_
 rintro _ w33 a33 ⟨rfl, u33, hu33, hs33, hc33, hg33⟩ F33
 have M33 := M31.took0 (k := 2) (ku := 11) rfl hg33 hc33 12 hu33 hs33 rfl
 clear M31 hg33 hc33
 obtain ⟨A33u, c33u, rfl⟩ := hu33.shape
 clear hu33
 refine rn rfl rfl F33 rfl (.pointer (some ⟨g10, 11, none⟩)) (y_fa (off := 11) rfl (F33.get rfl) (by kernel_rfl) rfl) fun _ F34 => ?_
 refine zm (zb rfl) rfl F34 M33 (k := 3) rfl _ _ _ rfl (F34.get rfl) (F34.get rfl) (numA (zqb (((cR (cR (cR (b.drop 1)))).drop 4).take 4))) (recA ⟨((zp (b.take 1) : Nat) : Int), ⟨((cV (b.drop 1))).toArray⟩, (cV (cR (b.drop 1))), (zqb ((cR (cR (cR (b.drop 1)))).take 4)), (zqb (((cR (cR (cR (b.drop 1)))).drop 4).take 4)), (cV (cR (cR (b.drop 1)))), 0, 0, 0⟩ ⟨.slice A21 ((cV (cR (b.drop 1)))).length c21, .slice A25 ((cV (cR (cR (b.drop 1))))).length c25⟩) rfl (zL rfl) (numA_one _) (by kernel_rfl) size26 ?_
 intro w35 M35
 clear M33
 refine hK32 _ _ (zS fun _ hK36 => ?_)
 refine zR ?_
 refine zg (zb rfl) rfl F34 rfl rfl (zE Tryz.func128 rfl) #[.pointer (some ⟨g7, 0, none⟩)] (zx (F34.get rfl)) (roctet_any g7 (((cR (cR (cR (b.drop 1)))).drop 4).drop 4) (.slice A33u ((((cR (cR (cR (b.drop 1)))).drop 4).drop 4)).length c33u) (Nat.le_trans (zab _ _) (Nat.le_trans (zab _ _) (Nat.le_trans (cR_len _) (Nat.le_trans (cR_len _) (Nat.le_trans (cR_len _) (Nat.le_trans (zab _ _) hl)))))) w35 (M35.blk (k := 2) rfl) (M35.isb (k := 12) rfl) (fun hb => M35.dis 2 12 _ _ rfl rfl (by decide) rfl g7 rfl hb)) ?_
 rintro _ w37 a37 ⟨rfl, u37, hu37, hs37, hc37, hg37⟩ F37
 have M37 := M35.took0 (k := 2) (ku := 12) rfl hg37 hc37 13 hu37 hs37 rfl
 clear M35 hg37 hc37
 obtain ⟨A37u, c37u, rfl⟩ := hu37.shape
 clear hu37
 refine rn rfl rfl F37 rfl (.pointer (some ⟨g10, 20, none⟩)) (y_fa (off := 20) rfl (F37.get rfl) (by kernel_rfl) rfl) fun _ F38 => ?_
 refine zm (zb rfl) rfl F38 M37 (k := 3) rfl _ _ _ rfl (F38.get rfl) (F38.get rfl) (#[.int .i64 ((zp ((((cR (cR (cR (b.drop 1)))).drop 4).drop 4).take 1) : Nat) : Int)]) (recA ⟨((zp (b.take 1) : Nat) : Int), ⟨((cV (b.drop 1))).toArray⟩, (cV (cR (b.drop 1))), (zqb ((cR (cR (cR (b.drop 1)))).take 4)), (zqb (((cR (cR (cR (b.drop 1)))).drop 4).take 4)), (cV (cR (cR (b.drop 1)))), ((zp ((((cR (cR (cR (b.drop 1)))).drop 4).drop 4).take 1) : Nat) : Int), 0, 0⟩ ⟨.slice A21 ((cV (cR (b.drop 1)))).length c21, .slice A25 ((cV (cR (cR (b.drop 1))))).length c25⟩) rfl (zL rfl) (z5b _ _) (by kernel_rfl) (by kernel_rfl) ?_
 intro w39 M39
 clear M37
 refine hK36 _ _ (zS fun _ hK40 => ?_)
 refine zR ?_
 refine zg (zb rfl) rfl F38 rfl rfl (zE Tryz.func131 rfl) #[.pointer (some ⟨g7, 0, none⟩), .int .i64 8] (zha (F38.get rfl) rfl) (rnumber_any g7 ((((cR (cR (cR (b.drop 1)))).drop 4).drop 4).drop 1) (.slice A37u (((((cR (cR (cR (b.drop 1)))).drop 4).drop 4).drop 1)).length c37u) 8 (Nat.le_trans (zab _ _) (Nat.le_trans (zab _ _) (Nat.le_trans (zab _ _) (Nat.le_trans (cR_len _) (Nat.le_trans (cR_len _) (Nat.le_trans (cR_len _) (Nat.le_trans (zab _ _) hl))))))) (by omega) w39 (M39.blk (k := 2) rfl) (M39.isb (k := 13) rfl) (fun hb => M39.dis 2 13 _ _ rfl rfl (by decide) rfl g7 rfl hb)) ?_
 rintro _ w41 a41 ⟨rfl, u41, hu41, hs41, hc41, hg41⟩ F41
 have M41 := M39.took0 (k := 2) (ku := 13) rfl hg41 hc41 14 hu41 hs41 rfl
 clear M39 hg41 hc41
 obtain ⟨A41u, c41u, rfl⟩ := hu41.shape
 clear hu41
 refine rn rfl rfl F41 rfl (.pointer (some ⟨g10, 21, none⟩)) (y_fa (off := 21) rfl (F41.get rfl) (by kernel_rfl) rfl) fun _ F42 => ?_
 refine zm (zb rfl) rfl F42 M41 (k := 3) rfl _ _ _ rfl (F42.get rfl) (F42.get rfl) (#[.int .i64 (numI (((((cR (cR (cR (b.drop 1)))).drop 4).drop 4).drop 1).take 8))]) (recA ⟨((zp (b.take 1) : Nat) : Int), ⟨((cV (b.drop 1))).toArray⟩, (cV (cR (b.drop 1))), (zqb ((cR (cR (cR (b.drop 1)))).take 4)), (zqb (((cR (cR (cR (b.drop 1)))).drop 4).take 4)), (cV (cR (cR (b.drop 1)))), ((zp ((((cR (cR (cR (b.drop 1)))).drop 4).drop 4).take 1) : Nat) : Int), (numI (((((cR (cR (cR (b.drop 1)))).drop 4).drop 4).drop 1).take 8)), 0⟩ ⟨.slice A21 ((cV (cR (b.drop 1)))).length c21, .slice A25 ((cV (cR (cR (b.drop 1))))).length c25⟩) rfl (zL rfl) (z5b _ _) (by kernel_rfl) (by kernel_rfl) ?_
 intro w43 M43
 clear M41
 refine hK40 _ _ (zS fun _ hK44 => ?_)
 refine zR ?_
 refine zg (zb rfl) rfl F42 rfl rfl (zE Tryz.func131 rfl) #[.pointer (some ⟨g7, 0, none⟩), .int .i64 8] (zha (F42.get rfl) rfl) (rnumber_any g7 (((((cR (cR (cR (b.drop 1)))).drop 4).drop 4).drop 1).drop 8) (.slice A41u ((((((cR (cR (cR (b.drop 1)))).drop 4).drop 4).drop 1).drop 8)).length c41u) 8 (Nat.le_trans (zab _ _) (Nat.le_trans (zab _ _) (Nat.le_trans (zab _ _) (Nat.le_trans (zab _ _) (Nat.le_trans (cR_len _) (Nat.le_trans (cR_len _) (Nat.le_trans (cR_len _) (Nat.le_trans (zab _ _) hl)))))))) (by omega) w43 (M43.blk (k := 2) rfl) (M43.isb (k := 14) rfl) (fun hb => M43.dis 2 14 _ _ rfl rfl (by decide) rfl g7 rfl hb)) ?_
 rintro _ w45 a45 ⟨rfl, u45, hu45, hs45, hc45, hg45⟩ F45
 have M45 := M43.took0 (k := 2) (ku := 14) rfl hg45 hc45 15 hu45 hs45 rfl
 clear M43 hg45 hc45
 obtain ⟨A45u, c45u, rfl⟩ := hu45.shape
 clear hu45
 refine rn rfl rfl F45 rfl (.pointer (some ⟨g10, 22, none⟩)) (y_fa (off := 22) rfl (F45.get rfl) (by kernel_rfl) rfl) fun _ F46 => ?_
 refine zm (zb rfl) rfl F46 M45 (k := 3) rfl _ _ _ rfl (F46.get rfl) (F46.get rfl) (#[.int .i64 (numI ((((((cR (cR (cR (b.drop 1)))).drop 4).drop 4).drop 1).drop 8).take 8))]) (recA ⟨((zp (b.take 1) : Nat) : Int), ⟨((cV (b.drop 1))).toArray⟩, (cV (cR (b.drop 1))), (zqb ((cR (cR (cR (b.drop 1)))).take 4)), (zqb (((cR (cR (cR (b.drop 1)))).drop 4).take 4)), (cV (cR (cR (b.drop 1)))), ((zp ((((cR (cR (cR (b.drop 1)))).drop 4).drop 4).take 1) : Nat) : Int), (numI (((((cR (cR (cR (b.drop 1)))).drop 4).drop 4).drop 1).take 8)), (numI ((((((cR (cR (cR (b.drop 1)))).drop 4).drop 4).drop 1).drop 8).take 8))⟩ ⟨.slice A21 ((cV (cR (b.drop 1)))).length c21, .slice A25 ((cV (cR (cR (b.drop 1))))).length c25⟩) rfl (zL rfl) (z5b _ _) (by kernel_rfl) (by kernel_rfl) ?_
 intro w47 M47
 clear M45
 refine hK44 _ _ (zS fun _ hK48 => ?_)
 refine zR ?_
 refine rn rfl rfl F46 rfl _ (zna _ _ rfl (F46.get rfl) (M47.blk (k := 3) rfl) (recA ⟨((zp (b.take 1) : Nat) : Int), ⟨((cV (b.drop 1))).toArray⟩, (cV (cR (b.drop 1))), (zqb ((cR (cR (cR (b.drop 1)))).take 4)), (zqb (((cR (cR (cR (b.drop 1)))).drop 4).take 4)), (cV (cR (cR (b.drop 1)))), ((zp ((((cR (cR (cR (b.drop 1)))).drop 4).drop 4).take 1) : Nat) : Int), (numI (((((cR (cR (cR (b.drop 1)))).drop 4).drop 4).drop 1).take 8)), (numI ((((((cR (cR (cR (b.drop 1)))).drop 4).drop 4).drop 1).drop 8).take 8))⟩ ⟨.slice A21 ((cV (cR (b.drop 1)))).length c21, .slice A25 ((cV (cR (cR (b.drop 1))))).length c25⟩) (zra rfl) Tryz.underlying37 rfl (by kernel_rfl)) fun _ F49 => ?_
 refine rm rfl F49 fun _ F50 => ?_
 have og2 := M47.owns (k := 8) rfl
 have og5 := M47.owns (k := 10) rfl
 have MT1 := (M47.tame (k := 8) rfl).tame (k := 10) rfl
 clear M47
 refine zg (zb rfl) rfl F50 rfl rfl (zE Tryz.func132 rfl) #[.agg (recA ⟨((zp (b.take 1) : Nat) : Int), ⟨((cV (b.drop 1))).toArray⟩, (cV (cR (b.drop 1))), (zqb ((cR (cR (cR (b.drop 1)))).take 4)), (zqb (((cR (cR (cR (b.drop 1)))).drop 4).take 4)), (cV (cR (cR (b.drop 1)))), ((zp ((((cR (cR (cR (b.drop 1)))).drop 4).drop 4).take 1) : Nat) : Int), (numI (((((cR (cR (cR (b.drop 1)))).drop 4).drop 4).drop 1).take 8)), (numI ((((((cR (cR (cR (b.drop 1)))).drop 4).drop 4).drop 1).drop 8).take 8))⟩ ⟨.slice A21 ((cV (cR (b.drop 1)))).length c21, .slice A25 ((cV (cR (cR (b.drop 1))))).length c25⟩), .func (.func 48) #[] #[], .slice A0 b.length c0] (args3 (F50.get rfl) rfl (F50.get rfl)) (provenR_any (rdM b) ⟨.slice A21 ((cV (cR (b.drop 1)))).length c21, .slice A25 ((cV (cR (cR (b.drop 1))))).length c25⟩ b (.slice A0 b.length c0) (rdM_ok b) w47 ⟨MT1.isb (k := 8) rfl, MT1.isb (k := 10) rfl⟩ (MT1.isb (k := 0) rfl)) ?_
 rintro _ w51 a51 ⟨V51, rfl, is51, lo51, b51⟩ F51
 have M51 := MT1.step b51
 replace M51 := M51.part 16 _ is51.h2 z0b rfl (k := 8) rfl rfl (fun g => (lo51 g).1)
 replace M51 := M51.part 17 _ is51.h5 z0b rfl (k := 10) rfl rfl (fun g => (lo51 g).2)
 refine zB 2 [(2, .pointer (some ⟨g2, 0, none⟩)), (3, .bool false), (30, .agg (recA (rdR b) V51)), (31, .bool (rdOk b))] [] dnil [] F51 fun _ F52 => ?_
 refine zm (zb rfl) rfl F52 M51 (k := 1) rfl _ _ _ rfl (F52.get rfl) (F52.get rfl) (recA (rdR b) V51) _ rfl (zL rfl) (zta is51) (zn rfl) (by kernel_rfl) ?_
 intro w53 M53
 clear M51
 refine rm rfl F52 fun _ F54 => ?_
 refine hK48 _ _ (wp_ret ?_)
 try simp only [Exit.then, Exit.inBlock, Exit.jump]
 exact bodyPost_ret (resCT rfl (F54.get rfl) (M53.blk (k := 1) rfl) (F54.get rfl) Tryz.underlying37 rfl (by kernel_rfl)) F54.defers ⟨V51, rfl, ⟨M53.isb (k := 16) rfl, M53.isb (k := 17) rfl⟩, (fun q h => h.elim (fun h => og2 q (zma ((lo51 q).1 h))) (fun h => og5 q (zma ((lo51 q).2 h)))), M53.below⟩
end Go.Proofs.YtmjbnmbobocpdaaGreat
namespace Go.Proofs.YtmjbnmbobocpdaaGreat
open Go.ChangeShapes Go.WideShapes Go.ChangeAt Go.RowKit
section
theorem byteI_nat {n : Nat} (h : n < 256) : (zy (n : Int)).toNat = n := by
  have := byteI_val (n : Int)
  omega
theorem readN_single (b : UInt8) : zp [b] = b.toNat := by simp [zp]
theorem drop_read (n k : Nat) (hk : k ≤ 32) (hn : n < 256 ^ (32 - k)) : zp ((zhb n).drop k) = n := by
  have h1 := read_take n k hk
  rw [Nat.div_eq_of_lt hn, Nat.zero_mod] at h1
  have h3 : n < 4294967296 ^ 8 := by
    have e : (256 : Nat) ^ 32 = 4294967296 ^ 8 := by decide
    rw [← e]
    exact Nat.lt_of_lt_of_le hn (Nat.pow_le_pow_right (by decide) (by omega))
  have h2 := read_bytes n h3
  rw [← List.take_append_drop k (zhb n), readN_append, h1] at h2
  omega
theorem eightI_bytes (N : Nat) : zw (N : Int) = (zhb N).drop 24 := by
  apply List.ext_getElem?
  intro j
  rw [List.getElem?_drop]
  by_cases hj : j < 8
  · rw [bytesN_get N (show 24 + j < 32 by omega)]
    simp only [zw, List.getElem?_map, List.getElem?_range hj, Option.map_some]
    congr 1
    have h1 := byteI_val ((N : Int) / 2 ^ (8 * (7 - j)))
    have h2 := byteN_toNat N (24 + j)
    have e : (2 : Int) ^ (8 * (7 - j)) = ((256 ^ (31 - (24 + j)) : Nat) : Int) := by
      rw [show 31 - (24 + j) = 7 - j by omega, Int.natCast_pow, Int.pow_mul]; rfl
    rw [e, ← Int.natCast_ediv] at h1
    apply UInt8.toNat_inj.1
    rw [e, ← Int.natCast_ediv]
    omega
  · rw [List.getElem?_eq_none_iff.2 (by rw [z4a]; omega), List.getElem?_eq_none_iff.2 (by rw [znb]; omega)]
theorem numI_eight {c : Int} (h0 : 0 ≤ c) (h1 : c < 9223372036854775808) : numI (zw c) = c := by
  obtain ⟨N, rfl⟩ : ∃ N : Nat, c = (N : Int) := ⟨c.toNat, by omega⟩
  have e : zp (zw (N : Int)) = N := by
    rw [eightI_bytes]
    exact drop_read N 24 (by decide) (Nat.lt_trans (m := 9223372036854775808) (by omega) (by decide))
  have hn : numOk (zw (N : Int)) = true := decide_eq_true ⟨by rw [z4a]; omega, by rw [e]; omega⟩
  unfold numI
  rw [if_pos hn, e]
theorem readO_four {a : Nat} (h : a < 4294967296) : zqb (fourL a) = a := by
  unfold zqb fourL
  rw [if_pos (by simp [znb]), drop_read a 28 (by decide) (Nat.lt_of_lt_of_le h (by decide))]
theorem sBy_mk (s : ByteArray) : (⟨(sBy s).toArray⟩ : ByteArray) = s := by cases s; simp [sBy]
theorem take_app {α : Type} {l r : List α} {n : Nat} (h : l.length = n) : (l ++ r).take n = l := by subst h; simp
theorem drop_app {α : Type} {l r : List α} {n : Nat} (h : l.length = n) : (l ++ r).drop n = r := by subst h; simp
theorem cnt_app {l r : List UInt8} (h : l.length < 256) : cV (zy (l.length : Int) :: (l ++ r)) = l ∧ cR (zy (l.length : Int) :: (l ++ r)) = r := by
  unfold cV cR
  simp only [List.drop_succ_cons, List.drop_zero, List.take_succ_cons, List.take_zero, readN_single]
  rw [byteI_nat h]
  exact ⟨take_app rfl, drop_app rfl⟩
structure RecFit (r : RecN) : Prop where
  p : 0 ≤ r.p ∧ r.p < 256
  s : (sBy r.s).length ≤ 16
  l2 : r.l2.length ≤ 16
  l5 : r.l5.length ≤ 48
  a : r.a < 4294967296
  b : r.b < 4294967296
  t : 0 ≤ r.t ∧ r.t < 256
  c : 0 ≤ r.c ∧ r.c < 9223372036854775808
  z : 0 ≤ r.z ∧ r.z < 9223372036854775808
theorem keep_fit {r : RecN} (ho : RecOk r) (h : zka r = true) : RecFit r := by
  obtain ⟨k1, k2, k3⟩ := keep_len h
  unfold zka at h
  simp only [Bool.and_eq_true, decide_eq_true_eq] at h
  obtain ⟨⟨⟨⟨⟨⟨⟨⟨⟨h1, h2⟩, h3⟩, h4⟩, h5⟩, h6⟩, h7⟩, h8⟩, h9⟩, h10⟩ := h
  have h1 := of_decide_eq_true h1
  have hc := ho.c
  have hz := ho.z
  exact ⟨by omega, k1, k2, k3, top_le ho.a h5, top_le ho.b h6, by omega, by omega, by omega⟩
theorem recL_is (r : RecN) : recL r = zy r.p :: (zy ((sBy r.s).length : Int) :: (sBy r.s ++ (zy (r.l2.length : Int) :: (r.l2 ++ (zy (r.l5.length : Int) :: (r.l5 ++ (fourL r.a ++ (fourL r.b ++ (zy r.t :: (zw r.c ++ zw r.z)))))))))) := by
  unfold recL cntL
  simp
theorem rdM_rec {r : RecN} (hf : RecFit r) : rdM (recL r) = r := by
  have ha : (fourL r.a).length = 4 := fourL_len _
  have hb : (fourL r.b).length = 4 := fourL_len _
  have hc : (zw r.c).length = 8 := z4a _
  have hz : (zw r.z).length = 8 := z4a _
  have hs := hf.s
  have h2 := hf.l2
  have h5 := hf.l5
  have hp := byteI_val r.p
  have ht := byteI_val r.t
  have hpp := hf.p
  have htt := hf.t
  have e1 : ((zp [zy r.p] : Nat) : Int) = r.p := by rw [readN_single]; omega
  have e2 : ((zp [zy r.t] : Nat) : Int) = r.t := by rw [readN_single]; omega
  rw [recL_is]
  unfold rdM
  simp only [List.drop_succ_cons, List.drop_zero, List.take_succ_cons, List.take_zero, (cnt_app (l := sBy r.s) (by omega)).1, (cnt_app (l := sBy r.s) (by omega)).2, (cnt_app (l := r.l2) (by omega)).1, (cnt_app (l := r.l2) (by omega)).2, (cnt_app (l := r.l5) (by omega)).1, (cnt_app (l := r.l5) (by omega)).2, take_app ha, drop_app ha, take_app hb, drop_app hb, take_app hc, drop_app hc, e1, e2, readO_four hf.a, readO_four hf.b, numI_eight hf.c.1 hf.c.2, numI_eight hf.z.1 hf.z.2, sBy_mk]
  rw [List.take_of_length_le (by omega), numI_eight hf.z.1 hf.z.2]
theorem rd_rec {r : RecN} (ho : RecOk r) (h : zka r = true) : rdOk (recE r) = true ∧ rdR (recE r) = r := by
  have hf := keep_fit ho h
  have e : recE r = recL r := if_pos h
  have e1 : rdM (recE r) = r := by rw [e]; exact rdM_rec hf
  have e2 : zrb (rdM (recE r)) (recE r) = true := by rw [e1, zrb, h]; simp
  exact ⟨e2, by unfold rdR provR; rw [if_pos e2, e1]⟩
end
end Go.Proofs.YtmjbnmbobocpdaaGreat
/- sponge: words turned; blocks known whole. -/
namespace Go.Proofs.YtmjbnmbobocpdaaGreat
open Go.ChangeShapes Go.WideShapes Go.ChangeAt Go.RowKit
def Blk (w : World) (b : Nat) (t : TypeId) (c : Array Value) : Prop := w.heap[b]? = some (.cells c t (0, 0))
section
variable {w w' : World} {b : Nat} {t : TypeId} {c : Array Value}
theorem Blk.lt (h : Blk w b t c) : b < w.heap.size := zxa h
theorem Blk.cell (h : Blk w b t c) {k : Nat} {v : Value} (hk : c[k]? = some v) : w.cell? ⟨b, k, none⟩ = some v := by
  unfold Blk at h
  simp [World.cell?, h, hk]
theorem Blk.frozen (h : Blk w b t c) (k : Nat) : w.frozen? ⟨b, k, none⟩ = false := by
  unfold Blk at h
  simp [World.frozen?, h]
theorem Blk.below {B : Nat} (h : Blk w b t c) (hb : Below B w w') (hl : b < B) : Blk w' b t c := (hb.block b hl).trans h
theorem Blk.step (h : Blk w b t c) (hb : Below w.heap.size w w') : Blk w' b t c := h.below hb h.lt
theorem Blk.grown {row : Option Nat} (h : Blk w b t c) (hg : w.grownBy w' row) (hn : some b ≠ row) : Blk w' b t c := (hg.block b h.lt hn).trans h
theorem Blk.alloc (h : Blk w b t c) (o : Obj) : Blk (w.alloc o) b t c := (Below.heap_alloc w o b h.lt).trans h
theorem Blk.new (w : World) (t : TypeId) (c : Array Value) : Blk (w.alloc (.cells c t)) w.heap.size t c := heap_alloc_new _ _
theorem Blk.drew (h : Blk w b t c) : Blk w.drew b t c := h
theorem Blk.set (h : Blk w b t c) (k : Nat) (v : Value) {c' : Array Value} (hc : c.setIfInBounds k v = c') : Blk (w.setCell ⟨b, k, none⟩ v) b t c' := by
  subst hc
  unfold Blk at *
  have hl := zxa h
  have hg : w.heap[b] = .cells c t (0, 0) := by simpa [hl] using h
  simp [World.setCell, hl, Array.getElem_modify, hg]
end
def xorW (x y : Int) : Int := bits .xor .u32 x y
def addW (x y : Int) : Int := (x + y) % 4294967296
def rotW (m x : Int) : Int := bits .or .u32 (x * m % 4294967296) (x / (4294967296 / m))
theorem w_bd (op : BinOp) (a b : Int) : 0 ≤ bits op .u32 a b ∧ bits op .u32 a b < 4294967296 := by
  have := wrap_within .u32 (bits op .u32 a b)
  unfold bits
  rw [IntKind.wrap_u32]
  omega
theorem zea (x y : Int) : 0 ≤ xorW x y ∧ xorW x y < 4294967296 := w_bd _ _ _
theorem rotW_bd (m x : Int) : 0 ≤ rotW m x ∧ rotW m x < 4294967296 := w_bd _ _ _
theorem addW_bd (x y : Int) : 0 ≤ addW x y ∧ addW x y < 4294967296 := by unfold addW; omega
theorem rot16 (x : Int) (h0 : 0 ≤ x) (h1 : x < 4294967296) (w : World) :
    Calls Tryz.prog 157 #[.int .u32 x, .int .i64 16] w fun e w' => e = .returned (.int .u32 (rotW 65536 x)) ∧ w' = w := by
  have hb : bits BinOp.and IntKind.u64 16 31 = 16 := by decide
  go_enter Tryz.func157, Tryz.ntmps157
  go_wp2
  go_ret
  exact ⟨rfl, rfl⟩
theorem rot12 (x : Int) (h0 : 0 ≤ x) (h1 : x < 4294967296) (w : World) :
    Calls Tryz.prog 157 #[.int .u32 x, .int .i64 12] w fun e w' => e = .returned (.int .u32 (rotW 4096 x)) ∧ w' = w := by
  have hb : bits BinOp.and IntKind.u64 12 31 = 12 := by decide
  go_enter Tryz.func157, Tryz.ntmps157
  go_wp2
  go_ret
  exact ⟨rfl, rfl⟩
theorem rot8 (x : Int) (h0 : 0 ≤ x) (h1 : x < 4294967296) (w : World) :
    Calls Tryz.prog 157 #[.int .u32 x, .int .i64 8] w fun e w' => e = .returned (.int .u32 (rotW 256 x)) ∧ w' = w := by
  have hb : bits BinOp.and IntKind.u64 8 31 = 8 := by decide
  go_enter Tryz.func157, Tryz.ntmps157
  go_wp2
  go_ret
  exact ⟨rfl, rfl⟩
theorem rot7 (x : Int) (h0 : 0 ≤ x) (h1 : x < 4294967296) (w : World) :
    Calls Tryz.prog 157 #[.int .u32 x, .int .i64 7] w fun e w' => e = .returned (.int .u32 (rotW 128 x)) ∧ w' = w := by
  have hb : bits BinOp.and IntKind.u64 7 31 = 7 := by decide
  go_enter Tryz.func157, Tryz.ntmps157
  go_wp2
  go_ret
  exact ⟨rfl, rfl⟩
attribute [irreducible] rotW xorW addW
end Go.Proofs.YtmjbnmbobocpdaaGreat
namespace Go.Proofs.YtmjbnmbobocpdaaGreat
open Go.ChangeShapes Go.WideShapes Go.ChangeAt Go.RowKit
def q1a (a b c d : Int) : Int := addW a b
def q1d (a b c d : Int) : Int := rotW 65536 (xorW d (q1a a b c d))
def q1c (a b c d : Int) : Int := addW c (q1d a b c d)
def q1b (a b c d : Int) : Int := rotW 4096 (xorW b (q1c a b c d))
def qa (a b c d : Int) : Int := addW (q1a a b c d) (q1b a b c d)
def qd (a b c d : Int) : Int := rotW 256 (xorW (q1d a b c d) (qa a b c d))
def qc (a b c d : Int) : Int := addW (q1c a b c d) (qd a b c d)
def qb (a b c d : Int) : Int := rotW 128 (xorW (q1b a b c d) (qc a b c d))
theorem q1a_bd (a b c d : Int) : 0 ≤ q1a a b c d ∧ q1a a b c d < 4294967296 := addW_bd _ _
theorem q1b_bd (a b c d : Int) : 0 ≤ q1b a b c d ∧ q1b a b c d < 4294967296 := rotW_bd _ _
theorem q1c_bd (a b c d : Int) : 0 ≤ q1c a b c d ∧ q1c a b c d < 4294967296 := addW_bd _ _
theorem q1d_bd (a b c d : Int) : 0 ≤ q1d a b c d ∧ q1d a b c d < 4294967296 := rotW_bd _ _
theorem qa_bd (a b c d : Int) : 0 ≤ qa a b c d ∧ qa a b c d < 4294967296 := addW_bd _ _
theorem qb_bd (a b c d : Int) : 0 ≤ qb a b c d ∧ qb a b c d < 4294967296 := rotW_bd _ _
theorem qc_bd (a b c d : Int) : 0 ≤ qc a b c d ∧ qc a b c d < 4294967296 := addW_bd _ _
theorem qd_bd (a b c d : Int) : 0 ≤ qd a b c d ∧ qd a b c d < 4294967296 := rotW_bd _ _
theorem zva {a w : World} {row : Option Nat} (h : a.grownBy w row) : a.grownBy w.drew row := ⟨h.os, h.tape, h.output, h.size, h.block⟩
theorem quarter_p0 (b : Nat) (t : TypeId) (x0 x1 x2 x3 x4 x5 x6 x7 : Int) (h0 : 0 ≤ x0 ∧ x0 < 4294967296) (h1 : 0 ≤ x1 ∧ x1 < 4294967296) (h2 : 0 ≤ x2 ∧ x2 < 4294967296) (h3 : 0 ≤ x3 ∧ x3 < 4294967296) (h4 : 0 ≤ x4 ∧ x4 < 4294967296) (h5 : 0 ≤ x5 ∧ x5 < 4294967296) (h6 : 0 ≤ x6 ∧ x6 < 4294967296) (h7 : 0 ≤ x7 ∧ x7 < 4294967296) (w : World) (hb : Blk w b t #[Value.int .u32 x0, .int .u32 x1, .int .u32 x2, .int .u32 x3, .int .u32 x4, .int .u32 x5, .int .u32 x6, .int .u32 x7]) :
    Calls Tryz.prog 156 #[.pointer (some ⟨b, 0, none⟩), .pointer (some ⟨b, 1, none⟩), .pointer (some ⟨b, 2, none⟩), .pointer (some ⟨b, 3, none⟩)] w fun e w' => e = .returned (.tuple #[]) ∧ w.grownBy w' (some b) ∧ Blk w' b t #[Value.int .u32 (qa x0 x1 x2 x3), .int .u32 (qb x0 x1 x2 x3), .int .u32 (qc x0 x1 x2 x3), .int .u32 (qd x0 x1 x2 x3), .int .u32 x4, .int .u32 x5, .int .u32 x6, .int .u32 x7] := by
  have g := World.grownBy.refl w (some b)
  go_enter Tryz.func156, Tryz.ntmps156
  go_wp2
  have k1 := (hb.drew).cell (k := 0) (v := .int .u32 x0) rfl
  have k2 := (hb.drew).cell (k := 1) (v := .int .u32 x1) rfl
  have k3 := (hb.drew).frozen 0
  have e1 : IntKind.u32.wrap (x0 + x1) = (q1a x0 x1 x2 x3) := by rw [IntKind.wrap_u32]; unfold q1a addW; rfl
  have := h0.1
  have := h0.2
  have := h1.1
  have := h1.2
  refine wp_region_still_tail 8 (by kernel_rfl) (by kernel_rfl) ?_
  simp only [List.take_succ_cons, List.take_zero, List.drop_succ_cons, List.drop_zero]
  change wpStill _ _ (World.drew _) _ _ _
  still_step; still_step; still_step; still_step; still_step; still_step; still_step; still_step
  refine wpStill_nil ?_
  change wpList _ _ _ _ _ (World.drew _)
  clear e1
  go_wp2
  have hbx := (hb.set 0 (.int .u32 (q1a x0 x1 x2 x3)) (c' := #[Value.int .u32 ((q1a x0 x1 x2 x3)), .int .u32 x1, .int .u32 x2, .int .u32 x3, .int .u32 x4, .int .u32 x5, .int .u32 x6, .int .u32 x7]) rfl).drew
  have gx := zva (zk (p := ⟨b, 0, none⟩) g rfl (.int .u32 (q1a x0 x1 x2 x3)))
  generalize World.drew (World.setCell _ _ _) = w1 at *
  clear k1 k2 k3 hb g
  have k1 := (hbx.drew).cell (k := 3) (v := .int .u32 x3) rfl
  have k2 := (hbx.drew).cell (k := 0) (v := .int .u32 (q1a x0 x1 x2 x3)) rfl
  have k3 := (hbx.drew).frozen 3
  have e1 : bits .xor .u32 x3 (q1a x0 x1 x2 x3) = xorW x3 (q1a x0 x1 x2 x3) := by unfold xorW; rfl
  have := (q1a_bd x0 x1 x2 x3).1
  have := (q1a_bd x0 x1 x2 x3).2
  have := h3.1
  have := h3.2
  refine wp_region_still_tail 10 (by kernel_rfl) (by kernel_rfl) ?_
  simp only [List.take_succ_cons, List.take_zero, List.drop_succ_cons, List.drop_zero]
  change wpStill _ _ (World.drew _) _ _ _
  still_step; still_step; still_step; still_step; still_step; still_step; still_step; still_step
  still_call (rot16 _ (zea _ _).1 (zea _ _).2 _)
  still_step
  refine wpStill_nil ?_
  change wpList _ _ _ _ _ (World.drew _)
  rw [show rotW 65536 (xorW x3 (q1a x0 x1 x2 x3)) = (q1d x0 x1 x2 x3) by unfold q1d; rfl]
  clear e1
  go_wp2
  have hbxx := (hbx.set 3 (.int .u32 (q1d x0 x1 x2 x3)) (c' := #[Value.int .u32 ((q1a x0 x1 x2 x3)), .int .u32 x1, .int .u32 x2, .int .u32 ((q1d x0 x1 x2 x3)), .int .u32 x4, .int .u32 x5, .int .u32 x6, .int .u32 x7]) rfl).drew
  have gxx := zva (zk (p := ⟨b, 3, none⟩) gx rfl (.int .u32 (q1d x0 x1 x2 x3)))
  generalize World.drew (World.setCell _ _ _) = w2 at *
  clear k1 k2 k3 hbx gx
  have k1 := (hbxx.drew).cell (k := 2) (v := .int .u32 x2) rfl
  have k2 := (hbxx.drew).cell (k := 3) (v := .int .u32 (q1d x0 x1 x2 x3)) rfl
  have k3 := (hbxx.drew).frozen 2
  have e1 : IntKind.u32.wrap (x2 + (q1d x0 x1 x2 x3)) = (q1c x0 x1 x2 x3) := by rw [IntKind.wrap_u32]; unfold q1c addW; rfl
  have := (q1d_bd x0 x1 x2 x3).1
  have := (q1d_bd x0 x1 x2 x3).2
  have := h2.1
  have := h2.2
  refine wp_region_still_tail 8 (by kernel_rfl) (by kernel_rfl) ?_
  simp only [List.take_succ_cons, List.take_zero, List.drop_succ_cons, List.drop_zero]
  change wpStill _ _ (World.drew _) _ _ _
  still_step; still_step; still_step; still_step; still_step; still_step; still_step; still_step
  refine wpStill_nil ?_
  change wpList _ _ _ _ _ (World.drew _)
  clear e1
  go_wp2
  have hbxxx := (hbxx.set 2 (.int .u32 (q1c x0 x1 x2 x3)) (c' := #[Value.int .u32 ((q1a x0 x1 x2 x3)), .int .u32 x1, .int .u32 ((q1c x0 x1 x2 x3)), .int .u32 ((q1d x0 x1 x2 x3)), .int .u32 x4, .int .u32 x5, .int .u32 x6, .int .u32 x7]) rfl).drew
  have gxxx := zva (zk (p := ⟨b, 2, none⟩) gxx rfl (.int .u32 (q1c x0 x1 x2 x3)))
  generalize World.drew (World.setCell _ _ _) = w3 at *
  clear k1 k2 k3 hbxx gxx
  have k1 := (hbxxx.drew).cell (k := 1) (v := .int .u32 x1) rfl
  have k2 := (hbxxx.drew).cell (k := 2) (v := .int .u32 (q1c x0 x1 x2 x3)) rfl
  have k3 := (hbxxx.drew).frozen 1
  have e1 : bits .xor .u32 x1 (q1c x0 x1 x2 x3) = xorW x1 (q1c x0 x1 x2 x3) := by unfold xorW; rfl
  have := (q1c_bd x0 x1 x2 x3).1
  have := (q1c_bd x0 x1 x2 x3).2
  have := h1.1
  have := h1.2
  refine wp_region_still_tail 10 (by kernel_rfl) (by kernel_rfl) ?_
  simp only [List.take_succ_cons, List.take_zero, List.drop_succ_cons, List.drop_zero]
  change wpStill _ _ (World.drew _) _ _ _
  still_step; still_step; still_step; still_step; still_step; still_step; still_step; still_step
  still_call (rot12 _ (zea _ _).1 (zea _ _).2 _)
  still_step
  refine wpStill_nil ?_
  change wpList _ _ _ _ _ (World.drew _)
  rw [show rotW 4096 (xorW x1 (q1c x0 x1 x2 x3)) = (q1b x0 x1 x2 x3) by unfold q1b; rfl]
  clear e1
  go_wp2
  have hbxxxx := (hbxxx.set 1 (.int .u32 (q1b x0 x1 x2 x3)) (c' := #[Value.int .u32 ((q1a x0 x1 x2 x3)), .int .u32 ((q1b x0 x1 x2 x3)), .int .u32 ((q1c x0 x1 x2 x3)), .int .u32 ((q1d x0 x1 x2 x3)), .int .u32 x4, .int .u32 x5, .int .u32 x6, .int .u32 x7]) rfl).drew
  have gxxxx := zva (zk (p := ⟨b, 1, none⟩) gxxx rfl (.int .u32 (q1b x0 x1 x2 x3)))
  generalize World.drew (World.setCell _ _ _) = w4 at *
  clear k1 k2 k3 hbxxx gxxx
  have k1 := (hbxxxx.drew).cell (k := 0) (v := .int .u32 (q1a x0 x1 x2 x3)) rfl
  have k2 := (hbxxxx.drew).cell (k := 1) (v := .int .u32 (q1b x0 x1 x2 x3)) rfl
  have k3 := (hbxxxx.drew).frozen 0
  have e1 : IntKind.u32.wrap ((q1a x0 x1 x2 x3) + (q1b x0 x1 x2 x3)) = (qa x0 x1 x2 x3) := by rw [IntKind.wrap_u32]; unfold qa addW; rfl
  have := (q1a_bd x0 x1 x2 x3).1
  have := (q1a_bd x0 x1 x2 x3).2
  have := (q1b_bd x0 x1 x2 x3).1
  have := (q1b_bd x0 x1 x2 x3).2
  refine wp_region_still_tail 8 (by kernel_rfl) (by kernel_rfl) ?_
  simp only [List.take_succ_cons, List.take_zero, List.drop_succ_cons, List.drop_zero]
  change wpStill _ _ (World.drew _) _ _ _
  still_step; still_step; still_step; still_step; still_step; still_step; still_step; still_step
  refine wpStill_nil ?_
  change wpList _ _ _ _ _ (World.drew _)
  clear e1
  go_wp2
  have hbxxxxx := (hbxxxx.set 0 (.int .u32 (qa x0 x1 x2 x3)) (c' := #[Value.int .u32 ((qa x0 x1 x2 x3)), .int .u32 ((q1b x0 x1 x2 x3)), .int .u32 ((q1c x0 x1 x2 x3)), .int .u32 ((q1d x0 x1 x2 x3)), .int .u32 x4, .int .u32 x5, .int .u32 x6, .int .u32 x7]) rfl).drew
  have gxxxxx := zva (zk (p := ⟨b, 0, none⟩) gxxxx rfl (.int .u32 (qa x0 x1 x2 x3)))
  generalize World.drew (World.setCell _ _ _) = w5 at *
  clear k1 k2 k3 hbxxxx gxxxx
  have k1 := (hbxxxxx.drew).cell (k := 3) (v := .int .u32 (q1d x0 x1 x2 x3)) rfl
  have k2 := (hbxxxxx.drew).cell (k := 0) (v := .int .u32 (qa x0 x1 x2 x3)) rfl
  have k3 := (hbxxxxx.drew).frozen 3
  have e1 : bits .xor .u32 (q1d x0 x1 x2 x3) (qa x0 x1 x2 x3) = xorW (q1d x0 x1 x2 x3) (qa x0 x1 x2 x3) := by unfold xorW; rfl
  have := (q1d_bd x0 x1 x2 x3).1
  have := (q1d_bd x0 x1 x2 x3).2
  have := (qa_bd x0 x1 x2 x3).1
  have := (qa_bd x0 x1 x2 x3).2
  refine wp_region_still_tail 10 (by kernel_rfl) (by kernel_rfl) ?_
  simp only [List.take_succ_cons, List.take_zero, List.drop_succ_cons, List.drop_zero]
  change wpStill _ _ (World.drew _) _ _ _
  still_step; still_step; still_step; still_step; still_step; still_step; still_step; still_step
  still_call (rot8 _ (zea _ _).1 (zea _ _).2 _)
  still_step
  refine wpStill_nil ?_
  change wpList _ _ _ _ _ (World.drew _)
  rw [show rotW 256 (xorW (q1d x0 x1 x2 x3) (qa x0 x1 x2 x3)) = (qd x0 x1 x2 x3) by unfold qd; rfl]
  clear e1
  go_wp2
  have hbxxxxxx := (hbxxxxx.set 3 (.int .u32 (qd x0 x1 x2 x3)) (c' := #[Value.int .u32 ((qa x0 x1 x2 x3)), .int .u32 ((q1b x0 x1 x2 x3)), .int .u32 ((q1c x0 x1 x2 x3)), .int .u32 ((qd x0 x1 x2 x3)), .int .u32 x4, .int .u32 x5, .int .u32 x6, .int .u32 x7]) rfl).drew
  have gxxxxxx := zva (zk (p := ⟨b, 3, none⟩) gxxxxx rfl (.int .u32 (qd x0 x1 x2 x3)))
  generalize World.drew (World.setCell _ _ _) = w6 at *
  clear k1 k2 k3 hbxxxxx gxxxxx
  have k1 := (hbxxxxxx.drew).cell (k := 2) (v := .int .u32 (q1c x0 x1 x2 x3)) rfl
  have k2 := (hbxxxxxx.drew).cell (k := 3) (v := .int .u32 (qd x0 x1 x2 x3)) rfl
  have k3 := (hbxxxxxx.drew).frozen 2
  have e1 : IntKind.u32.wrap ((q1c x0 x1 x2 x3) + (qd x0 x1 x2 x3)) = (qc x0 x1 x2 x3) := by rw [IntKind.wrap_u32]; unfold qc addW; rfl
  have := (q1c_bd x0 x1 x2 x3).1
  have := (q1c_bd x0 x1 x2 x3).2
  have := (qd_bd x0 x1 x2 x3).1
  have := (qd_bd x0 x1 x2 x3).2
  refine wp_region_still_tail 8 (by kernel_rfl) (by kernel_rfl) ?_
  simp only [List.take_succ_cons, List.take_zero, List.drop_succ_cons, List.drop_zero]
  change wpStill _ _ (World.drew _) _ _ _
  still_step; still_step; still_step; still_step; still_step; still_step; still_step; still_step
  refine wpStill_nil ?_
  change wpList _ _ _ _ _ (World.drew _)
  clear e1
  go_wp2
  have hbxxxxxxx := (hbxxxxxx.set 2 (.int .u32 (qc x0 x1 x2 x3)) (c' := #[Value.int .u32 ((qa x0 x1 x2 x3)), .int .u32 ((q1b x0 x1 x2 x3)), .int .u32 ((qc x0 x1 x2 x3)), .int .u32 ((qd x0 x1 x2 x3)), .int .u32 x4, .int .u32 x5, .int .u32 x6, .int .u32 x7]) rfl).drew
  have gxxxxxxx := zva (zk (p := ⟨b, 2, none⟩) gxxxxxx rfl (.int .u32 (qc x0 x1 x2 x3)))
  generalize World.drew (World.setCell _ _ _) = w7 at *
  clear k1 k2 k3 hbxxxxxx gxxxxxx
  have k1 := (hbxxxxxxx.drew).cell (k := 1) (v := .int .u32 (q1b x0 x1 x2 x3)) rfl
  have k2 := (hbxxxxxxx.drew).cell (k := 2) (v := .int .u32 (qc x0 x1 x2 x3)) rfl
  have k3 := (hbxxxxxxx.drew).frozen 1
  have e1 : bits .xor .u32 (q1b x0 x1 x2 x3) (qc x0 x1 x2 x3) = xorW (q1b x0 x1 x2 x3) (qc x0 x1 x2 x3) := by unfold xorW; rfl
  have := (q1b_bd x0 x1 x2 x3).1
  have := (q1b_bd x0 x1 x2 x3).2
  have := (qc_bd x0 x1 x2 x3).1
  have := (qc_bd x0 x1 x2 x3).2
  refine wp_region_still_tail 10 (by kernel_rfl) (by kernel_rfl) ?_
  simp only [List.take_succ_cons, List.take_zero, List.drop_succ_cons, List.drop_zero]
  change wpStill _ _ (World.drew _) _ _ _
  still_step; still_step; still_step; still_step; still_step; still_step; still_step; still_step
  still_call (rot7 _ (zea _ _).1 (zea _ _).2 _)
  still_step
  refine wpStill_nil ?_
  change wpList _ _ _ _ _ (World.drew _)
  rw [show rotW 128 (xorW (q1b x0 x1 x2 x3) (qc x0 x1 x2 x3)) = (qb x0 x1 x2 x3) by unfold qb; rfl]
  clear e1
  go_wp2
  have hbxxxxxxxx := (hbxxxxxxx.set 1 (.int .u32 (qb x0 x1 x2 x3)) (c' := #[Value.int .u32 ((qa x0 x1 x2 x3)), .int .u32 ((qb x0 x1 x2 x3)), .int .u32 ((qc x0 x1 x2 x3)), .int .u32 ((qd x0 x1 x2 x3)), .int .u32 x4, .int .u32 x5, .int .u32 x6, .int .u32 x7]) rfl).drew
  have gxxxxxxxx := zva (zk (p := ⟨b, 1, none⟩) gxxxxxxx rfl (.int .u32 (qb x0 x1 x2 x3)))
  generalize World.drew (World.setCell _ _ _) = w8 at *
  clear k1 k2 k3 hbxxxxxxx gxxxxxxx
  exact ⟨rfl, .tuple #[], (by kernel_rfl), rfl, gxxxxxxxx, hbxxxxxxxx⟩
theorem quarter_p1 (b : Nat) (t : TypeId) (x0 x1 x2 x3 x4 x5 x6 x7 : Int) (h0 : 0 ≤ x0 ∧ x0 < 4294967296) (h1 : 0 ≤ x1 ∧ x1 < 4294967296) (h2 : 0 ≤ x2 ∧ x2 < 4294967296) (h3 : 0 ≤ x3 ∧ x3 < 4294967296) (h4 : 0 ≤ x4 ∧ x4 < 4294967296) (h5 : 0 ≤ x5 ∧ x5 < 4294967296) (h6 : 0 ≤ x6 ∧ x6 < 4294967296) (h7 : 0 ≤ x7 ∧ x7 < 4294967296) (w : World) (hb : Blk w b t #[Value.int .u32 x0, .int .u32 x1, .int .u32 x2, .int .u32 x3, .int .u32 x4, .int .u32 x5, .int .u32 x6, .int .u32 x7]) :
    Calls Tryz.prog 156 #[.pointer (some ⟨b, 4, none⟩), .pointer (some ⟨b, 5, none⟩), .pointer (some ⟨b, 6, none⟩), .pointer (some ⟨b, 7, none⟩)] w fun e w' => e = .returned (.tuple #[]) ∧ w.grownBy w' (some b) ∧ Blk w' b t #[Value.int .u32 x0, .int .u32 x1, .int .u32 x2, .int .u32 x3, .int .u32 (qa x4 x5 x6 x7), .int .u32 (qb x4 x5 x6 x7), .int .u32 (qc x4 x5 x6 x7), .int .u32 (qd x4 x5 x6 x7)] := by
  have g := World.grownBy.refl w (some b)
  go_enter Tryz.func156, Tryz.ntmps156
  go_wp2
  have k1 := (hb.drew).cell (k := 4) (v := .int .u32 x4) rfl
  have k2 := (hb.drew).cell (k := 5) (v := .int .u32 x5) rfl
  have k3 := (hb.drew).frozen 4
  have e1 : IntKind.u32.wrap (x4 + x5) = (q1a x4 x5 x6 x7) := by rw [IntKind.wrap_u32]; unfold q1a addW; rfl
  have := h4.1
  have := h4.2
  have := h5.1
  have := h5.2
  refine wp_region_still_tail 8 (by kernel_rfl) (by kernel_rfl) ?_
  simp only [List.take_succ_cons, List.take_zero, List.drop_succ_cons, List.drop_zero]
  change wpStill _ _ (World.drew _) _ _ _
  still_step; still_step; still_step; still_step; still_step; still_step; still_step; still_step
  refine wpStill_nil ?_
  change wpList _ _ _ _ _ (World.drew _)
  clear e1
  go_wp2
  have hbx := (hb.set 4 (.int .u32 (q1a x4 x5 x6 x7)) (c' := #[Value.int .u32 x0, .int .u32 x1, .int .u32 x2, .int .u32 x3, .int .u32 ((q1a x4 x5 x6 x7)), .int .u32 x5, .int .u32 x6, .int .u32 x7]) rfl).drew
  have gx := zva (zk (p := ⟨b, 4, none⟩) g rfl (.int .u32 (q1a x4 x5 x6 x7)))
  generalize World.drew (World.setCell _ _ _) = w1 at *
  clear k1 k2 k3 hb g
  have k1 := (hbx.drew).cell (k := 7) (v := .int .u32 x7) rfl
  have k2 := (hbx.drew).cell (k := 4) (v := .int .u32 (q1a x4 x5 x6 x7)) rfl
  have k3 := (hbx.drew).frozen 7
  have e1 : bits .xor .u32 x7 (q1a x4 x5 x6 x7) = xorW x7 (q1a x4 x5 x6 x7) := by unfold xorW; rfl
  have := (q1a_bd x4 x5 x6 x7).1
  have := (q1a_bd x4 x5 x6 x7).2
  have := h7.1
  have := h7.2
  refine wp_region_still_tail 10 (by kernel_rfl) (by kernel_rfl) ?_
  simp only [List.take_succ_cons, List.take_zero, List.drop_succ_cons, List.drop_zero]
  change wpStill _ _ (World.drew _) _ _ _
  still_step; still_step; still_step; still_step; still_step; still_step; still_step; still_step
  still_call (rot16 _ (zea _ _).1 (zea _ _).2 _)
  still_step
  refine wpStill_nil ?_
  change wpList _ _ _ _ _ (World.drew _)
  rw [show rotW 65536 (xorW x7 (q1a x4 x5 x6 x7)) = (q1d x4 x5 x6 x7) by unfold q1d; rfl]
  clear e1
  go_wp2
  have hbxx := (hbx.set 7 (.int .u32 (q1d x4 x5 x6 x7)) (c' := #[Value.int .u32 x0, .int .u32 x1, .int .u32 x2, .int .u32 x3, .int .u32 ((q1a x4 x5 x6 x7)), .int .u32 x5, .int .u32 x6, .int .u32 ((q1d x4 x5 x6 x7))]) rfl).drew
  have gxx := zva (zk (p := ⟨b, 7, none⟩) gx rfl (.int .u32 (q1d x4 x5 x6 x7)))
  generalize World.drew (World.setCell _ _ _) = w2 at *
  clear k1 k2 k3 hbx gx
  have k1 := (hbxx.drew).cell (k := 6) (v := .int .u32 x6) rfl
  have k2 := (hbxx.drew).cell (k := 7) (v := .int .u32 (q1d x4 x5 x6 x7)) rfl
  have k3 := (hbxx.drew).frozen 6
  have e1 : IntKind.u32.wrap (x6 + (q1d x4 x5 x6 x7)) = (q1c x4 x5 x6 x7) := by rw [IntKind.wrap_u32]; unfold q1c addW; rfl
  have := (q1d_bd x4 x5 x6 x7).1
  have := (q1d_bd x4 x5 x6 x7).2
  have := h6.1
  have := h6.2
  refine wp_region_still_tail 8 (by kernel_rfl) (by kernel_rfl) ?_
  simp only [List.take_succ_cons, List.take_zero, List.drop_succ_cons, List.drop_zero]
  change wpStill _ _ (World.drew _) _ _ _
  still_step; still_step; still_step; still_step; still_step; still_step; still_step; still_step
  refine wpStill_nil ?_
  change wpList _ _ _ _ _ (World.drew _)
  clear e1
  go_wp2
  have hbxxx := (hbxx.set 6 (.int .u32 (q1c x4 x5 x6 x7)) (c' := #[Value.int .u32 x0, .int .u32 x1, .int .u32 x2, .int .u32 x3, .int .u32 ((q1a x4 x5 x6 x7)), .int .u32 x5, .int .u32 ((q1c x4 x5 x6 x7)), .int .u32 ((q1d x4 x5 x6 x7))]) rfl).drew
  have gxxx := zva (zk (p := ⟨b, 6, none⟩) gxx rfl (.int .u32 (q1c x4 x5 x6 x7)))
  generalize World.drew (World.setCell _ _ _) = w3 at *
  clear k1 k2 k3 hbxx gxx
  have k1 := (hbxxx.drew).cell (k := 5) (v := .int .u32 x5) rfl
  have k2 := (hbxxx.drew).cell (k := 6) (v := .int .u32 (q1c x4 x5 x6 x7)) rfl
  have k3 := (hbxxx.drew).frozen 5
  have e1 : bits .xor .u32 x5 (q1c x4 x5 x6 x7) = xorW x5 (q1c x4 x5 x6 x7) := by unfold xorW; rfl
  have := (q1c_bd x4 x5 x6 x7).1
  have := (q1c_bd x4 x5 x6 x7).2
  have := h5.1
  have := h5.2
  refine wp_region_still_tail 10 (by kernel_rfl) (by kernel_rfl) ?_
  simp only [List.take_succ_cons, List.take_zero, List.drop_succ_cons, List.drop_zero]
  change wpStill _ _ (World.drew _) _ _ _
  still_step; still_step; still_step; still_step; still_step; still_step; still_step; still_step
  still_call (rot12 _ (zea _ _).1 (zea _ _).2 _)
  still_step
  refine wpStill_nil ?_
  change wpList _ _ _ _ _ (World.drew _)
  rw [show rotW 4096 (xorW x5 (q1c x4 x5 x6 x7)) = (q1b x4 x5 x6 x7) by unfold q1b; rfl]
  clear e1
  go_wp2
  have hbxxxx := (hbxxx.set 5 (.int .u32 (q1b x4 x5 x6 x7)) (c' := #[Value.int .u32 x0, .int .u32 x1, .int .u32 x2, .int .u32 x3, .int .u32 ((q1a x4 x5 x6 x7)), .int .u32 ((q1b x4 x5 x6 x7)), .int .u32 ((q1c x4 x5 x6 x7)), .int .u32 ((q1d x4 x5 x6 x7))]) rfl).drew
  have gxxxx := zva (zk (p := ⟨b, 5, none⟩) gxxx rfl (.int .u32 (q1b x4 x5 x6 x7)))
  generalize World.drew (World.setCell _ _ _) = w4 at *
  clear k1 k2 k3 hbxxx gxxx
  have k1 := (hbxxxx.drew).cell (k := 4) (v := .int .u32 (q1a x4 x5 x6 x7)) rfl
  have k2 := (hbxxxx.drew).cell (k := 5) (v := .int .u32 (q1b x4 x5 x6 x7)) rfl
  have k3 := (hbxxxx.drew).frozen 4
  have e1 : IntKind.u32.wrap ((q1a x4 x5 x6 x7) + (q1b x4 x5 x6 x7)) = (qa x4 x5 x6 x7) := by rw [IntKind.wrap_u32]; unfold qa addW; rfl
  have := (q1a_bd x4 x5 x6 x7).1
  have := (q1a_bd x4 x5 x6 x7).2
  have := (q1b_bd x4 x5 x6 x7).1
  have := (q1b_bd x4 x5 x6 x7).2
  refine wp_region_still_tail 8 (by kernel_rfl) (by kernel_rfl) ?_
  simp only [List.take_succ_cons, List.take_zero, List.drop_succ_cons, List.drop_zero]
  change wpStill _ _ (World.drew _) _ _ _
  still_step; still_step; still_step; still_step; still_step; still_step; still_step; still_step
  refine wpStill_nil ?_
  change wpList _ _ _ _ _ (World.drew _)
  clear e1
  go_wp2
  have hbxxxxx := (hbxxxx.set 4 (.int .u32 (qa x4 x5 x6 x7)) (c' := #[Value.int .u32 x0, .int .u32 x1, .int .u32 x2, .int .u32 x3, .int .u32 ((qa x4 x5 x6 x7)), .int .u32 ((q1b x4 x5 x6 x7)), .int .u32 ((q1c x4 x5 x6 x7)), .int .u32 ((q1d x4 x5 x6 x7))]) rfl).drew
  have gxxxxx := zva (zk (p := ⟨b, 4, none⟩) gxxxx rfl (.int .u32 (qa x4 x5 x6 x7)))
  generalize World.drew (World.setCell _ _ _) = w5 at *
  clear k1 k2 k3 hbxxxx gxxxx
  have k1 := (hbxxxxx.drew).cell (k := 7) (v := .int .u32 (q1d x4 x5 x6 x7)) rfl
  have k2 := (hbxxxxx.drew).cell (k := 4) (v := .int .u32 (qa x4 x5 x6 x7)) rfl
  have k3 := (hbxxxxx.drew).frozen 7
  have e1 : bits .xor .u32 (q1d x4 x5 x6 x7) (qa x4 x5 x6 x7) = xorW (q1d x4 x5 x6 x7) (qa x4 x5 x6 x7) := by unfold xorW; rfl
  have := (q1d_bd x4 x5 x6 x7).1
  have := (q1d_bd x4 x5 x6 x7).2
  have := (qa_bd x4 x5 x6 x7).1
  have := (qa_bd x4 x5 x6 x7).2
  refine wp_region_still_tail 10 (by kernel_rfl) (by kernel_rfl) ?_
  simp only [List.take_succ_cons, List.take_zero, List.drop_succ_cons, List.drop_zero]
  change wpStill _ _ (World.drew _) _ _ _
  still_step; still_step; still_step; still_step; still_step; still_step; still_step; still_step
  still_call (rot8 _ (zea _ _).1 (zea _ _).2 _)
  still_step
  refine wpStill_nil ?_
  change wpList _ _ _ _ _ (World.drew _)
  rw [show rotW 256 (xorW (q1d x4 x5 x6 x7) (qa x4 x5 x6 x7)) = (qd x4 x5 x6 x7) by unfold qd; rfl]
  clear e1
  go_wp2
  have hbxxxxxx := (hbxxxxx.set 7 (.int .u32 (qd x4 x5 x6 x7)) (c' := #[Value.int .u32 x0, .int .u32 x1, .int .u32 x2, .int .u32 x3, .int .u32 ((qa x4 x5 x6 x7)), .int .u32 ((q1b x4 x5 x6 x7)), .int .u32 ((q1c x4 x5 x6 x7)), .int .u32 ((qd x4 x5 x6 x7))]) rfl).drew
  have gxxxxxx := zva (zk (p := ⟨b, 7, none⟩) gxxxxx rfl (.int .u32 (qd x4 x5 x6 x7)))
  generalize World.drew (World.setCell _ _ _) = w6 at *
  clear k1 k2 k3 hbxxxxx gxxxxx
  have k1 := (hbxxxxxx.drew).cell (k := 6) (v := .int .u32 (q1c x4 x5 x6 x7)) rfl
  have k2 := (hbxxxxxx.drew).cell (k := 7) (v := .int .u32 (qd x4 x5 x6 x7)) rfl
  have k3 := (hbxxxxxx.drew).frozen 6
  have e1 : IntKind.u32.wrap ((q1c x4 x5 x6 x7) + (qd x4 x5 x6 x7)) = (qc x4 x5 x6 x7) := by rw [IntKind.wrap_u32]; unfold qc addW; rfl
  have := (q1c_bd x4 x5 x6 x7).1
  have := (q1c_bd x4 x5 x6 x7).2
  have := (qd_bd x4 x5 x6 x7).1
  have := (qd_bd x4 x5 x6 x7).2
  refine wp_region_still_tail 8 (by kernel_rfl) (by kernel_rfl) ?_
  simp only [List.take_succ_cons, List.take_zero, List.drop_succ_cons, List.drop_zero]
  change wpStill _ _ (World.drew _) _ _ _
  still_step; still_step; still_step; still_step; still_step; still_step; still_step; still_step
  refine wpStill_nil ?_
  change wpList _ _ _ _ _ (World.drew _)
  clear e1
  go_wp2
  have hbxxxxxxx := (hbxxxxxx.set 6 (.int .u32 (qc x4 x5 x6 x7)) (c' := #[Value.int .u32 x0, .int .u32 x1, .int .u32 x2, .int .u32 x3, .int .u32 ((qa x4 x5 x6 x7)), .int .u32 ((q1b x4 x5 x6 x7)), .int .u32 ((qc x4 x5 x6 x7)), .int .u32 ((qd x4 x5 x6 x7))]) rfl).drew
  have gxxxxxxx := zva (zk (p := ⟨b, 6, none⟩) gxxxxxx rfl (.int .u32 (qc x4 x5 x6 x7)))
  generalize World.drew (World.setCell _ _ _) = w7 at *
  clear k1 k2 k3 hbxxxxxx gxxxxxx
  have k1 := (hbxxxxxxx.drew).cell (k := 5) (v := .int .u32 (q1b x4 x5 x6 x7)) rfl
  have k2 := (hbxxxxxxx.drew).cell (k := 6) (v := .int .u32 (qc x4 x5 x6 x7)) rfl
  have k3 := (hbxxxxxxx.drew).frozen 5
  have e1 : bits .xor .u32 (q1b x4 x5 x6 x7) (qc x4 x5 x6 x7) = xorW (q1b x4 x5 x6 x7) (qc x4 x5 x6 x7) := by unfold xorW; rfl
  have := (q1b_bd x4 x5 x6 x7).1
  have := (q1b_bd x4 x5 x6 x7).2
  have := (qc_bd x4 x5 x6 x7).1
  have := (qc_bd x4 x5 x6 x7).2
  refine wp_region_still_tail 10 (by kernel_rfl) (by kernel_rfl) ?_
  simp only [List.take_succ_cons, List.take_zero, List.drop_succ_cons, List.drop_zero]
  change wpStill _ _ (World.drew _) _ _ _
  still_step; still_step; still_step; still_step; still_step; still_step; still_step; still_step
  still_call (rot7 _ (zea _ _).1 (zea _ _).2 _)
  still_step
  refine wpStill_nil ?_
  change wpList _ _ _ _ _ (World.drew _)
  rw [show rotW 128 (xorW (q1b x4 x5 x6 x7) (qc x4 x5 x6 x7)) = (qb x4 x5 x6 x7) by unfold qb; rfl]
  clear e1
  go_wp2
  have hbxxxxxxxx := (hbxxxxxxx.set 5 (.int .u32 (qb x4 x5 x6 x7)) (c' := #[Value.int .u32 x0, .int .u32 x1, .int .u32 x2, .int .u32 x3, .int .u32 ((qa x4 x5 x6 x7)), .int .u32 ((qb x4 x5 x6 x7)), .int .u32 ((qc x4 x5 x6 x7)), .int .u32 ((qd x4 x5 x6 x7))]) rfl).drew
  have gxxxxxxxx := zva (zk (p := ⟨b, 5, none⟩) gxxxxxxx rfl (.int .u32 (qb x4 x5 x6 x7)))
  generalize World.drew (World.setCell _ _ _) = w8 at *
  clear k1 k2 k3 hbxxxxxxx gxxxxxxx
  exact ⟨rfl, .tuple #[], (by kernel_rfl), rfl, gxxxxxxxx, hbxxxxxxxx⟩
theorem quarter_p2 (b : Nat) (t : TypeId) (x0 x1 x2 x3 x4 x5 x6 x7 : Int) (h0 : 0 ≤ x0 ∧ x0 < 4294967296) (h1 : 0 ≤ x1 ∧ x1 < 4294967296) (h2 : 0 ≤ x2 ∧ x2 < 4294967296) (h3 : 0 ≤ x3 ∧ x3 < 4294967296) (h4 : 0 ≤ x4 ∧ x4 < 4294967296) (h5 : 0 ≤ x5 ∧ x5 < 4294967296) (h6 : 0 ≤ x6 ∧ x6 < 4294967296) (h7 : 0 ≤ x7 ∧ x7 < 4294967296) (w : World) (hb : Blk w b t #[Value.int .u32 x0, .int .u32 x1, .int .u32 x2, .int .u32 x3, .int .u32 x4, .int .u32 x5, .int .u32 x6, .int .u32 x7]) :
    Calls Tryz.prog 156 #[.pointer (some ⟨b, 0, none⟩), .pointer (some ⟨b, 5, none⟩), .pointer (some ⟨b, 2, none⟩), .pointer (some ⟨b, 7, none⟩)] w fun e w' => e = .returned (.tuple #[]) ∧ w.grownBy w' (some b) ∧ Blk w' b t #[Value.int .u32 (qa x0 x5 x2 x7), .int .u32 x1, .int .u32 (qc x0 x5 x2 x7), .int .u32 x3, .int .u32 x4, .int .u32 (qb x0 x5 x2 x7), .int .u32 x6, .int .u32 (qd x0 x5 x2 x7)] := by
  have g := World.grownBy.refl w (some b)
  go_enter Tryz.func156, Tryz.ntmps156
  go_wp2
  have k1 := (hb.drew).cell (k := 0) (v := .int .u32 x0) rfl
  have k2 := (hb.drew).cell (k := 5) (v := .int .u32 x5) rfl
  have k3 := (hb.drew).frozen 0
  have e1 : IntKind.u32.wrap (x0 + x5) = (q1a x0 x5 x2 x7) := by rw [IntKind.wrap_u32]; unfold q1a addW; rfl
  have := h0.1
  have := h0.2
  have := h5.1
  have := h5.2
  refine wp_region_still_tail 8 (by kernel_rfl) (by kernel_rfl) ?_
  simp only [List.take_succ_cons, List.take_zero, List.drop_succ_cons, List.drop_zero]
  change wpStill _ _ (World.drew _) _ _ _
  still_step; still_step; still_step; still_step; still_step; still_step; still_step; still_step
  refine wpStill_nil ?_
  change wpList _ _ _ _ _ (World.drew _)
  clear e1
  go_wp2
  have hbx := (hb.set 0 (.int .u32 (q1a x0 x5 x2 x7)) (c' := #[Value.int .u32 ((q1a x0 x5 x2 x7)), .int .u32 x1, .int .u32 x2, .int .u32 x3, .int .u32 x4, .int .u32 x5, .int .u32 x6, .int .u32 x7]) rfl).drew
  have gx := zva (zk (p := ⟨b, 0, none⟩) g rfl (.int .u32 (q1a x0 x5 x2 x7)))
  generalize World.drew (World.setCell _ _ _) = w1 at *
  clear k1 k2 k3 hb g
  have k1 := (hbx.drew).cell (k := 7) (v := .int .u32 x7) rfl
  have k2 := (hbx.drew).cell (k := 0) (v := .int .u32 (q1a x0 x5 x2 x7)) rfl
  have k3 := (hbx.drew).frozen 7
  have e1 : bits .xor .u32 x7 (q1a x0 x5 x2 x7) = xorW x7 (q1a x0 x5 x2 x7) := by unfold xorW; rfl
  have := (q1a_bd x0 x5 x2 x7).1
  have := (q1a_bd x0 x5 x2 x7).2
  have := h7.1
  have := h7.2
  refine wp_region_still_tail 10 (by kernel_rfl) (by kernel_rfl) ?_
  simp only [List.take_succ_cons, List.take_zero, List.drop_succ_cons, List.drop_zero]
  change wpStill _ _ (World.drew _) _ _ _
  still_step; still_step; still_step; still_step; still_step; still_step; still_step; still_step
  still_call (rot16 _ (zea _ _).1 (zea _ _).2 _)
  still_step
  refine wpStill_nil ?_
  change wpList _ _ _ _ _ (World.drew _)
  rw [show rotW 65536 (xorW x7 (q1a x0 x5 x2 x7)) = (q1d x0 x5 x2 x7) by unfold q1d; rfl]
  clear e1
  go_wp2
  have hbxx := (hbx.set 7 (.int .u32 (q1d x0 x5 x2 x7)) (c' := #[Value.int .u32 ((q1a x0 x5 x2 x7)), .int .u32 x1, .int .u32 x2, .int .u32 x3, .int .u32 x4, .int .u32 x5, .int .u32 x6, .int .u32 ((q1d x0 x5 x2 x7))]) rfl).drew
  have gxx := zva (zk (p := ⟨b, 7, none⟩) gx rfl (.int .u32 (q1d x0 x5 x2 x7)))
  generalize World.drew (World.setCell _ _ _) = w2 at *
  clear k1 k2 k3 hbx gx
  have k1 := (hbxx.drew).cell (k := 2) (v := .int .u32 x2) rfl
  have k2 := (hbxx.drew).cell (k := 7) (v := .int .u32 (q1d x0 x5 x2 x7)) rfl
  have k3 := (hbxx.drew).frozen 2
  have e1 : IntKind.u32.wrap (x2 + (q1d x0 x5 x2 x7)) = (q1c x0 x5 x2 x7) := by rw [IntKind.wrap_u32]; unfold q1c addW; rfl
  have := (q1d_bd x0 x5 x2 x7).1
  have := (q1d_bd x0 x5 x2 x7).2
  have := h2.1
  have := h2.2
  refine wp_region_still_tail 8 (by kernel_rfl) (by kernel_rfl) ?_
  simp only [List.take_succ_cons, List.take_zero, List.drop_succ_cons, List.drop_zero]
  change wpStill _ _ (World.drew _) _ _ _
  still_step; still_step; still_step; still_step; still_step; still_step; still_step; still_step
  refine wpStill_nil ?_
  change wpList _ _ _ _ _ (World.drew _)
  clear e1
  go_wp2
  have hbxxx := (hbxx.set 2 (.int .u32 (q1c x0 x5 x2 x7)) (c' := #[Value.int .u32 ((q1a x0 x5 x2 x7)), .int .u32 x1, .int .u32 ((q1c x0 x5 x2 x7)), .int .u32 x3, .int .u32 x4, .int .u32 x5, .int .u32 x6, .int .u32 ((q1d x0 x5 x2 x7))]) rfl).drew
  have gxxx := zva (zk (p := ⟨b, 2, none⟩) gxx rfl (.int .u32 (q1c x0 x5 x2 x7)))
  generalize World.drew (World.setCell _ _ _) = w3 at *
  clear k1 k2 k3 hbxx gxx
  have k1 := (hbxxx.drew).cell (k := 5) (v := .int .u32 x5) rfl
  have k2 := (hbxxx.drew).cell (k := 2) (v := .int .u32 (q1c x0 x5 x2 x7)) rfl
  have k3 := (hbxxx.drew).frozen 5
  have e1 : bits .xor .u32 x5 (q1c x0 x5 x2 x7) = xorW x5 (q1c x0 x5 x2 x7) := by unfold xorW; rfl
  have := (q1c_bd x0 x5 x2 x7).1
  have := (q1c_bd x0 x5 x2 x7).2
  have := h5.1
  have := h5.2
  refine wp_region_still_tail 10 (by kernel_rfl) (by kernel_rfl) ?_
  simp only [List.take_succ_cons, List.take_zero, List.drop_succ_cons, List.drop_zero]
  change wpStill _ _ (World.drew _) _ _ _
  still_step; still_step; still_step; still_step; still_step; still_step; still_step; still_step
  still_call (rot12 _ (zea _ _).1 (zea _ _).2 _)
  still_step
  refine wpStill_nil ?_
  change wpList _ _ _ _ _ (World.drew _)
  rw [show rotW 4096 (xorW x5 (q1c x0 x5 x2 x7)) = (q1b x0 x5 x2 x7) by unfold q1b; rfl]
  clear e1
  go_wp2
  have hbxxxx := (hbxxx.set 5 (.int .u32 (q1b x0 x5 x2 x7)) (c' := #[Value.int .u32 ((q1a x0 x5 x2 x7)), .int .u32 x1, .int .u32 ((q1c x0 x5 x2 x7)), .int .u32 x3, .int .u32 x4, .int .u32 ((q1b x0 x5 x2 x7)), .int .u32 x6, .int .u32 ((q1d x0 x5 x2 x7))]) rfl).drew
  have gxxxx := zva (zk (p := ⟨b, 5, none⟩) gxxx rfl (.int .u32 (q1b x0 x5 x2 x7)))
  generalize World.drew (World.setCell _ _ _) = w4 at *
  clear k1 k2 k3 hbxxx gxxx
  have k1 := (hbxxxx.drew).cell (k := 0) (v := .int .u32 (q1a x0 x5 x2 x7)) rfl
  have k2 := (hbxxxx.drew).cell (k := 5) (v := .int .u32 (q1b x0 x5 x2 x7)) rfl
  have k3 := (hbxxxx.drew).frozen 0
  have e1 : IntKind.u32.wrap ((q1a x0 x5 x2 x7) + (q1b x0 x5 x2 x7)) = (qa x0 x5 x2 x7) := by rw [IntKind.wrap_u32]; unfold qa addW; rfl
  have := (q1a_bd x0 x5 x2 x7).1
  have := (q1a_bd x0 x5 x2 x7).2
  have := (q1b_bd x0 x5 x2 x7).1
  have := (q1b_bd x0 x5 x2 x7).2
  refine wp_region_still_tail 8 (by kernel_rfl) (by kernel_rfl) ?_
  simp only [List.take_succ_cons, List.take_zero, List.drop_succ_cons, List.drop_zero]
  change wpStill _ _ (World.drew _) _ _ _
  still_step; still_step; still_step; still_step; still_step; still_step; still_step; still_step
  refine wpStill_nil ?_
  change wpList _ _ _ _ _ (World.drew _)
  clear e1
  go_wp2
  have hbxxxxx := (hbxxxx.set 0 (.int .u32 (qa x0 x5 x2 x7)) (c' := #[Value.int .u32 ((qa x0 x5 x2 x7)), .int .u32 x1, .int .u32 ((q1c x0 x5 x2 x7)), .int .u32 x3, .int .u32 x4, .int .u32 ((q1b x0 x5 x2 x7)), .int .u32 x6, .int .u32 ((q1d x0 x5 x2 x7))]) rfl).drew
  have gxxxxx := zva (zk (p := ⟨b, 0, none⟩) gxxxx rfl (.int .u32 (qa x0 x5 x2 x7)))
  generalize World.drew (World.setCell _ _ _) = w5 at *
  clear k1 k2 k3 hbxxxx gxxxx
  have k1 := (hbxxxxx.drew).cell (k := 7) (v := .int .u32 (q1d x0 x5 x2 x7)) rfl
  have k2 := (hbxxxxx.drew).cell (k := 0) (v := .int .u32 (qa x0 x5 x2 x7)) rfl
  have k3 := (hbxxxxx.drew).frozen 7
  have e1 : bits .xor .u32 (q1d x0 x5 x2 x7) (qa x0 x5 x2 x7) = xorW (q1d x0 x5 x2 x7) (qa x0 x5 x2 x7) := by unfold xorW; rfl
  have := (q1d_bd x0 x5 x2 x7).1
  have := (q1d_bd x0 x5 x2 x7).2
  have := (qa_bd x0 x5 x2 x7).1
  have := (qa_bd x0 x5 x2 x7).2
  refine wp_region_still_tail 10 (by kernel_rfl) (by kernel_rfl) ?_
  simp only [List.take_succ_cons, List.take_zero, List.drop_succ_cons, List.drop_zero]
  change wpStill _ _ (World.drew _) _ _ _
  still_step; still_step; still_step; still_step; still_step; still_step; still_step; still_step
  still_call (rot8 _ (zea _ _).1 (zea _ _).2 _)
  still_step
  refine wpStill_nil ?_
  change wpList _ _ _ _ _ (World.drew _)
  rw [show rotW 256 (xorW (q1d x0 x5 x2 x7) (qa x0 x5 x2 x7)) = (qd x0 x5 x2 x7) by unfold qd; rfl]
  clear e1
  go_wp2
  have hbxxxxxx := (hbxxxxx.set 7 (.int .u32 (qd x0 x5 x2 x7)) (c' := #[Value.int .u32 ((qa x0 x5 x2 x7)), .int .u32 x1, .int .u32 ((q1c x0 x5 x2 x7)), .int .u32 x3, .int .u32 x4, .int .u32 ((q1b x0 x5 x2 x7)), .int .u32 x6, .int .u32 ((qd x0 x5 x2 x7))]) rfl).drew
  have gxxxxxx := zva (zk (p := ⟨b, 7, none⟩) gxxxxx rfl (.int .u32 (qd x0 x5 x2 x7)))
  generalize World.drew (World.setCell _ _ _) = w6 at *
  clear k1 k2 k3 hbxxxxx gxxxxx
  have k1 := (hbxxxxxx.drew).cell (k := 2) (v := .int .u32 (q1c x0 x5 x2 x7)) rfl
  have k2 := (hbxxxxxx.drew).cell (k := 7) (v := .int .u32 (qd x0 x5 x2 x7)) rfl
  have k3 := (hbxxxxxx.drew).frozen 2
  have e1 : IntKind.u32.wrap ((q1c x0 x5 x2 x7) + (qd x0 x5 x2 x7)) = (qc x0 x5 x2 x7) := by rw [IntKind.wrap_u32]; unfold qc addW; rfl
  have := (q1c_bd x0 x5 x2 x7).1
  have := (q1c_bd x0 x5 x2 x7).2
  have := (qd_bd x0 x5 x2 x7).1
  have := (qd_bd x0 x5 x2 x7).2
  refine wp_region_still_tail 8 (by kernel_rfl) (by kernel_rfl) ?_
  simp only [List.take_succ_cons, List.take_zero, List.drop_succ_cons, List.drop_zero]
  change wpStill _ _ (World.drew _) _ _ _
  still_step; still_step; still_step; still_step; still_step; still_step; still_step; still_step
  refine wpStill_nil ?_
  change wpList _ _ _ _ _ (World.drew _)
  clear e1
  go_wp2
  have hbxxxxxxx := (hbxxxxxx.set 2 (.int .u32 (qc x0 x5 x2 x7)) (c' := #[Value.int .u32 ((qa x0 x5 x2 x7)), .int .u32 x1, .int .u32 ((qc x0 x5 x2 x7)), .int .u32 x3, .int .u32 x4, .int .u32 ((q1b x0 x5 x2 x7)), .int .u32 x6, .int .u32 ((qd x0 x5 x2 x7))]) rfl).drew
  have gxxxxxxx := zva (zk (p := ⟨b, 2, none⟩) gxxxxxx rfl (.int .u32 (qc x0 x5 x2 x7)))
  generalize World.drew (World.setCell _ _ _) = w7 at *
  clear k1 k2 k3 hbxxxxxx gxxxxxx
  have k1 := (hbxxxxxxx.drew).cell (k := 5) (v := .int .u32 (q1b x0 x5 x2 x7)) rfl
  have k2 := (hbxxxxxxx.drew).cell (k := 2) (v := .int .u32 (qc x0 x5 x2 x7)) rfl
  have k3 := (hbxxxxxxx.drew).frozen 5
  have e1 : bits .xor .u32 (q1b x0 x5 x2 x7) (qc x0 x5 x2 x7) = xorW (q1b x0 x5 x2 x7) (qc x0 x5 x2 x7) := by unfold xorW; rfl
  have := (q1b_bd x0 x5 x2 x7).1
  have := (q1b_bd x0 x5 x2 x7).2
  have := (qc_bd x0 x5 x2 x7).1
  have := (qc_bd x0 x5 x2 x7).2
  refine wp_region_still_tail 10 (by kernel_rfl) (by kernel_rfl) ?_
  simp only [List.take_succ_cons, List.take_zero, List.drop_succ_cons, List.drop_zero]
  change wpStill _ _ (World.drew _) _ _ _
  still_step; still_step; still_step; still_step; still_step; still_step; still_step; still_step
  still_call (rot7 _ (zea _ _).1 (zea _ _).2 _)
  still_step
  refine wpStill_nil ?_
  change wpList _ _ _ _ _ (World.drew _)
  rw [show rotW 128 (xorW (q1b x0 x5 x2 x7) (qc x0 x5 x2 x7)) = (qb x0 x5 x2 x7) by unfold qb; rfl]
  clear e1
  go_wp2
  have hbxxxxxxxx := (hbxxxxxxx.set 5 (.int .u32 (qb x0 x5 x2 x7)) (c' := #[Value.int .u32 ((qa x0 x5 x2 x7)), .int .u32 x1, .int .u32 ((qc x0 x5 x2 x7)), .int .u32 x3, .int .u32 x4, .int .u32 ((qb x0 x5 x2 x7)), .int .u32 x6, .int .u32 ((qd x0 x5 x2 x7))]) rfl).drew
  have gxxxxxxxx := zva (zk (p := ⟨b, 5, none⟩) gxxxxxxx rfl (.int .u32 (qb x0 x5 x2 x7)))
  generalize World.drew (World.setCell _ _ _) = w8 at *
  clear k1 k2 k3 hbxxxxxxx gxxxxxxx
  exact ⟨rfl, .tuple #[], (by kernel_rfl), rfl, gxxxxxxxx, hbxxxxxxxx⟩
theorem quarter_p3 (b : Nat) (t : TypeId) (x0 x1 x2 x3 x4 x5 x6 x7 : Int) (h0 : 0 ≤ x0 ∧ x0 < 4294967296) (h1 : 0 ≤ x1 ∧ x1 < 4294967296) (h2 : 0 ≤ x2 ∧ x2 < 4294967296) (h3 : 0 ≤ x3 ∧ x3 < 4294967296) (h4 : 0 ≤ x4 ∧ x4 < 4294967296) (h5 : 0 ≤ x5 ∧ x5 < 4294967296) (h6 : 0 ≤ x6 ∧ x6 < 4294967296) (h7 : 0 ≤ x7 ∧ x7 < 4294967296) (w : World) (hb : Blk w b t #[Value.int .u32 x0, .int .u32 x1, .int .u32 x2, .int .u32 x3, .int .u32 x4, .int .u32 x5, .int .u32 x6, .int .u32 x7]) :
    Calls Tryz.prog 156 #[.pointer (some ⟨b, 4, none⟩), .pointer (some ⟨b, 1, none⟩), .pointer (some ⟨b, 6, none⟩), .pointer (some ⟨b, 3, none⟩)] w fun e w' => e = .returned (.tuple #[]) ∧ w.grownBy w' (some b) ∧ Blk w' b t #[Value.int .u32 x0, .int .u32 (qb x4 x1 x6 x3), .int .u32 x2, .int .u32 (qd x4 x1 x6 x3), .int .u32 (qa x4 x1 x6 x3), .int .u32 x5, .int .u32 (qc x4 x1 x6 x3), .int .u32 x7] := by
  have g := World.grownBy.refl w (some b)
  go_enter Tryz.func156, Tryz.ntmps156
  go_wp2
  have k1 := (hb.drew).cell (k := 4) (v := .int .u32 x4) rfl
  have k2 := (hb.drew).cell (k := 1) (v := .int .u32 x1) rfl
  have k3 := (hb.drew).frozen 4
  have e1 : IntKind.u32.wrap (x4 + x1) = (q1a x4 x1 x6 x3) := by rw [IntKind.wrap_u32]; unfold q1a addW; rfl
  have := h1.1
  have := h1.2
  have := h4.1
  have := h4.2
  refine wp_region_still_tail 8 (by kernel_rfl) (by kernel_rfl) ?_
  simp only [List.take_succ_cons, List.take_zero, List.drop_succ_cons, List.drop_zero]
  change wpStill _ _ (World.drew _) _ _ _
  still_step; still_step; still_step; still_step; still_step; still_step; still_step; still_step
  refine wpStill_nil ?_
  change wpList _ _ _ _ _ (World.drew _)
  clear e1
  go_wp2
  have hbx := (hb.set 4 (.int .u32 (q1a x4 x1 x6 x3)) (c' := #[Value.int .u32 x0, .int .u32 x1, .int .u32 x2, .int .u32 x3, .int .u32 ((q1a x4 x1 x6 x3)), .int .u32 x5, .int .u32 x6, .int .u32 x7]) rfl).drew
  have gx := zva (zk (p := ⟨b, 4, none⟩) g rfl (.int .u32 (q1a x4 x1 x6 x3)))
  generalize World.drew (World.setCell _ _ _) = w1 at *
  clear k1 k2 k3 hb g
  have k1 := (hbx.drew).cell (k := 3) (v := .int .u32 x3) rfl
  have k2 := (hbx.drew).cell (k := 4) (v := .int .u32 (q1a x4 x1 x6 x3)) rfl
  have k3 := (hbx.drew).frozen 3
  have e1 : bits .xor .u32 x3 (q1a x4 x1 x6 x3) = xorW x3 (q1a x4 x1 x6 x3) := by unfold xorW; rfl
  have := (q1a_bd x4 x1 x6 x3).1
  have := (q1a_bd x4 x1 x6 x3).2
  have := h3.1
  have := h3.2
  refine wp_region_still_tail 10 (by kernel_rfl) (by kernel_rfl) ?_
  simp only [List.take_succ_cons, List.take_zero, List.drop_succ_cons, List.drop_zero]
  change wpStill _ _ (World.drew _) _ _ _
  still_step; still_step; still_step; still_step; still_step; still_step; still_step; still_step
  still_call (rot16 _ (zea _ _).1 (zea _ _).2 _)
  still_step
  refine wpStill_nil ?_
  change wpList _ _ _ _ _ (World.drew _)
  rw [show rotW 65536 (xorW x3 (q1a x4 x1 x6 x3)) = (q1d x4 x1 x6 x3) by unfold q1d; rfl]
  clear e1
  go_wp2
  have hbxx := (hbx.set 3 (.int .u32 (q1d x4 x1 x6 x3)) (c' := #[Value.int .u32 x0, .int .u32 x1, .int .u32 x2, .int .u32 ((q1d x4 x1 x6 x3)), .int .u32 ((q1a x4 x1 x6 x3)), .int .u32 x5, .int .u32 x6, .int .u32 x7]) rfl).drew
  have gxx := zva (zk (p := ⟨b, 3, none⟩) gx rfl (.int .u32 (q1d x4 x1 x6 x3)))
  generalize World.drew (World.setCell _ _ _) = w2 at *
  clear k1 k2 k3 hbx gx
  have k1 := (hbxx.drew).cell (k := 6) (v := .int .u32 x6) rfl
  have k2 := (hbxx.drew).cell (k := 3) (v := .int .u32 (q1d x4 x1 x6 x3)) rfl
  have k3 := (hbxx.drew).frozen 6
  have e1 : IntKind.u32.wrap (x6 + (q1d x4 x1 x6 x3)) = (q1c x4 x1 x6 x3) := by rw [IntKind.wrap_u32]; unfold q1c addW; rfl
  have := (q1d_bd x4 x1 x6 x3).1
  have := (q1d_bd x4 x1 x6 x3).2
  have := h6.1
  have := h6.2
  refine wp_region_still_tail 8 (by kernel_rfl) (by kernel_rfl) ?_
  simp only [List.take_succ_cons, List.take_zero, List.drop_succ_cons, List.drop_zero]
  change wpStill _ _ (World.drew _) _ _ _
  still_step; still_step; still_step; still_step; still_step; still_step; still_step; still_step
  refine wpStill_nil ?_
  change wpList _ _ _ _ _ (World.drew _)
  clear e1
  go_wp2
  have hbxxx := (hbxx.set 6 (.int .u32 (q1c x4 x1 x6 x3)) (c' := #[Value.int .u32 x0, .int .u32 x1, .int .u32 x2, .int .u32 ((q1d x4 x1 x6 x3)), .int .u32 ((q1a x4 x1 x6 x3)), .int .u32 x5, .int .u32 ((q1c x4 x1 x6 x3)), .int .u32 x7]) rfl).drew
  have gxxx := zva (zk (p := ⟨b, 6, none⟩) gxx rfl (.int .u32 (q1c x4 x1 x6 x3)))
  generalize World.drew (World.setCell _ _ _) = w3 at *
  clear k1 k2 k3 hbxx gxx
  have k1 := (hbxxx.drew).cell (k := 1) (v := .int .u32 x1) rfl
  have k2 := (hbxxx.drew).cell (k := 6) (v := .int .u32 (q1c x4 x1 x6 x3)) rfl
  have k3 := (hbxxx.drew).frozen 1
  have e1 : bits .xor .u32 x1 (q1c x4 x1 x6 x3) = xorW x1 (q1c x4 x1 x6 x3) := by unfold xorW; rfl
  have := (q1c_bd x4 x1 x6 x3).1
  have := (q1c_bd x4 x1 x6 x3).2
  have := h1.1
  have := h1.2
  refine wp_region_still_tail 10 (by kernel_rfl) (by kernel_rfl) ?_
  simp only [List.take_succ_cons, List.take_zero, List.drop_succ_cons, List.drop_zero]
  change wpStill _ _ (World.drew _) _ _ _
  still_step; still_step; still_step; still_step; still_step; still_step; still_step; still_step
  still_call (rot12 _ (zea _ _).1 (zea _ _).2 _)
  still_step
  refine wpStill_nil ?_
  change wpList _ _ _ _ _ (World.drew _)
  rw [show rotW 4096 (xorW x1 (q1c x4 x1 x6 x3)) = (q1b x4 x1 x6 x3) by unfold q1b; rfl]
  clear e1
  go_wp2
  have hbxxxx := (hbxxx.set 1 (.int .u32 (q1b x4 x1 x6 x3)) (c' := #[Value.int .u32 x0, .int .u32 ((q1b x4 x1 x6 x3)), .int .u32 x2, .int .u32 ((q1d x4 x1 x6 x3)), .int .u32 ((q1a x4 x1 x6 x3)), .int .u32 x5, .int .u32 ((q1c x4 x1 x6 x3)), .int .u32 x7]) rfl).drew
  have gxxxx := zva (zk (p := ⟨b, 1, none⟩) gxxx rfl (.int .u32 (q1b x4 x1 x6 x3)))
  generalize World.drew (World.setCell _ _ _) = w4 at *
  clear k1 k2 k3 hbxxx gxxx
  have k1 := (hbxxxx.drew).cell (k := 4) (v := .int .u32 (q1a x4 x1 x6 x3)) rfl
  have k2 := (hbxxxx.drew).cell (k := 1) (v := .int .u32 (q1b x4 x1 x6 x3)) rfl
  have k3 := (hbxxxx.drew).frozen 4
  have e1 : IntKind.u32.wrap ((q1a x4 x1 x6 x3) + (q1b x4 x1 x6 x3)) = (qa x4 x1 x6 x3) := by rw [IntKind.wrap_u32]; unfold qa addW; rfl
  have := (q1a_bd x4 x1 x6 x3).1
  have := (q1a_bd x4 x1 x6 x3).2
  have := (q1b_bd x4 x1 x6 x3).1
  have := (q1b_bd x4 x1 x6 x3).2
  refine wp_region_still_tail 8 (by kernel_rfl) (by kernel_rfl) ?_
  simp only [List.take_succ_cons, List.take_zero, List.drop_succ_cons, List.drop_zero]
  change wpStill _ _ (World.drew _) _ _ _
  still_step; still_step; still_step; still_step; still_step; still_step; still_step; still_step
  refine wpStill_nil ?_
  change wpList _ _ _ _ _ (World.drew _)
  clear e1
  go_wp2
  have hbxxxxx := (hbxxxx.set 4 (.int .u32 (qa x4 x1 x6 x3)) (c' := #[Value.int .u32 x0, .int .u32 ((q1b x4 x1 x6 x3)), .int .u32 x2, .int .u32 ((q1d x4 x1 x6 x3)), .int .u32 ((qa x4 x1 x6 x3)), .int .u32 x5, .int .u32 ((q1c x4 x1 x6 x3)), .int .u32 x7]) rfl).drew
  have gxxxxx := zva (zk (p := ⟨b, 4, none⟩) gxxxx rfl (.int .u32 (qa x4 x1 x6 x3)))
  generalize World.drew (World.setCell _ _ _) = w5 at *
  clear k1 k2 k3 hbxxxx gxxxx
  have k1 := (hbxxxxx.drew).cell (k := 3) (v := .int .u32 (q1d x4 x1 x6 x3)) rfl
  have k2 := (hbxxxxx.drew).cell (k := 4) (v := .int .u32 (qa x4 x1 x6 x3)) rfl
  have k3 := (hbxxxxx.drew).frozen 3
  have e1 : bits .xor .u32 (q1d x4 x1 x6 x3) (qa x4 x1 x6 x3) = xorW (q1d x4 x1 x6 x3) (qa x4 x1 x6 x3) := by unfold xorW; rfl
  have := (q1d_bd x4 x1 x6 x3).1
  have := (q1d_bd x4 x1 x6 x3).2
  have := (qa_bd x4 x1 x6 x3).1
  have := (qa_bd x4 x1 x6 x3).2
  refine wp_region_still_tail 10 (by kernel_rfl) (by kernel_rfl) ?_
  simp only [List.take_succ_cons, List.take_zero, List.drop_succ_cons, List.drop_zero]
  change wpStill _ _ (World.drew _) _ _ _
  still_step; still_step; still_step; still_step; still_step; still_step; still_step; still_step
  still_call (rot8 _ (zea _ _).1 (zea _ _).2 _)
  still_step
  refine wpStill_nil ?_
  change wpList _ _ _ _ _ (World.drew _)
  rw [show rotW 256 (xorW (q1d x4 x1 x6 x3) (qa x4 x1 x6 x3)) = (qd x4 x1 x6 x3) by unfold qd; rfl]
  clear e1
  go_wp2
  have hbxxxxxx := (hbxxxxx.set 3 (.int .u32 (qd x4 x1 x6 x3)) (c' := #[Value.int .u32 x0, .int .u32 ((q1b x4 x1 x6 x3)), .int .u32 x2, .int .u32 ((qd x4 x1 x6 x3)), .int .u32 ((qa x4 x1 x6 x3)), .int .u32 x5, .int .u32 ((q1c x4 x1 x6 x3)), .int .u32 x7]) rfl).drew
  have gxxxxxx := zva (zk (p := ⟨b, 3, none⟩) gxxxxx rfl (.int .u32 (qd x4 x1 x6 x3)))
  generalize World.drew (World.setCell _ _ _) = w6 at *
  clear k1 k2 k3 hbxxxxx gxxxxx
  have k1 := (hbxxxxxx.drew).cell (k := 6) (v := .int .u32 (q1c x4 x1 x6 x3)) rfl
  have k2 := (hbxxxxxx.drew).cell (k := 3) (v := .int .u32 (qd x4 x1 x6 x3)) rfl
  have k3 := (hbxxxxxx.drew).frozen 6
  have e1 : IntKind.u32.wrap ((q1c x4 x1 x6 x3) + (qd x4 x1 x6 x3)) = (qc x4 x1 x6 x3) := by rw [IntKind.wrap_u32]; unfold qc addW; rfl
  have := (q1c_bd x4 x1 x6 x3).1
  have := (q1c_bd x4 x1 x6 x3).2
  have := (qd_bd x4 x1 x6 x3).1
  have := (qd_bd x4 x1 x6 x3).2
  refine wp_region_still_tail 8 (by kernel_rfl) (by kernel_rfl) ?_
  simp only [List.take_succ_cons, List.take_zero, List.drop_succ_cons, List.drop_zero]
  change wpStill _ _ (World.drew _) _ _ _
  still_step; still_step; still_step; still_step; still_step; still_step; still_step; still_step
  refine wpStill_nil ?_
  change wpList _ _ _ _ _ (World.drew _)
  clear e1
  go_wp2
  have hbxxxxxxx := (hbxxxxxx.set 6 (.int .u32 (qc x4 x1 x6 x3)) (c' := #[Value.int .u32 x0, .int .u32 ((q1b x4 x1 x6 x3)), .int .u32 x2, .int .u32 ((qd x4 x1 x6 x3)), .int .u32 ((qa x4 x1 x6 x3)), .int .u32 x5, .int .u32 ((qc x4 x1 x6 x3)), .int .u32 x7]) rfl).drew
  have gxxxxxxx := zva (zk (p := ⟨b, 6, none⟩) gxxxxxx rfl (.int .u32 (qc x4 x1 x6 x3)))
  generalize World.drew (World.setCell _ _ _) = w7 at *
  clear k1 k2 k3 hbxxxxxx gxxxxxx
  have k1 := (hbxxxxxxx.drew).cell (k := 1) (v := .int .u32 (q1b x4 x1 x6 x3)) rfl
  have k2 := (hbxxxxxxx.drew).cell (k := 6) (v := .int .u32 (qc x4 x1 x6 x3)) rfl
  have k3 := (hbxxxxxxx.drew).frozen 1
  have e1 : bits .xor .u32 (q1b x4 x1 x6 x3) (qc x4 x1 x6 x3) = xorW (q1b x4 x1 x6 x3) (qc x4 x1 x6 x3) := by unfold xorW; rfl
  have := (q1b_bd x4 x1 x6 x3).1
  have := (q1b_bd x4 x1 x6 x3).2
  have := (qc_bd x4 x1 x6 x3).1
  have := (qc_bd x4 x1 x6 x3).2
  refine wp_region_still_tail 10 (by kernel_rfl) (by kernel_rfl) ?_
  simp only [List.take_succ_cons, List.take_zero, List.drop_succ_cons, List.drop_zero]
  change wpStill _ _ (World.drew _) _ _ _
  still_step; still_step; still_step; still_step; still_step; still_step; still_step; still_step
  still_call (rot7 _ (zea _ _).1 (zea _ _).2 _)
  still_step
  refine wpStill_nil ?_
  change wpList _ _ _ _ _ (World.drew _)
  rw [show rotW 128 (xorW (q1b x4 x1 x6 x3) (qc x4 x1 x6 x3)) = (qb x4 x1 x6 x3) by unfold qb; rfl]
  clear e1
  go_wp2
  have hbxxxxxxxx := (hbxxxxxxx.set 1 (.int .u32 (qb x4 x1 x6 x3)) (c' := #[Value.int .u32 x0, .int .u32 ((qb x4 x1 x6 x3)), .int .u32 x2, .int .u32 ((qd x4 x1 x6 x3)), .int .u32 ((qa x4 x1 x6 x3)), .int .u32 x5, .int .u32 ((qc x4 x1 x6 x3)), .int .u32 x7]) rfl).drew
  have gxxxxxxxx := zva (zk (p := ⟨b, 1, none⟩) gxxxxxxx rfl (.int .u32 (qb x4 x1 x6 x3)))
  generalize World.drew (World.setCell _ _ _) = w8 at *
  clear k1 k2 k3 hbxxxxxxx gxxxxxxx
  exact ⟨rfl, .tuple #[], (by kernel_rfl), rfl, gxxxxxxxx, hbxxxxxxxx⟩
end Go.Proofs.YtmjbnmbobocpdaaGreat
namespace Go.Proofs.YtmjbnmbobocpdaaGreat
open Go.ChangeShapes Go.WideShapes Go.ChangeAt Go.RowKit
section
variable {P : Program}
theorem run_load_blk (w : World) (ty : TypeId) (g : Nat) (t : TypeId) (c : Array Value) (d : TypeDesc) (hg : Blk w g t c) (hu : P.underlying ty = some d)
    (hd : (match d with | .struct _ | .array _ _ => true | _ => false) = true) (hi : (P.info? ty).map (·.size) = some c.size) : (Instr.loadAt ty (.pointer (some ⟨g, 0, none⟩))).run P w = .ok (.agg c) w := by
  simp only [Instr.loadAt, Instr.sureAddr, Sem.run_bind, Sem.run_pure, Result.andThen_ok]
  exact run_loadVar_row w g t ty c (0, 0) d hg hu hd hi
theorem run_store_blk (w : World) (ty : TypeId) (g : Nat) (c : Array Value) (hc : c.all (·.oneCell') = true) (cs : Array Value) (hcs : cs.size = c.size) (hg : w.heap[g]? = some (.cells cs ty (0, 0)))
    (hi : (P.info? ty).map (·.size) = some c.size) : (Instr.storeAt ty (.pointer (some ⟨g, 0, none⟩)) (.agg c)).run P w = .ok () (w.setRow g c) := by
  simp only [Instr.storeAt, Instr.sureAddr, Sem.run_bind, Sem.run_pure, Result.andThen_ok]
  exact run_storeVar_row w g ty ty cs c hg hi hcs hc
theorem zzb {ops : Array Oper} {rest : List Oper} {o : Oper} {a : Act} {w : World} {Q : Exit → Act → World → Prop} (hgd : o.guard = none) (ty : TypeId) (x y : Operand) (ho : o.op = .store ty x y)
    (g : Nat) (hx : a.eval x = .pointer (some ⟨g, 0, none⟩)) (c : Array Value) (hy : a.eval y = .agg c) (hc : c.all (·.oneCell') = true) (cs : Array Value) (hg : Blk w g ty cs) (hcs : cs.size = c.size)
    (hi : (P.info? ty).map (·.size) = some c.size)
    (h : ∀ w', w.grownBy w' (some g) → Blk w' g ty c → wpList P ops Q rest (a.put o.dst undef) w') : wpList P ops Q (o :: rest) a w :=
  wpList_plain hgd fun K hK => by
    unfold Oper.wp execOp
    simp only [ho, hx, hy, Sem.run_bind, run_store_blk w ty g c hc cs hcs hg hi, Result.andThen_ok, Sem.run_pure]
    exact hK _ _ (h _ (zmb _ _ _) (setRow_heap w g cs c ty (0, 0) hg))
theorem zac {ops : Array Oper} {rest : List Oper} {o : Oper} {a : Act} {w : World} {Q : Exit → Act → World → Prop} (hw : Region.wanted o (yielded ops a.tmps) = true) (ty : TypeId) (x : Operand) (ho : o.op = .load ty x)
    (g : Nat) (hx : a.eval x = .pointer (some ⟨g, 0, none⟩)) (t : TypeId) (c : Array Value) (d : TypeDesc) (hg : Blk w g t c) (hu : P.underlying ty = some d)
    (hd : (match d with | .struct _ | .array _ _ => true | _ => false) = true) (hi : (P.info? ty).map (·.size) = some c.size)
    (h : wpList P ops Q rest (a.put o.dst (.agg c)) w) : wpList P ops Q (o :: rest) a w :=
  z8b hw fun K hK => wp_load_row ty x ho g hx t c (0, 0) d hg hu hd hi (hK _ _ h)
theorem results_blk {fn : Func} {p : Tmp} {ty : TypeId} (h : fn.results = #[.cell p ty]) {tmps : Array Value} {w : World} {g : Nat} {t : TypeId} {c : Array Value} {d : TypeDesc}
    (hp : tmps.getD p undef = .pointer (some ⟨g, 0, none⟩)) (hg : Blk w g t c)
    (hu : P.underlying ty = some d) (hd : (match d with | .struct _ | .array _ _ => true | _ => false) = true) (hi : (P.info? ty).map (·.size) = some c.size) :
    (results fn tmps).run P w = .ok (.agg c) w :=
  results_cell_row h tmps w g t c (0, 0) d hp hg hu hd hi
end
structure W8 where
  (x0 x1 x2 x3 x4 x5 x6 x7 : Int)
def W8.ok (s : W8) : Prop := (0 ≤ s.x0 ∧ s.x0 < 4294967296) ∧ (0 ≤ s.x1 ∧ s.x1 < 4294967296) ∧ (0 ≤ s.x2 ∧ s.x2 < 4294967296) ∧ (0 ≤ s.x3 ∧ s.x3 < 4294967296) ∧ (0 ≤ s.x4 ∧ s.x4 < 4294967296) ∧ (0 ≤ s.x5 ∧ s.x5 < 4294967296) ∧ (0 ≤ s.x6 ∧ s.x6 < 4294967296) ∧ (0 ≤ s.x7 ∧ s.x7 < 4294967296)
def arrW (s : W8) : Array Value := #[Value.int .u32 s.x0, .int .u32 s.x1, .int .u32 s.x2, .int .u32 s.x3, .int .u32 s.x4, .int .u32 s.x5, .int .u32 s.x6, .int .u32 s.x7]
theorem arrW_one (s : W8) : (arrW s).all (·.oneCell') = true := by simp [arrW, Value.oneCell']
theorem size8 : (Tryz.prog.info? 34).map (·.size) = some 8 := by kernel_rfl
theorem sizeW (s : W8) : (Tryz.prog.info? 34).map (·.size) = some (arrW s).size := size8
def W8.r (s : W8) (k : Nat) : W8 := { s with x0 := xorW s.x0 ((k : Int) + 1) }
theorem ok_r {s : W8} (h : s.ok) (k : Nat) : (s.r k).ok := by
  obtain ⟨h0, h1, h2, h3, h4, h5, h6, h7⟩ := h
  exact ⟨zea _ _, h1, h2, h3, h4, h5, h6, h7⟩
def W8.p0 (s : W8) : W8 := { s with x0 := qa s.x0 s.x1 s.x2 s.x3, x1 := qb s.x0 s.x1 s.x2 s.x3, x2 := qc s.x0 s.x1 s.x2 s.x3, x3 := qd s.x0 s.x1 s.x2 s.x3 }
theorem ok_p0 {s : W8} (h : s.ok) : s.p0.ok := by
  obtain ⟨h0, h1, h2, h3, h4, h5, h6, h7⟩ := h
  exact ⟨qa_bd _ _ _ _, qb_bd _ _ _ _, qc_bd _ _ _ _, qd_bd _ _ _ _, h4, h5, h6, h7⟩
theorem quarter_w0 (s : W8) (h : s.ok) (b : Nat) (t : TypeId) (w : World) (hb : Blk w b t (arrW s)) :
    Calls Tryz.prog 156 #[.pointer (some ⟨b, 0, none⟩), .pointer (some ⟨b, 1, none⟩), .pointer (some ⟨b, 2, none⟩), .pointer (some ⟨b, 3, none⟩)] w fun e w' => e = .returned (.tuple #[]) ∧ w.grownBy w' (some b) ∧ Blk w' b t (arrW s.p0) := by
  obtain ⟨h0, h1, h2, h3, h4, h5, h6, h7⟩ := h
  exact quarter_p0 b t _ _ _ _ _ _ _ _ h0 h1 h2 h3 h4 h5 h6 h7 w hb
def W8.p1 (s : W8) : W8 := { s with x4 := qa s.x4 s.x5 s.x6 s.x7, x5 := qb s.x4 s.x5 s.x6 s.x7, x6 := qc s.x4 s.x5 s.x6 s.x7, x7 := qd s.x4 s.x5 s.x6 s.x7 }
theorem ok_p1 {s : W8} (h : s.ok) : s.p1.ok := by
  obtain ⟨h0, h1, h2, h3, h4, h5, h6, h7⟩ := h
  exact ⟨h0, h1, h2, h3, qa_bd _ _ _ _, qb_bd _ _ _ _, qc_bd _ _ _ _, qd_bd _ _ _ _⟩
theorem quarter_w1 (s : W8) (h : s.ok) (b : Nat) (t : TypeId) (w : World) (hb : Blk w b t (arrW s)) :
    Calls Tryz.prog 156 #[.pointer (some ⟨b, 4, none⟩), .pointer (some ⟨b, 5, none⟩), .pointer (some ⟨b, 6, none⟩), .pointer (some ⟨b, 7, none⟩)] w fun e w' => e = .returned (.tuple #[]) ∧ w.grownBy w' (some b) ∧ Blk w' b t (arrW s.p1) := by
  obtain ⟨h0, h1, h2, h3, h4, h5, h6, h7⟩ := h
  exact quarter_p1 b t _ _ _ _ _ _ _ _ h0 h1 h2 h3 h4 h5 h6 h7 w hb
def W8.p2 (s : W8) : W8 := { s with x0 := qa s.x0 s.x5 s.x2 s.x7, x5 := qb s.x0 s.x5 s.x2 s.x7, x2 := qc s.x0 s.x5 s.x2 s.x7, x7 := qd s.x0 s.x5 s.x2 s.x7 }
theorem ok_p2 {s : W8} (h : s.ok) : s.p2.ok := by
  obtain ⟨h0, h1, h2, h3, h4, h5, h6, h7⟩ := h
  exact ⟨qa_bd _ _ _ _, h1, qc_bd _ _ _ _, h3, h4, qb_bd _ _ _ _, h6, qd_bd _ _ _ _⟩
theorem quarter_w2 (s : W8) (h : s.ok) (b : Nat) (t : TypeId) (w : World) (hb : Blk w b t (arrW s)) :
    Calls Tryz.prog 156 #[.pointer (some ⟨b, 0, none⟩), .pointer (some ⟨b, 5, none⟩), .pointer (some ⟨b, 2, none⟩), .pointer (some ⟨b, 7, none⟩)] w fun e w' => e = .returned (.tuple #[]) ∧ w.grownBy w' (some b) ∧ Blk w' b t (arrW s.p2) := by
  obtain ⟨h0, h1, h2, h3, h4, h5, h6, h7⟩ := h
  exact quarter_p2 b t _ _ _ _ _ _ _ _ h0 h1 h2 h3 h4 h5 h6 h7 w hb
def W8.p3 (s : W8) : W8 := { s with x4 := qa s.x4 s.x1 s.x6 s.x3, x1 := qb s.x4 s.x1 s.x6 s.x3, x6 := qc s.x4 s.x1 s.x6 s.x3, x3 := qd s.x4 s.x1 s.x6 s.x3 }
theorem ok_p3 {s : W8} (h : s.ok) : s.p3.ok := by
  obtain ⟨h0, h1, h2, h3, h4, h5, h6, h7⟩ := h
  exact ⟨h0, qb_bd _ _ _ _, h2, qd_bd _ _ _ _, qa_bd _ _ _ _, h5, qc_bd _ _ _ _, h7⟩
theorem quarter_w3 (s : W8) (h : s.ok) (b : Nat) (t : TypeId) (w : World) (hb : Blk w b t (arrW s)) :
    Calls Tryz.prog 156 #[.pointer (some ⟨b, 4, none⟩), .pointer (some ⟨b, 1, none⟩), .pointer (some ⟨b, 6, none⟩), .pointer (some ⟨b, 3, none⟩)] w fun e w' => e = .returned (.tuple #[]) ∧ w.grownBy w' (some b) ∧ Blk w' b t (arrW s.p3) := by
  obtain ⟨h0, h1, h2, h3, h4, h5, h6, h7⟩ := h
  exact quarter_p3 b t _ _ _ _ _ _ _ _ h0 h1 h2 h3 h4 h5 h6 h7 w hb
def mixN : Nat → W8 → W8
  | 0, s => s
  | n + 1, s => ((((mixN n s).r n).p0).p1).p2.p3
def mixW (s : W8) : W8 := mixN 8 s
theorem ok_mixN {s : W8} (h : s.ok) : ∀ n, (mixN n s).ok
  | 0 => h
  | n + 1 => ok_p3 (ok_p2 (ok_p1 (ok_p0 (ok_r (ok_mixN h n) n))))
theorem ok_mixW {s : W8} (h : s.ok) : (mixW s).ok := ok_mixN h 8
theorem Blk.cell0 {w : World} {b : Nat} {t : TypeId} {s : W8} (h : Blk w b t (arrW s)) : w.cell? ⟨b, 0, none⟩ = some (.int .u32 s.x0) := h.cell rfl
theorem Blk.setr {w : World} {b : Nat} {t : TypeId} {s : W8} (h : Blk w b t (arrW s)) (k : Nat) : Blk (w.setCell ⟨b, 0, none⟩ (.int .u32 (s.r k).x0)) b t (arrW (s.r k)) := h.set 0 _ rfl
theorem mix_any (s : W8) (hs : s.ok) (w : World) :
    Calls Tryz.prog 154 #[.agg (arrW s)] w fun e w' => e = .returned (.agg (arrW (mixW s))) ∧ Below w.heap.size w w' := by
  have OK := hid (ok_mixN hs)
  clear hs
  go_enter Tryz.func154, Tryz.ntmps154
  go_wp2
  go_loopw [4] (fun u wr => ∃ k : Nat, k ≤ 8 ∧ u = .int .u32 k ∧ Below w.heap.size w wr ∧ Blk wr w.heap.size 34 (arrW (mixN k s)) ∧ Blk wr (w.heap.size + 1) 34 #[Value.int .u32 0, .int .u32 0, .int .u32 0, .int .u32 0, .int .u32 0, .int .u32 0, .int .u32 0, .int .u32 0]) (fun u _ => 8 - (intOf u).toNat)
  case atStart =>
    refine ⟨0, by omega, rfl, ((Below.refl _ _).alloc (Nat.le_refl _) _).alloc (by simp) _, (Blk.new w _ (arrW s)).alloc _, ?_⟩
    have := Blk.new (w.alloc (.cells (arrW s) 34)) 34 #[Value.int .u32 0, .int .u32 0, .int .u32 0, .int .u32 0, .int .u32 0, .int .u32 0, .int .u32 0, .int .u32 0]
    rw [World.size_alloc] at this
    exact this
  case round =>
    obtain ⟨k, hk, rfl, hB, hb, hz⟩ := hrel
    by_cases hlt : k < 8
    · have c0 := hb.cell0
      have f0 := hb.frozen 0
      have ok := OK.out k
      have o1 := ok.1.1
      have o2 := ok.1.2
      have OK' := hid ok
      clear ok
      have e1 : bits .xor .u32 (mixN k s).x0 ((k : Int) + 1) = ((mixN k s).r k).x0 := by unfold W8.r xorW; rfl
      go_wp2_with fail
      have b1 := hb.setr k
      have g1 := zk (p := ⟨w.heap.size, 0, none⟩) (World.grownBy.refl wr (some w.heap.size)) rfl (.int .u32 ((mixN k s).r k).x0)
      generalize World.setCell _ _ _ = v1 at *
      clear c0 f0 e1 o1 o2 hb
      refine (quarter_w0 _ (ok_r OK'.out k) _ _ _ b1).mono ?_
      rintro e v2 ⟨rfl, g2, b2⟩
      go_wp2_with fail
      refine (quarter_w1 _ (ok_p0 (ok_r OK'.out k)) _ _ _ b2).mono ?_
      rintro e v3 ⟨rfl, g3, b3⟩
      go_wp2_with fail
      refine (quarter_w2 _ (ok_p1 (ok_p0 (ok_r OK'.out k))) _ _ _ b3).mono ?_
      rintro e v4 ⟨rfl, g4, b4⟩
      go_wp2_with fail
      refine (quarter_w3 _ (ok_p2 (ok_p1 (ok_p0 (ok_r OK'.out k)))) _ _ _ b4).mono ?_
      rintro e v5 ⟨rfl, g5, b5⟩
      go_wp2_with fail
      go_roundw
      case rel =>
        have n1 : some (w.heap.size + 1) ≠ some w.heap.size := by simp
        have B1 := zq hB g1 hB.size (Nat.le_refl _)
        have B2 := zq B1 g2 B1.size (Nat.le_refl _)
        have B3 := zq B2 g3 B2.size (Nat.le_refl _)
        have B4 := zq B3 g4 B3.size (Nat.le_refl _)
        exact ⟨k + 1, by omega, by go_num, zq B4 g5 B4.size (Nat.le_refl _), b5, ((((hz.grown g1 n1).grown g2 n1).grown g3 n1).grown g4 n1).grown g5 n1⟩
      case measure => simp [intOf]; omega
    · have : k = 8 := by omega
      subst this
      go_wp2_with (first | (refine zac rfl _ _ rfl _ rfl _ _ _ hb Tryz.underlying34 rfl (sizeW _) ?_) | (refine zzb rfl _ _ _ rfl _ rfl _ rfl (arrW_one _) _ hz rfl (sizeW _) ?_; intro v gv mv))
      exact bodyPost_ret (results_blk rfl rfl mv Tryz.underlying34 rfl (sizeW _)) rfl ⟨rfl, zq hB gv hB.size (by omega)⟩
end Go.Proofs.YtmjbnmbobocpdaaGreat
