/- What SrpRefuses stands on, part 11. -/
import Derived.Test.YtcfepoopkfhojaaSrpRefusesP1
import Derived.Test.YtcfepoopkfhojaaSrpRefusesP2
import Derived.Test.YtcfepoopkfhojaaSrpRefusesP3
import Derived.Test.YtcfepoopkfhojaaSrpRefusesP4
import Derived.Test.YtcfepoopkfhojaaSrpRefusesP5
import Derived.Test.YtcfepoopkfhojaaSrpRefusesP6
import Derived.Test.YtcfepoopkfhojaaSrpRefusesP7
import Derived.Test.YtcfepoopkfhojaaSrpRefusesP8
import Derived.Test.YtcfepoopkfhojaaSrpRefusesP9
import Derived.Test.YtcfepoopkfhojaaSrpRefusesP10
set_option maxRecDepth 100000
set_option maxHeartbeats 8000000
set_option linter.unusedVariables false
set_option linter.unusedSimpArgs false
namespace Go.Proofs.Ytcfepoopkfhojaa
open Go.ChangeShapes Go.WideShapes Go.ChangeAt Go.RowKit Go.Shelf
theorem shello_is (k : Int) (P Q g : Nat) (ho : P % 2 = 1) (h1 : 1 < P) (hP : P < 4294967296 ^ 8) (h2 : 2 < Q) (hQ : Q < 4294967296 ^ 8) (hg : g < 4294967296 ^ 8) (t : ByteArray) (lp ld : List UInt8) (hpl : lp.length ≤ 100000) {X : SideN} {A : Nat} (hX : ⟨k, P, Q, g, t, lp, g ^ texN Q [97] [ld] % P, 0, texN Q [97] [ld], [], 0, fun _ => 0, fun _ => 0⟩ = X) (hA : g ^ texN Q [97] [ld] % P = A) (w : World) (vp vd : Value) (hp : IsB w lp vp) (hd : IsB w ld vd) :
    Calls Try.prog 10 #[.agg (zf k P Q g), .string t, vp, vd] w fun e w' => ∃ v, e = .returned v ∧ ∃ y : SideV, v = .tuple #[.agg (zg X y), numV A] ∧ SideIs w' X y ∧ (∀ b, bfp y.vp b → w.heap.size ≤ b) ∧ (∀ b, bfp y.vs b → w.heap.size ≤ b) ∧ Below w.heap.size w w' := by
  subst hX hA
  exact (hello_any k P Q g ho h1 hP h2 hQ hg t lp ld vp vd hpl w hp hd).mono fun e w' ⟨vc, h1, h2, h3, h4⟩ => ⟨_, h1, ⟨vc, zN⟩, rfl, h2, h3, fun b hb => absurd hb (z8b b), h4⟩
theorem soffer_is (k : Int) (P Q g : Nat) (ho : P % 2 = 1) (h1 : 1 < P) (hP4 : P < 4294967296) (h2 : 2 < Q) (hQ : Q < 4294967296 ^ 8) (hg : g < 4294967296 ^ 8) (r : RecN) (hr : r.a < 4294967296 ^ 8) (hs : r.s.size ≤ 1000) (hrl : r.l2.length ≤ 100000) (a : Nat) (ha : a < 4294967296 ^ 8) (ld : List UInt8) {ok : Bool} {X : SideN} {B : Nat} (hk : offOk P Q g r.a a (texN Q [98] [ld]) = ok) (hX : cond ok (zxa (offS k P Q g r.s r.l2 r.a a (texN Q [98] [ld])) (offN P Q g r.a a (texN Q [98] [ld]))) zeroS = X) (hB : cond ok (offB P Q g r.a (texN Q [98] [ld])) 0 = B) (w : World) (V : RecV) (vd : Value) (hm : RecIs w r V) (hd : IsB w ld vd) :
    Calls Try.prog 14 #[.agg (zf k P Q g), .agg (recA r V), numV a, vd] w fun e w' => ∃ v, e = .returned v ∧ ∃ y : SideV, v = .tuple #[.agg (zg X y), numV B, .bool ok] ∧ SideIs w' X y ∧ (∀ b, bfp y.vp b → w.heap.size ≤ b) ∧ (∀ b, bfp y.vs b → w.heap.size ≤ b) ∧ Below w.heap.size w w' := by
  have h := offer_any k P Q g ho h1 (Nat.lt_trans hP4 (by decide)) h2 hQ (Nat.le_of_lt hP4) hg r V hr hs hrl a ha ld vd w hm hd
  rw [hk, hX, hB] at h
  exact h.mono fun e w' ⟨vc, h1, h2, h3, h4⟩ => ⟨_, h1, ⟨zN, vc⟩, rfl, h2, fun b hb => absurd hb (z8b b), h3, h4⟩
theorem sprove_is (x : SideN) (ho : x.P % 2 = 1) (h1 : 1 < x.P) (hP4 : x.P < 4294967296) (h2 : 2 < x.Q) (hQ4 : x.Q ≤ 4294967296) (hO : x.O < 4294967296) (hg : x.g < 4294967296 ^ 8) (ht : x.s.size ≤ 1000) (hpl : x.lp.length ≤ 100000) (l : List UInt8) (hll : l.length ≤ 100000) (b : Nat) (hb : b < 4294967296 ^ 8) {ok : Bool} {X : SideN} {Y : Nat → Int} (hk : prvOk x l b = ok) (hX : cond ok (zxa (prvS x l b) (prvN x l b)) zeroS = X) (hY : X.Pr = Y) (w : World) (y : SideV) (vl : Value) (hx : SideIs w x y) (hd : IsB w l vl) :
    Calls Try.prog 16 #[.agg (zg x y), vl, numV b] w fun e w' => ∃ v, e = .returned v ∧ ∃ y : SideV, v = .tuple #[.agg (zg X y), .agg (zk Y), .bool ok] ∧ SideIs w' X y ∧ (∀ b, bfp y.vp b → w.heap.size ≤ b) ∧ (∀ b, bfp y.vs b → w.heap.size ≤ b) ∧ Below w.heap.size w w' := by
  have h := prove_any x y ho h1 hP4 h2 hQ4 hO hg ht hpl l hll vl b hb w hx hd
  rw [hk, hX, hY] at h
  exact h.mono fun e w' ⟨y', h1, h2⟩ => ⟨_, h1, y', rfl, h2⟩
def SShp (y : SideV) : Prop := (∃ A n c, y.vp = .slice A n c) ∧ ∃ A n c, y.vs = .slice A n c
theorem sshp_of {w : World} {x : SideN} {y : SideV} (h : SideIs w x y) : SShp y := by
  obtain ⟨A, c, e⟩ := h.hp.shape
  obtain ⟨B, d, e2⟩ := h.hs.shape
  exact ⟨⟨A, _, c, e⟩, B, _, d, e2⟩
theorem sshp_one {x : SideN} {y : SideV} (h : SShp y) : (zg x y).all (·.oneCell') = true := by
  obtain ⟨vp, vs⟩ := y
  obtain ⟨⟨A, n, c, e⟩, B, m, d, e2⟩ := h
  dsimp only at e e2
  subst e e2
  simp [zg, numF, Value.oneCell']
theorem off_no {P Q g v a o : Nat} (h : hasB a P Q = false ∨ hasB v P Q = false) : offOk P Q g v a o = false := by
  unfold offOk
  rcases h with h | h <;> simp [h]
theorem prv_no {x : SideN} {l : List UInt8} {b : Nat} (h : prvOk x l b = true) : ¬ b = 0 ∧ b < x.P := by
  unfold prvOk at h
  simp only [Bool.and_eq_true, Bool.not_eq_true', decide_eq_false_iff_not, decide_eq_true_eq] at h
  exact ⟨h.1.1, h.1.2⟩
theorem scmp_lt {a b : Nat} (h : a < b) : ¬ (0 : Int) ≤ cmpI a b := by
  unfold cmpI
  rw [if_pos h]; decide
theorem run_eq16z {a : Act} {w : World} {o : Oper} (x y : Operand) (ho : o.op = .binOp .neq 37 x y 37) (z : Nat → Int) (hx : a.eval x = .agg (zk z)) (hy : a.eval y = .agg (zk z)) : (execOp a.eval o).run Try.prog w = .ok (.value (.bool false)) w := by
  unfold execOp
  simp only [ho, hx, hy]
  simp [go_sem, eq16_same]
end Go.Proofs.Ytcfepoopkfhojaa
namespace Go.Proofs.Ytcfepoopkfhojaa
open Go.ChangeShapes Go.WideShapes Go.ChangeAt Go.RowKit
section
variable (k : Int) (p q g : Nat) (w : World)
end
theorem rsmall_any (a : Nat) (ha : a < 4294967296) (w : World) :
    Calls Try.prog 13 #[numV a] w fun e w' => e = .returned (.int .i64 (a : Int)) ∧ Below w.heap.size w w' := by
  have g0 := Num.new w 28 a
  have c0 := g0.cell (k := 0) (by omega)
  have c1 := g0.cell (k := 1) (by omega)
  rw [digI_zero a ha] at c0
  rw [digI_small a 1 (by omega) ha] at c1
  have hor : bits BinOp.or IntKind.i64 (a : Int) 0 = (a : Int) := by
    have := (bits_nat .i64 63 (by decide) (fun n h0 h1 => by rw [IntKind.wrap_i64]; omega) a 0 (by omega) (by decide)).2
    simpa using this
  obtain ⟨A, hA⟩ : ∃ A : Int, Hid ((a : Int) = A) := ⟨_, hid rfl⟩
  have a0 : 0 ≤ A := by rw [← hA.out]; omega
  have a1 : A < 4294967296 := by rw [← hA.out]; omega
  rw [hA.out] at c0 hor
  rw [hA.out]
  go_enter Try.func13, Try.ntmps13
  go_wp2
  go_ret
  exact ⟨rfl, (Below.refl _ _).alloc (Nat.le_refl _) _⟩
end Go.Proofs.Ytcfepoopkfhojaa
namespace Go.Proofs.Ytcfepoopkfhojaa
def kX : Nat := secN 16301 [117] [112] [115]
def kV : Nat := 4 ^ kX % 32603
def kA : Nat := texN 16301 [97] [[49]]
def kB : Nat := texN 16301 [98] [[50]]
def kAA : Nat := 4 ^ kA % 32603
end Go.Proofs.Ytcfepoopkfhojaa
namespace Go.Proofs.Ytcfepoopkfhojaa
open Go.ChangeShapes Go.WideShapes Go.ChangeAt Go.RowKit
theorem kn_off : offOk 32603 16301 4 kV kAA kB = true := by decide +kernel
def kC : SideN := ⟨15, 32603, 16301, 4, { data := #[117] }, [112], kAA, 0, kA, [], 0, fun _ => 0, fun _ => 0⟩
theorem kn_prv : prvOk kC [115] (offB 32603 16301 4 kV kB) = true := by decide +kernel
theorem kn_num : offN 32603 16301 4 kV kAA kB = prvN kC [115] (offB 32603 16301 4 kV kB) := by decide +kernel
noncomputable def kS : SideN := zxa (offS 15 32603 16301 4 { data := #[117] } [115] kV kAA kB) (offN 32603 16301 4 kV kAA kB)
noncomputable def kD : SideN := zxa (prvS kC [115] (offB 32603 16301 4 kV kB)) (prvN kC [115] (offB 32603 16301 4 kV kB))
theorem kn_Ky : kD.Ky = kS.Ky := by
  unfold kD kS zxa
  rw [kn_num]
theorem kn_Pr : kD.Pr = kS.Pr := by
  unfold kD kS zxa
  rw [kn_num]; rfl
theorem kn_ok : SideOk kS ∧ SideOk kD := ⟨⟨outF_bd _, outF_bd _⟩, ⟨outF_bd _, outF_bd _⟩⟩
end Go.Proofs.Ytcfepoopkfhojaa
namespace Go.Proofs.Ytcfepoopkfhojaa
open Go.ChangeShapes Go.WideShapes Go.ChangeAt Go.RowKit
def chkT (k p D E : Nat) : Bool := primeF p D && (primeF (p / 2) D && (List.range (2 ^ k - 1 - p)).all fun j => compF (2 ^ k - 1 - j) E || compF ((2 ^ k - 1 - j) / 2) E)
theorem tab_of {k p D E : Nat} (hk : k ≤ 31) (h4 : 4 ≤ p) (hp : p < 2 ^ k) (hD : p < (D + 1) * (D + 1)) (hE : E * E ≤ p / 2) (h : chkT k p D E = true) : safeB (p : Int) = true ∧ ∀ x : Int, (p : Int) < x → x < 2 ^ k → safeB x = false := by
  unfold chkT at h
  simp only [Bool.and_eq_true, List.all_eq_true, Bool.or_eq_true] at h
  obtain ⟨h1, h2, h3⟩ := h
  have hl : 2 ^ k ≤ 2 ^ 31 := Nat.pow_le_pow_right (by decide) hk
  generalize hM : 2 ^ k = M at *
  have hM2 : M ≤ 2147483648 := hl
  have hE2 : E * E ≤ p := Nat.le_trans hE (Nat.div_le_self _ _)
  constructor
  · unfold safeB
    rw [primeF_yes (by omega) (by omega) hD h1, show ((p : Nat) : Int) / 2 = ((p / 2 : Nat) : Int) by omega, primeF_yes (by omega) (by omega) (by omega) h2]
    rfl
  · intro x x0 x1
    obtain ⟨y, rfl⟩ := Int.eq_ofNat_of_zero_le (show 0 ≤ x by omega)
    have e : ((2 : Int) ^ k) = ((M : Nat) : Int) := by rw [← hM]; simp
    rw [e] at x1
    have h4 := h3 (M - 1 - y) (List.mem_range.2 (by omega))
    rw [show M - 1 - (M - 1 - y) = y by omega] at h4
    unfold safeB
    rcases h4 with h4 | h4
    · rw [compF_no (by omega) h4]; simp
    · rw [show ((y : Nat) : Int) / 2 = ((y / 2 : Nat) : Int) by omega, compF_no (Nat.le_trans hE (Nat.div_le_div_right (by omega))) h4]; rfl
theorem tab12 : chkT 12 4079 63 45 = true := by decide +kernel
end Go.Proofs.Ytcfepoopkfhojaa
namespace Go.Proofs.Ytcfepoopkfhojaa
open Go.ChangeShapes Go.WideShapes Go.ChangeAt Go.RowKit
theorem tab13 : chkT 13 8147 90 63 = true := by decide +kernel
theorem tab14 : chkT 14 16223 127 90 = true := by decide +kernel
theorem tab15 : chkT 15 32603 180 127 = true := by decide +kernel
theorem tab16 : chkT 16 65267 255 180 = true := by decide +kernel
theorem tab17 : chkT 17 130787 361 255 = true := by decide +kernel
theorem tab18 : chkT 18 262127 511 362 = true := by decide +kernel
theorem tab19 : chkT 19 524243 724 511 = true := by decide +kernel
theorem tab20 : chkT 20 1048343 1023 723 = true := by decide +kernel
theorem tab21 : chkT 21 2097143 1448 1023 = true := by decide +kernel
theorem tab22 : chkT 22 4194287 2047 1448 = true := by decide +kernel
theorem tab23 : chkT 23 8388287 2896 2047 = true := by decide +kernel
theorem tab24 : chkT 24 16776899 4095 2896 = true := by decide +kernel
theorem tab25 : chkT 25 33553799 5792 4095 = true := by decide +kernel
theorem tab26 : chkT 26 67108187 8191 5792 = true := by decide +kernel
theorem tab27 : chkT 27 134217323 11585 8191 = true := by decide +kernel
theorem tabs {k : Nat} (h0 : 12 ≤ k) (h1 : k ≤ 27) : ∃ p : Nat, 4 ≤ p ∧ p % 2 = 1 ∧ p < 2 ^ k ∧ safeB (p : Int) = true ∧ ∀ x : Int, (p : Int) < x → x < 2 ^ k → safeB x = false := by
  have : k = 12 ∨ k = 13 ∨ k = 14 ∨ k = 15 ∨ k = 16 ∨ k = 17 ∨ k = 18 ∨ k = 19 ∨ k = 20 ∨ k = 21 ∨ k = 22 ∨ k = 23 ∨ k = 24 ∨ k = 25 ∨ k = 26 ∨ k = 27 := by omega
  rcases this with rfl | rfl | rfl | rfl | rfl | rfl | rfl | rfl | rfl | rfl | rfl | rfl | rfl | rfl | rfl | rfl
  · exact ⟨4079, by decide, by decide, by decide, tab_of (D := 63) (E := 45) (by decide) (by decide) (by decide) (by decide) (by decide) tab12⟩
  · exact ⟨8147, by decide, by decide, by decide, tab_of (D := 90) (E := 63) (by decide) (by decide) (by decide) (by decide) (by decide) tab13⟩
  · exact ⟨16223, by decide, by decide, by decide, tab_of (D := 127) (E := 90) (by decide) (by decide) (by decide) (by decide) (by decide) tab14⟩
  · exact ⟨32603, by decide, by decide, by decide, tab_of (D := 180) (E := 127) (by decide) (by decide) (by decide) (by decide) (by decide) tab15⟩
  · exact ⟨65267, by decide, by decide, by decide, tab_of (D := 255) (E := 180) (by decide) (by decide) (by decide) (by decide) (by decide) tab16⟩
  · exact ⟨130787, by decide, by decide, by decide, tab_of (D := 361) (E := 255) (by decide) (by decide) (by decide) (by decide) (by decide) tab17⟩
  · exact ⟨262127, by decide, by decide, by decide, tab_of (D := 511) (E := 362) (by decide) (by decide) (by decide) (by decide) (by decide) tab18⟩
  · exact ⟨524243, by decide, by decide, by decide, tab_of (D := 724) (E := 511) (by decide) (by decide) (by decide) (by decide) (by decide) tab19⟩
  · exact ⟨1048343, by decide, by decide, by decide, tab_of (D := 1023) (E := 723) (by decide) (by decide) (by decide) (by decide) (by decide) tab20⟩
  · exact ⟨2097143, by decide, by decide, by decide, tab_of (D := 1448) (E := 1023) (by decide) (by decide) (by decide) (by decide) (by decide) tab21⟩
  · exact ⟨4194287, by decide, by decide, by decide, tab_of (D := 2047) (E := 1448) (by decide) (by decide) (by decide) (by decide) (by decide) tab22⟩
  · exact ⟨8388287, by decide, by decide, by decide, tab_of (D := 2896) (E := 2047) (by decide) (by decide) (by decide) (by decide) (by decide) tab23⟩
  · exact ⟨16776899, by decide, by decide, by decide, tab_of (D := 4095) (E := 2896) (by decide) (by decide) (by decide) (by decide) (by decide) tab24⟩
  · exact ⟨33553799, by decide, by decide, by decide, tab_of (D := 5792) (E := 4095) (by decide) (by decide) (by decide) (by decide) (by decide) tab25⟩
  · exact ⟨67108187, by decide, by decide, by decide, tab_of (D := 8191) (E := 5792) (by decide) (by decide) (by decide) (by decide) (by decide) tab26⟩
  · exact ⟨134217323, by decide, by decide, by decide, tab_of (D := 11585) (E := 8191) (by decide) (by decide) (by decide) (by decide) (by decide) tab27⟩
end Go.Proofs.Ytcfepoopkfhojaa
namespace Go.Proofs.Ytcfepoopkfhojaa
open Go.ChangeShapes Go.WideShapes Go.ChangeAt Go.RowKit
def RmR (k p : Int) (V : Value) : Prop := ((12 ≤ k ∧ k ≤ 31) ∧ V = .tuple #[.agg (zf k p.toNat (p / 2).toNat 4), .bool true]) ∨ (¬ (12 ≤ k ∧ k ≤ 31) ∧ V = .tuple #[.agg (zf 0 0 0 0), .bool false])
theorem pow_even {k : Int} (h : 12 ≤ k ∧ k ≤ 31) : (2 : Int) ^ k.toNat % 2 = 0 := by
  obtain ⟨K, hK⟩ : ∃ K, k.toNat = K + 1 := ⟨k.toNat - 1, by omega⟩
  rw [hK, Int.pow_succ]
  omega
theorem rgmake_any (k p : Int) (h0 : -9223372036854775808 ≤ k) (h1 : k < 9223372036854775808) (hp : 12 ≤ k ∧ k ≤ 31 → p % 2 = 1 ∧ 3 ≤ p ∧ p < 2 ^ k.toNat ∧ safeB p = true ∧ ∀ x, p < x → x < 2 ^ k.toNat → safeB x = false) (w : World) :
    Calls Try.prog 24 #[.int .i64 k] w fun e w' => ∃ V, e = .returned V ∧ RmR k p V ∧ Below w.heap.size w w' := by
  skip
  go_enter Try.func24, Try.ntmps24
  go_upto_region 1 with fail
  obtain ⟨W, hW⟩ : ∃ W, W = w.alloc (.cells #[Value.int .i64 0, .int .u32 0, .int .u32 0, .int .u32 0, .int .u32 0, .int .u32 0, .int .u32 0, .int .u32 0, .int .u32 0, .int .u32 0, .int .u32 0, .int .u32 0, .int .u32 0, .int .u32 0, .int .u32 0, .int .u32 0, .int .u32 0, .int .u32 0, .int .u32 0, .int .u32 0, .int .u32 0, .int .u32 0, .int .u32 0, .int .u32 0, .int .u32 0] 30) := ⟨_, rfl⟩
  have q_g : Blk W (w.heap.size) 30 #[Value.int .i64 0, .int .u32 0, .int .u32 0, .int .u32 0, .int .u32 0, .int .u32 0, .int .u32 0, .int .u32 0, .int .u32 0, .int .u32 0, .int .u32 0, .int .u32 0, .int .u32 0, .int .u32 0, .int .u32 0, .int .u32 0, .int .u32 0, .int .u32 0, .int .u32 0, .int .u32 0, .int .u32 0, .int .u32 0, .int .u32 0, .int .u32 0, .int .u32 0] := by
    have := (Blk.new w 30 (zf 0 0 0 0))
    rw [zrb] at this
    rw [hW]; exact this
  have gb : Below w.heap.size w W := by rw [hW]; exact ((Below.refl _ _).alloc (by simp <;> omega) _)
  rw [← hW]
  clear hW
  have log := hid (show w.heap.size ≤ w.heap.size by omega)
  by_cases hr : 12 ≤ k ∧ k ≤ 31
  · have hr0 := hid hr
    obtain ⟨hpo, hp3, hpB, hps, hpn⟩ := hp hr
    obtain ⟨B, hB⟩ : ∃ B : Int, 2 ^ k.toNat = B := ⟨_, rfl⟩
    obtain ⟨b0, b1⟩ : 0 ≤ B ∧ B ≤ 2147483648 := by rw [← hB]; exact pow_k hr
    have hBe : B % 2 = 0 := by rw [← hB]; exact pow_even hr
    rw [hB] at hpB hpn
    have HN := hid hpn
    have HS := hid hps
    clear hps hpn hp
    obtain ⟨hk0, hk1⟩ := hr
    go_wp2_with fail
    go_loopw [4] (fun x wr => ∃ X : Int, p ≤ X ∧ X < B ∧ X % 2 = 1 ∧ x = .int .i64 X ∧ W = wr) (fun x _ => (intOf x).toNat)
    case atStart => exact ⟨B - 1, by omega, by omega, by omega, rfl, rfl⟩
    case round =>
      obtain ⟨X, x0, x1, x2, rfl, rfl⟩ := hrel
      clear hB
      obtain ⟨H, hH⟩ : ∃ H, X / 2 = H := ⟨_, rfl⟩
      have ht : (X - 1).tdiv 2 = H := by rw [Int.tdiv_eq_ediv_of_nonneg (by omega)]; omega
      obtain ⟨u0, u1⟩ : 0 ≤ H ∧ H < 2147483648 := by omega
      have k1 := fun w => rprime_any X (by omega) (by omega) w
      have k2 := fun w => rprime_any H (by omega) (by omega) w
      obtain ⟨c, hc⟩ : ∃ b, primeB X = b := ⟨_, rfl⟩
      obtain ⟨e, he⟩ : ∃ b, primeB H = b := ⟨_, rfl⟩
      have hse : safeB X = (e && c) := by unfold safeB; rw [hH, hc, he]
      rw [hc] at k1
      rw [he] at k2
      have HX := hid hH
      clear hc he hH
      by_cases hXp : X = p
      · subst hXp
        have hce : c = true ∧ e = true := by
          have := HS.out
          rw [hse] at this
          simpa [and_comm] using this
        obtain ⟨rfl, rfl⟩ := hce
        clear hse HN HS
        go_wp2_with fail
        refine (k1 _).mono ?_
        rintro e w1 ⟨rfl, rfl⟩
        go_wp2_with fail
        refine (k2 _).mono ?_
        rintro e w1 ⟨rfl, rfl⟩
        go_wp2_with fail
        refine (from_ref X (by omega) (by omega) _).mono ?_
        rintro e w4 ⟨rfl, bw4⟩
        have g4 := q_g.step bw4
        have c4 := zw gb bw4
        go_wp2_with fail
        refine (from_ref H (by omega) (by omega) _).mono ?_
        rintro e w5 ⟨rfl, bw5⟩
        have g5 := g4.step bw5
        have c5 := zw c4 bw5
        go_wp2_with fail
        refine (from_ref 4 (by omega) (by omega) _).mono ?_
        rintro e w6 ⟨rfl, bw6⟩
        have g6 := g5.step bw6
        have c6 := zw c5 bw6
        clear q_g gb bw4 g4 c4 bw5 g5 c5 bw6
        go_wp2_with (first | (refine wpList_op rfl _ (run_buildG (k := k) (p := X.toNat) (q := H.toNat) (g := 4) _ _ _ _ rfl rfl rfl rfl rfl) ?_) | (refine zaa rfl _ (.tmp 2) _ rfl _ rfl (zf k X.toNat H.toNat 4) rfl (zxb _ _ _ _) _ g6 rfl z4b ?_; intro wz gz mz))
        exact bodyPost_ret (zvb rfl rfl mz Try.underlying30 rfl z4b) rfl ⟨.tuple #[.agg (zf k X.toNat H.toNat 4), .bool true], rfl, .inl ⟨hr0.out, by rw [HX.out]⟩, ze c6 gz c6.size (by omega)⟩
      · have hce : c = false ∨ (c = true ∧ e = false) := by
          have := HN.out X (by omega) x1
          rw [hse] at this
          cases c <;> cases e <;> simp_all
        clear hse
        rcases hce with rfl | ⟨rfl, rfl⟩
        · go_wp2_with fail
          refine (k1 _).mono ?_
          rintro e w1 ⟨rfl, rfl⟩
          go_wp2_with fail
          go_roundw
          case rel => exact ⟨X - 2, by omega, by omega, by omega, by go_num, (by first | rfl | trivial)⟩
          case measure => simp [intOf] <;> omega
        · go_wp2_with fail
          refine (k1 _).mono ?_
          rintro e w1 ⟨rfl, rfl⟩
          go_wp2_with fail
          refine (k2 _).mono ?_
          rintro e w1 ⟨rfl, rfl⟩
          go_wp2_with fail
          go_roundw
          case rel => exact ⟨X - 2, by omega, by omega, by omega, by go_num, (by first | rfl | trivial)⟩
          case measure => simp [intOf] <;> omega
  · have hr0 := hid hr
    have hway : k < 12 ∨ (¬ k < 12 ∧ 31 < k) := by omega
    rcases hway with hk | ⟨hk, hk2⟩
    · go_wp2_with (refine zaa rfl _ (.tmp 2) _ rfl _ rfl (#[Value.int .i64 0, .int .u32 0, .int .u32 0, .int .u32 0, .int .u32 0, .int .u32 0, .int .u32 0, .int .u32 0, .int .u32 0, .int .u32 0, .int .u32 0, .int .u32 0, .int .u32 0, .int .u32 0, .int .u32 0, .int .u32 0, .int .u32 0, .int .u32 0, .int .u32 0, .int .u32 0, .int .u32 0, .int .u32 0, .int .u32 0, .int .u32 0, .int .u32 0]) rfl zG_cells _ q_g rfl z4b ?_; intro wz gz mz)
      rw [← zrb] at mz
      exact bodyPost_ret (zvb rfl rfl mz Try.underlying30 rfl z4b) rfl ⟨.tuple #[.agg (zf 0 0 0 0), .bool false], rfl, .inr ⟨hr0.out, rfl⟩, ze gb gz gb.size (by omega)⟩
    · have hkd : decide (k < 12) = false := decide_eq_false hk
      go_wp2_with (refine zaa rfl _ (.tmp 2) _ rfl _ rfl (#[Value.int .i64 0, .int .u32 0, .int .u32 0, .int .u32 0, .int .u32 0, .int .u32 0, .int .u32 0, .int .u32 0, .int .u32 0, .int .u32 0, .int .u32 0, .int .u32 0, .int .u32 0, .int .u32 0, .int .u32 0, .int .u32 0, .int .u32 0, .int .u32 0, .int .u32 0, .int .u32 0, .int .u32 0, .int .u32 0, .int .u32 0, .int .u32 0, .int .u32 0]) rfl zG_cells _ q_g rfl z4b ?_; intro wz gz mz)
      rw [← zrb] at mz
      exact bodyPost_ret (zvb rfl rfl mz Try.underlying30 rfl z4b) rfl ⟨.tuple #[.agg (zf 0 0 0 0), .bool false], rfl, .inr ⟨hr0.out, rfl⟩, ze gb gz gb.size (by omega)⟩
end Go.Proofs.Ytcfepoopkfhojaa
namespace Go.Proofs.Ytcfepoopkfhojaa
open Go.ChangeShapes Go.WideShapes Go.ChangeAt Go.RowKit
theorem gwithin_any (a n : Int) (hn : 0 < n) (hn' : n < 9223372036854775808) (ha : -9223372036854775808 ≤ a) (ha' : a < 9223372036854775808) (w : World) :
    Calls Try.prog 25 #[.int .i64 a, .int .i64 n] w fun e w' => e = .returned (.int .i64 (a % n)) ∧ w = w' := by
  obtain ⟨h1, h2, h3, h4⟩ := tmod_case a n hn
  have hz : (n == 0) = false := by simp; omega
  by_cases h : a.tmod n < 0
  · have H := hid (h2 h)
    clear h1 h2
    go_enter Try.func25, Try.ntmps25
    go_wp2
    go_ret
    exact ⟨congrArg (fun x => Ending.returned (.int .i64 x)) H.out, rfl⟩
  · have H := hid (h1 (by omega))
    clear h1 h2
    go_enter Try.func25, Try.ntmps25
    go_wp2
    go_ret
    exact ⟨congrArg (fun x => Ending.returned (.int .i64 x)) H.out, rfl⟩
end Go.Proofs.Ytcfepoopkfhojaa
namespace Go.Proofs.Ytcfepoopkfhojaa
open Go.ChangeShapes Go.WideShapes Go.ChangeAt Go.RowKit
theorem group_t {n : Int} (h0 : -9223372036854775808 ≤ n) (h1 : n < 9223372036854775808) : ∃ t : Nat, t < 9 ∧ ∀ w, Calls Try.prog 25 #[.int .i64 n, .int .i64 9] w fun e w' => e = .returned (.int .i64 (t : Int)) ∧ w = w' := by
  refine ⟨(n % 9).toNat, by omega, fun w => ?_⟩
  have := gwithin_any n 9 (by omega) (by omega) h0 h1 w
  rw [show (((n % 9).toNat : Nat) : Int) = n % 9 by omega]
  exact this
def GOk (k : Int) (p : Nat) : Prop := 12 ≤ k ∧ k ≤ 24 ∧ p % 2 = 1 ∧ 4000 < p ∧ p < 16777216 ∧ primeB (p : Int) = true ∧ primeB ((p / 2 : Nat) : Int) = true
theorem group_at {t : Nat} (ht : t < 9) : ∃ (k : Int) (p : Nat), (#[.int .i64 12, .int .i64 13, .int .i64 14, .int .i64 15, .int .i64 16, .int .i64 17, .int .i64 18, .int .i64 20, .int .i64 24] : Array Value)[t]? = some (.int .i64 k) ∧
    z2b 24 #[.int .i64 k] (.tuple #[.agg (zf k p (p / 2) 4), .bool true]) ∧ GOk k p := by
  have key : ∀ K : Nat, 12 ≤ K → K ≤ 24 → ∃ p : Nat, z2b 24 #[.int .i64 (K : Int)] (.tuple #[.agg (zf (K : Int) p (p / 2) 4), .bool true]) ∧ GOk (K : Int) p := fun K g0 g1 => by
    obtain ⟨p, p4, po, pl, ps, pn⟩ := tabs (k := K) (by omega) (by omega)
    have hl : 2 ^ K ≤ 2 ^ 24 := Nat.pow_le_pow_right (by decide) (by omega)
    have hp : p < 16777216 := Nat.lt_of_lt_of_le pl hl
    have e : ((2 : Int) ^ K) = ((2 ^ K : Nat) : Int) := by simp
    have hpr : primeB ((p : Int) / 2) = true ∧ primeB (p : Int) = true := by
      unfold safeB at ps
      simpa using ps
    have hq : ((p / 2 : Nat) : Int) = (p : Int) / 2 := by omega
    refine ⟨p, fun w => ?_, by omega, by omega, po, ?_, hp, hpr.2, by rw [hq]; exact hpr.1⟩
    · refine (rgmake_any (K : Int) (p : Int) (by omega) (by omega) (fun _ => ⟨by omega, by omega, by rw [Int.toNat_natCast, e]; exact_mod_cast pl, ps, by rw [Int.toNat_natCast]; exact pn⟩) w).mono ?_
      rintro e' w' ⟨V, rfl, hV, hb⟩
      rcases hV with ⟨-, hV⟩ | ⟨hn, -⟩
      · exact ⟨by rw [hV, Int.toNat_natCast, ← hq, Int.toNat_natCast], hb⟩
      · omega
    · refine Nat.lt_of_not_le fun hle => ?_
      have h40 : ((4079 : Nat) : Int) < 2 ^ K := by
        rw [e]
        have : 2 ^ 12 ≤ 2 ^ K := Nat.pow_le_pow_right (by decide) g0
        omega
      have := pn ((4079 : Nat) : Int) (by omega) h40
      rw [(tab_of (k := 12) (p := 4079) (D := 63) (E := 45) (by decide) (by decide) (by decide) (by decide) (by decide) tab12).1] at this
      cases this
  have : t = 0 ∨ t = 1 ∨ t = 2 ∨ t = 3 ∨ t = 4 ∨ t = 5 ∨ t = 6 ∨ t = 7 ∨ t = 8 := by omega
  rcases this with rfl | rfl | rfl | rfl | rfl | rfl | rfl | rfl | rfl
  · obtain ⟨p, h1, h2⟩ := key 12 (by decide) (by decide)
    exact ⟨12, p, rfl, h1, h2⟩
  · obtain ⟨p, h1, h2⟩ := key 13 (by decide) (by decide)
    exact ⟨13, p, rfl, h1, h2⟩
  · obtain ⟨p, h1, h2⟩ := key 14 (by decide) (by decide)
    exact ⟨14, p, rfl, h1, h2⟩
  · obtain ⟨p, h1, h2⟩ := key 15 (by decide) (by decide)
    exact ⟨15, p, rfl, h1, h2⟩
  · obtain ⟨p, h1, h2⟩ := key 16 (by decide) (by decide)
    exact ⟨16, p, rfl, h1, h2⟩
  · obtain ⟨p, h1, h2⟩ := key 17 (by decide) (by decide)
    exact ⟨17, p, rfl, h1, h2⟩
  · obtain ⟨p, h1, h2⟩ := key 18 (by decide) (by decide)
    exact ⟨18, p, rfl, h1, h2⟩
  · obtain ⟨p, h1, h2⟩ := key 20 (by decide) (by decide)
    exact ⟨20, p, rfl, h1, h2⟩
  · obtain ⟨p, h1, h2⟩ := key 24 (by decide) (by decide)
    exact ⟨24, p, rfl, h1, h2⟩
theorem group_any {n : Int} (h0 : -9223372036854775808 ≤ n) (h1 : n < 9223372036854775808) : ∃ (k : Int) (p : Nat), GOk k p ∧ z2b 7 #[.int .i64 n] (.agg (zf k p (p / 2) 4)) := by
 obtain ⟨t, ht, kw⟩ := group_t h0 h1
 obtain ⟨k, p, hk, hr, hg⟩ := group_at ht
 refine ⟨k, p, hg, fun w => ?_⟩
 refine zka (args := [.int .i64 n]) 15 Try.func7 rfl rfl rfl ?_
 intro fa F
 have M := Mx.start w
 refine zSk fun _ hK1 => ?_
 refine zR ?_
 refine zl (zb rfl) rfl F rfl M 0 (t := 30) (c := zf 0 0 0 0) (by unfold execOp; rw [zrb]; kernel_rfl) ?_
 intro g2 a2 w2 F2 M2
 clear F M
 refine hK1 _ _ ?_
 refine zSk fun _ hK3 => ?_
 refine zR ?_
 refine zwb (zb rfl) rfl F2 rfl M2 1 (t := 3) (c := #[.int .i64 12, .int .i64 13, .int .i64 14, .int .i64 15, .int .i64 16, .int .i64 17, .int .i64 18, .int .i64 20, .int .i64 24]) (k := 9) (m := 9) (y_litI rfl #[.int .i64 12, .int .i64 13, .int .i64 14, .int .i64 15, .int .i64 16, .int .i64 17, .int .i64 18, .int .i64 20, .int .i64 24] rfl (by decide) (by decide) (by simp only [List.map_toArray, List.map_cons, List.map_nil]; kernel_rfl)) ?_
 intro g4 a4 w4 F4 M4
 clear F2 M2
 refine zh (w' := w4) (zb rfl) rfl F4 rfl (.int .i64 n) (zu _ (.inl rfl) (F4.get (t := 0) rfl)) fun _ F5 => ?_
 clear F4
 refine z9 (zb rfl) rfl F5 rfl rfl (zE Try.func25 rfl) #[.int .i64 n, .int .i64 9] (zdb (F5.get (t := 7) rfl) rfl) (zea (kw w4)) ?_
 rintro _ w6 a6 ⟨rfl, rfl⟩ F6
 refine zh (w' := w4) (zb rfl) rfl F6 rfl (.pointer (some ⟨g4, t, none⟩)) (y_ixI _ _ rfl (F6.get (t := 6) rfl) (F6.get (t := 8) rfl) rfl ht (Nat.zero_add t)) fun _ F7 => ?_
 clear F6
 refine zh (w' := w4) (zb rfl) rfl F7 rfl (.int .i64 k) (y_ld1 _ _ rfl (F7.get (t := 9) rfl) (M4.blk (k := 1) rfl) hk Try.underlying3 rfl) fun _ F8 => ?_
 clear F7
 refine z9 (zb rfl) rfl F8 rfl rfl (zE Try.func24 rfl) #[.int .i64 k] (zwa (F8.get (t := 10) rfl)) (zea (hr w4)) ?_
 rintro _ w9 a9 ⟨rfl, b9⟩ F9
 have M9 := M4.step b9
 refine zh (w' := w9) (zb rfl) rfl F9 rfl (.tuple #[.agg (zf k p (p / 2) 4), .bool true]) (zu _ (.inl rfl) (F9.get (t := 11) rfl)) fun _ F10 => ?_
 clear F9
 refine zh (w' := w9) (zb rfl) rfl F10 rfl (.agg (zf k p (p / 2) 4)) (y_ext _ _ rfl (F10.get (t := 5) rfl) rfl) fun _ F11 => ?_
 clear F10
 refine zh (w' := w9) (zb rfl) rfl F11 rfl (.bool true) (y_ext _ _ rfl (F11.get (t := 5) rfl) rfl) fun _ F12 => ?_
 clear F11
 refine zl (zb rfl) rfl F12 rfl M9 2 (t := 30) (c := zf 0 0 0 0) (by unfold execOp; rw [zrb]; kernel_rfl) ?_
 intro g13 a13 w13 F13 M13
 clear F12 M9
 refine zda (zb rfl) rfl F13 M13 (k := 2) rfl _ _ _ rfl (F13.get (t := 3) rfl) (F13.get (t := 12) rfl) (zf k p (p / 2) 4) _ rfl (zL rfl) (zxb _ _ _ _) (zr rfl) (by kernel_rfl) ?_
 intro w14 M14
 clear M13
 refine zh (w' := w14) (zb rfl) rfl F13 rfl (.bool true) (zu _ (.inr rfl) (F13.get (t := 13) rfl)) fun _ F15 => ?_
 clear F13
 refine hK3 _ _ ?_
 refine zSk fun _ hK16 => ?_
 refine zR ?_
 refine zh (w' := w14) (zb rfl) rfl F15 rfl _ (zt _ _ rfl (F15.get (t := 3) rfl) (M14.blk (k := 2) rfl) (zf k p (p / 2) 4) (zba rfl) Try.underlying30 rfl (by kernel_rfl)) fun _ F17 => ?_
 clear F15
 refine zda (zb rfl) rfl F17 M14 (k := 0) rfl _ _ _ rfl (F17.get (t := 2) rfl) (F17.get (t := 14) rfl) (zf k p (p / 2) 4) _ rfl (zL rfl) (zxb _ _ _ _) (zr rfl) (by kernel_rfl) ?_
 intro w18 M18
 clear M14
 refine hK16 _ _ ?_
 refine wp_ret ?_
 try simp only [Exit.then, Exit.inBlock]
 exact bodyPost_ret (results_cell_row rfl _ _ _ _ _ (0, 0) _ (F17.get rfl) (M18.blk (k := 0) rfl) Try.underlying30 rfl (by kernel_rfl)) F17.defers ⟨rfl, M18.below⟩
end Go.Proofs.Ytcfepoopkfhojaa
namespace Go.Proofs.Ytcfepoopkfhojaa
open Go.ChangeShapes Go.WideShapes Go.ChangeAt Go.RowKit
theorem make_kp {K p : Nat} (g0 : 12 ≤ K) (g1 : K ≤ 24) (p4 : 4 ≤ p) (po : p % 2 = 1) (pl : p < 2 ^ K) (ps : safeB (p : Int) = true) (pn : ∀ x : Int, (p : Int) < x → x < 2 ^ K → safeB x = false) : z2b 24 #[.int .i64 (K : Int)] (.tuple #[.agg (zf (K : Int) p (p / 2) 4), .bool true]) := fun w => by
  have hl : 2 ^ K ≤ 2 ^ 24 := Nat.pow_le_pow_right (by decide) (by omega)
  have hp : p < 16777216 := Nat.lt_of_lt_of_le pl hl
  have e : ((2 : Int) ^ K) = ((2 ^ K : Nat) : Int) := by simp
  have hq : ((p / 2 : Nat) : Int) = (p : Int) / 2 := by omega
  refine (rgmake_any (K : Int) (p : Int) (by omega) (by omega) (fun _ => ⟨by omega, by omega, by rw [Int.toNat_natCast, e]; exact_mod_cast pl, ps, by rw [Int.toNat_natCast]; exact pn⟩) w).mono ?_
  rintro e' w' ⟨V, rfl, hV, hb⟩
  rcases hV with ⟨-, hV⟩ | ⟨hn, -⟩
  · exact ⟨by rw [hV, Int.toNat_natCast, ← hq, Int.toNat_natCast], hb⟩
  · omega
theorem make15 : z2b 24 #[.int .i64 15] (.tuple #[.agg (zf 15 32603 16301 4), .bool true]) := by
  obtain ⟨ps, pn⟩ := tab_of (k := 15) (p := 32603) (D := 180) (E := 127) (by decide) (by decide) (by decide) (by decide) (by decide) tab15
  exact make_kp (K := 15) (p := 32603) (by decide) (by decide) (by decide) (by decide) (by decide) ps pn
theorem group_of {n : Int} {t : Nat} {k : Int} {p : Nat} (ht : t < 9) (kw : ∀ w, Calls Try.prog 25 #[.int .i64 n, .int .i64 9] w fun e w' => e = .returned (.int .i64 (t : Int)) ∧ w = w')
  (hk : (#[.int .i64 12, .int .i64 13, .int .i64 14, .int .i64 15, .int .i64 16, .int .i64 17, .int .i64 18, .int .i64 20, .int .i64 24] : Array Value)[t]? = some (.int .i64 k)) (hr : z2b 24 #[.int .i64 k] (.tuple #[.agg (zf k p (p / 2) 4), .bool true])) (w : World) :
  Calls Try.prog 7 #[.int .i64 n] w fun e w' => e = .returned (.agg (zf k p (p / 2) 4)) ∧ Below w.heap.size w w' := by
 refine zka (args := [.int .i64 n]) 15 Try.func7 rfl rfl rfl ?_
 intro fa F
 have M := Mx.start w
 refine zSk fun _ hK1 => ?_
 refine zR ?_
 refine zl (zb rfl) rfl F rfl M 0 (t := 30) (c := zf 0 0 0 0) (by unfold execOp; rw [zrb]; kernel_rfl) ?_
 intro g2 a2 w2 F2 M2
 clear F M
 refine hK1 _ _ ?_
 refine zSk fun _ hK3 => ?_
 refine zR ?_
 refine zwb (zb rfl) rfl F2 rfl M2 1 (t := 3) (c := #[.int .i64 12, .int .i64 13, .int .i64 14, .int .i64 15, .int .i64 16, .int .i64 17, .int .i64 18, .int .i64 20, .int .i64 24]) (k := 9) (m := 9) (y_litI rfl #[.int .i64 12, .int .i64 13, .int .i64 14, .int .i64 15, .int .i64 16, .int .i64 17, .int .i64 18, .int .i64 20, .int .i64 24] rfl (by decide) (by decide) (by simp only [List.map_toArray, List.map_cons, List.map_nil]; kernel_rfl)) ?_
 intro g4 a4 w4 F4 M4
 clear F2 M2
 refine zh (w' := w4) (zb rfl) rfl F4 rfl (.int .i64 n) (zu _ (.inl rfl) (F4.get (t := 0) rfl)) fun _ F5 => ?_
 clear F4
 refine z9 (zb rfl) rfl F5 rfl rfl (zE Try.func25 rfl) #[.int .i64 n, .int .i64 9] (zdb (F5.get (t := 7) rfl) rfl) (zea (kw w4)) ?_
 rintro _ w6 a6 ⟨rfl, rfl⟩ F6
 refine zh (w' := w4) (zb rfl) rfl F6 rfl (.pointer (some ⟨g4, t, none⟩)) (y_ixI _ _ rfl (F6.get (t := 6) rfl) (F6.get (t := 8) rfl) rfl ht (Nat.zero_add t)) fun _ F7 => ?_
 clear F6
 refine zh (w' := w4) (zb rfl) rfl F7 rfl (.int .i64 k) (y_ld1 _ _ rfl (F7.get (t := 9) rfl) (M4.blk (k := 1) rfl) hk Try.underlying3 rfl) fun _ F8 => ?_
 clear F7
 refine z9 (zb rfl) rfl F8 rfl rfl (zE Try.func24 rfl) #[.int .i64 k] (zwa (F8.get (t := 10) rfl)) (zea (hr w4)) ?_
 rintro _ w9 a9 ⟨rfl, b9⟩ F9
 have M9 := M4.step b9
 refine zh (w' := w9) (zb rfl) rfl F9 rfl (.tuple #[.agg (zf k p (p / 2) 4), .bool true]) (zu _ (.inl rfl) (F9.get (t := 11) rfl)) fun _ F10 => ?_
 clear F9
 refine zh (w' := w9) (zb rfl) rfl F10 rfl (.agg (zf k p (p / 2) 4)) (y_ext _ _ rfl (F10.get (t := 5) rfl) rfl) fun _ F11 => ?_
 clear F10
 refine zh (w' := w9) (zb rfl) rfl F11 rfl (.bool true) (y_ext _ _ rfl (F11.get (t := 5) rfl) rfl) fun _ F12 => ?_
 clear F11
 refine zl (zb rfl) rfl F12 rfl M9 2 (t := 30) (c := zf 0 0 0 0) (by unfold execOp; rw [zrb]; kernel_rfl) ?_
 intro g13 a13 w13 F13 M13
 clear F12 M9
 refine zda (zb rfl) rfl F13 M13 (k := 2) rfl _ _ _ rfl (F13.get (t := 3) rfl) (F13.get (t := 12) rfl) (zf k p (p / 2) 4) _ rfl (zL rfl) (zxb _ _ _ _) (zr rfl) (by kernel_rfl) ?_
 intro w14 M14
 clear M13
 refine zh (w' := w14) (zb rfl) rfl F13 rfl (.bool true) (zu _ (.inr rfl) (F13.get (t := 13) rfl)) fun _ F15 => ?_
 clear F13
 refine hK3 _ _ ?_
 refine zSk fun _ hK16 => ?_
 refine zR ?_
 refine zh (w' := w14) (zb rfl) rfl F15 rfl _ (zt _ _ rfl (F15.get (t := 3) rfl) (M14.blk (k := 2) rfl) (zf k p (p / 2) 4) (zba rfl) Try.underlying30 rfl (by kernel_rfl)) fun _ F17 => ?_
 clear F15
 refine zda (zb rfl) rfl F17 M14 (k := 0) rfl _ _ _ rfl (F17.get (t := 2) rfl) (F17.get (t := 14) rfl) (zf k p (p / 2) 4) _ rfl (zL rfl) (zxb _ _ _ _) (zr rfl) (by kernel_rfl) ?_
 intro w18 M18
 clear M14
 refine hK16 _ _ ?_
 refine wp_ret ?_
 try simp only [Exit.then, Exit.inBlock]
 exact bodyPost_ret (results_cell_row rfl _ _ _ _ _ (0, 0) _ (F17.get rfl) (M18.blk (k := 0) rfl) Try.underlying30 rfl (by kernel_rfl)) F17.defers ⟨rfl, M18.below⟩
theorem group_3 (w : World) : Calls Try.prog 7 #[.int .i64 3] w fun e w' => e = .returned (.agg (zf 15 32603 16301 4)) ∧ Below w.heap.size w w' :=
  group_of (n := 3) (t := 3) (k := 15) (p := 32603) (by decide) (fun w => gwithin_any 3 9 (by decide) (by decide) (by decide) (by decide) w) rfl make15 w
end Go.Proofs.Ytcfepoopkfhojaa
namespace Go.Proofs.Ytcfepoopkfhojaa
open Go.ChangeShapes Go.WideShapes Go.ChangeAt Go.RowKit
theorem side_two {G : Option Nat} {w0 w w' : World} {R : List (Nat × Res)} (M : Mx G w0 w R) (hb : Below w.heap.size w w') (i j : Nat) {x : SideN} {y : SideV} (h : SideIs w' x y) (h1 : ∀ b, bfp y.vp b → w.heap.size ≤ b) (h2 : ∀ b, bfp y.vs b → w.heap.size ≤ b) (hij : i ≠ j) : Mx G w0 w' ((j, bytR x.ls y.vs) :: (i, bytR x.lp y.vp) :: R) ∧ True :=
  ⟨(M.fresh hb i _ h.hp bytR_dep (fun g hg => ⟨h1 g hg, h.hp.lt hg⟩)).cons j _ h.hs bytR_dep (fun g hg => h.hs.lt hg) (fun e => by cases e) fun k s e hk hw g hg hs => by
    rcases hw with hw | hw
    · cases hw
    rw [zua] at e
    split at e
    · cases e; cases hw
    · have := M.lt k s e g hs
      have := h2 g hg
      omega, trivial⟩
section
theorem kc_v (w : World) (vp vs : Value) (hp : IsB w [112] vp) (hs : IsB w [115] vs) : Calls Try.prog 18 #[.agg (zf 15 32603 16301 4), .string ({ data := #[117] }), vp, vs] w fun e w' => e = .returned (numV kV) ∧ Below w.heap.size w w' :=
  verifier_any 15 32603 16301 4 (by decide) (by decide) (by decide) (by decide) (by decide) (by decide) { data := #[117] } (by decide) [112] [115] vp vs w hp hs
theorem kc_h (w : World) (vp vd : Value) (hp : IsB w [112] vp) (hd : IsB w [49] vd) : Calls Try.prog 10 #[.agg (zf 15 32603 16301 4), .string ({ data := #[117] }), vp, vd] w fun e w' => ∃ v, e = .returned v ∧ ∃ y : SideV, v = .tuple #[.agg (zg kC y), numV kAA] ∧ SideIs w' kC y ∧ (∀ b, bfp y.vp b → w.heap.size ≤ b) ∧ (∀ b, bfp y.vs b → w.heap.size ≤ b) ∧ Below w.heap.size w w' :=
  (hello_any 15 32603 16301 4 (by decide) (by decide) (by decide) (by decide) (by decide) (by decide) { data := #[117] } [112] [49] vp vd (by decide) w hp hd).mono fun e w' ⟨vc, h1, h2, h3, h4⟩ => ⟨_, h1, ⟨vc, zN⟩, rfl, h2, h3, fun b hb => absurd hb (z8b b), h4⟩
theorem kc_o (w : World) (v vd : Value) (hv : IsB w [115] v) (hd : IsB w [50] vd) : Calls Try.prog 14 #[.agg (zf 15 32603 16301 4), .agg (recA ⟨1, { data := #[117] }, [115], kV, 0, [], 0, 0, 0⟩ ⟨v, zN⟩), numV kAA, vd] w fun e w' => ∃ v, e = .returned v ∧ ∃ y : SideV, v = .tuple #[.agg (zg kS y), numV (offB 32603 16301 4 kV kB), .bool true] ∧ SideIs w' kS y ∧ (∀ b, bfp y.vp b → w.heap.size ≤ b) ∧ (∀ b, bfp y.vs b → w.heap.size ≤ b) ∧ Below w.heap.size w w' := by
  have h := offer_any 15 32603 16301 4 (by decide) (by decide) (by decide) (by decide) (by decide) (by decide) (by decide) ⟨1, { data := #[117] }, [115], kV, 0, [], 0, 0, 0⟩ ⟨v, zN⟩ (Nat.lt_trans (Nat.mod_lt _ (by decide)) (by decide)) (by decide) (by decide) kAA (Nat.lt_trans (Nat.mod_lt _ (by decide)) (by decide)) [50] vd w ⟨hv, zca _⟩ hd
  rw [show texN 16301 [98] [[50]] = kB from rfl] at h
  simp only [kn_off, cond_true] at h
  exact h.mono fun e w' ⟨vc, h1, h2, h3, h4⟩ => ⟨_, h1, ⟨zN, vc⟩, rfl, h2, fun b hb => absurd hb (z8b b), h3, h4⟩
theorem kA_lt : kA < 4294967296 := Nat.lt_trans (expN_bd (by decide) _).2 (by decide)
theorem kc_p (w : World) (y : SideV) (vl : Value) (hx : SideIs w kC y) (hl : IsB w [115] vl) : Calls Try.prog 16 #[.agg (zg kC y), vl, numV (offB 32603 16301 4 kV kB)] w fun e w' => ∃ v, e = .returned v ∧ ∃ y : SideV, v = .tuple #[.agg (zg kD y), .agg (zk kD.Pr), .bool true] ∧ SideIs w' kD y ∧ (∀ b, bfp y.vp b → w.heap.size ≤ b) ∧ (∀ b, bfp y.vs b → w.heap.size ≤ b) ∧ Below w.heap.size w w' := by
  have h := prove_any kC y (show 32603 % 2 = 1 by decide) (show 1 < 32603 by decide) (show 32603 < 4294967296 by decide) (show 2 < 16301 by decide) (show 16301 ≤ 4294967296 by decide) kA_lt (show 4 < 4294967296 ^ 8 by decide) (show 1 ≤ 1000 by decide) (show 1 ≤ 100000 by decide) [115] (by decide) vl (offB 32603 16301 4 kV kB) (Nat.lt_trans (Nat.mod_lt _ (by decide)) (by decide)) w hx hl
  simp only [kn_prv, cond_true] at h
  exact h.mono fun e w' ⟨y', h1, h2⟩ => ⟨_, h1, y', rfl, h2⟩
theorem kc_c (w : World) (y : SideV) (v : Value) (hx : SideIs w kS y) (hv : IsB w (sumY kD.Pr) v) : Calls Try.prog 21 #[.agg (zg kS y), v] w fun e w' => e = .returned (.tuple #[.agg (zk (ansY kS.Ky kS.Pr)), .bool true]) ∧ Below w.heap.size w w' :=
  check_any kS y kn_ok.1 (sumY kD.Pr) v true (decide_eq_true (by rw [kn_Pr])) w hx hv
theorem kc_d (w : World) (y : SideV) (v : Value) (hx : SideIs w kD y) (hv : IsB w (sumY (ansY kS.Ky kS.Pr)) v) : Calls Try.prog 23 #[.agg (zg kD y), v] w fun e w' => e = .returned (.bool true) ∧ Below w.heap.size w w' :=
  done_any kD y kn_ok.2 _ v true (decide_eq_true (by rw [kn_Ky, kn_Pr])) w hx hv
theorem kc_b (y : Nat → Int) (hy : ∀ k, 0 ≤ y k ∧ y k < 256) (w : World) : Calls Try.prog 22 #[.agg (zk y)] w fun e w' => ∃ v, e = .returned v ∧ Below w.heap.size w w' ∧ IsB w' (sumY y) v :=
  (srbytes_any y hy w).mono fun e w' ⟨v, h1, h2, h3⟩ => ⟨v, h1, h3, h2.isb⟩
theorem kc_z (w : World) : Calls Try.prog 23 #[.agg (zg ⟨0, 0, 0, 0, "".toUTF8, [], 0, 0, 0, [], 0, fun _ => 0, fun _ => 0⟩ ⟨zN, zN⟩), zN] w fun e w' => e = .returned (.bool false) ∧ Below w.heap.size w w' :=
  done_any _ _ ⟨fun _ => ⟨Int.le_refl _, (show (0 : Int) < 256 by decide)⟩, fun _ => ⟨Int.le_refl _, (show (0 : Int) < 256 by decide)⟩⟩ [] _ false (decide_eq_false fun h => absurd (congrArg List.length h) (by rw [zfc]; decide)) w ⟨zca _, zca _⟩ (zca _)
end
theorem sknown_any  (w : World) :
  Calls Try.prog 5 #[] w fun e w' => e = .returned (.bool true) ∧ Below w.heap.size w w' := by
 have kG := group_3
 refine zka (args := []) 83 Try.func5 rfl rfl rfl ?_
 intro fa F
 have M := Mx.start w
 refine zSk fun _ hK1 => ?_
 refine zR ?_
 refine rm rfl F fun _ F2 => ?_
 refine hK1 _ _ ?_
 refine zSk fun _ hK3 => ?_
 refine zR ?_
 refine z9 (zb rfl) rfl F2 rfl rfl (zE Try.func7 rfl) #[.int .i64 3] (zwa rfl) (zea (kG w)) ?_
 rintro _ w4 a4 ⟨rfl, b4⟩ F4
 have M4 := M.step b4
 refine zl (zb rfl) rfl F4 rfl M4 0 (t := 30) (c := zf 0 0 0 0) (by unfold execOp; rw [zrb]; kernel_rfl) ?_
 intro g5 a5 w5 F5 M5
 clear F4 M4
 refine zda (zb rfl) rfl F5 M5 (k := 0) rfl _ _ _ rfl (F5.get (t := 1) rfl) (F5.get (t := 13) rfl) (zf 15 32603 16301 4) _ rfl (zL rfl) (zxb _ _ _ _) (zr rfl) (by kernel_rfl) ?_
 intro w6 M6
 clear M5
 refine hK3 _ _ ?_
 refine zSk fun _ hK7 => ?_
 refine zR ?_
 refine z8a (zb rfl) rfl F5 rfl (run_litO M6 1 [115] 1 rfl (by decide) (by decide) rfl (by simp only [List.map_toArray, List.map_cons, List.map_nil]; kernel_rfl)) ?_
 intro v8 a8 w8 F8 M8
 clear F5 M6
 obtain ⟨A8, c8, rfl⟩ := (M8.isO (k := 1) rfl).shape
 refine z8a (zb rfl) rfl F8 rfl (run_cvL M8 (k := 1) rfl (by decide) _ rfl (F8.get (t := 14) rfl)) ?_
 intro v9 a9 w9 F9 M9
 clear F8 M8
 obtain ⟨A9, c9, rfl⟩ := (M9.isb (k := 1) rfl).shape
 refine zh (w' := w9) (zb rfl) rfl F9 rfl _ (zt _ _ rfl (F9.get (t := 1) rfl) (M9.blk (k := 0) rfl) (zf 15 32603 16301 4) (zba rfl) Try.underlying30 rfl (by kernel_rfl)) fun _ F10 => ?_
 clear F9
 refine z8a (zb rfl) rfl F10 rfl (run_litO M9 2 [112] 1 rfl (by decide) (by decide) rfl (by simp only [List.map_toArray, List.map_cons, List.map_nil]; kernel_rfl)) ?_
 intro v11 a11 w11 F11 M11
 clear F10 M9
 obtain ⟨A11, c11, rfl⟩ := (M11.isO (k := 2) rfl).shape
 refine z8a (zb rfl) rfl F11 rfl (run_cvL M11 (k := 2) rfl (by decide) _ rfl (F11.get (t := 17) rfl)) ?_
 intro v12 a12 w12 F12 M12
 clear F11 M11
 obtain ⟨A12, c12, rfl⟩ := (M12.isb (k := 2) rfl).shape
 refine z8a (zb rfl) rfl F12 rfl (run_litO M12 3 [115] 1 rfl (by decide) (by decide) rfl (by simp only [List.map_toArray, List.map_cons, List.map_nil]; kernel_rfl)) ?_
 intro v13 a13 w13 F13 M13
 clear F12 M12
 obtain ⟨A13, c13, rfl⟩ := (M13.isO (k := 3) rfl).shape
 refine z8a (zb rfl) rfl F13 rfl (run_cvL M13 (k := 3) rfl (by decide) _ rfl (F13.get (t := 19) rfl)) ?_
 intro v14 a14 w14 F14 M14
 clear F13 M13
 obtain ⟨A14, c14, rfl⟩ := (M14.isb (k := 3) rfl).shape
 refine z9 (zb rfl) rfl F14 rfl rfl (zE Try.func18 rfl) #[.agg (zf 15 32603 16301 4), .string ({ data := #[117] }), .slice A12 ([112]).length c12, .slice A14 ([115]).length c14] (args4 (F14.get (t := 16) rfl) rfl (F14.get (t := 18) rfl) (F14.get (t := 20) rfl)) (zea ((kc_v w14 _ _ (M14.isb (k := 2) rfl) (M14.isb (k := 3) rfl)))) ?_
 rintro _ w15 a15 ⟨rfl, b15⟩ F15
 have M15 := M14.step b15
 refine zh (w' := w15) (zb rfl) rfl F15 rfl (.agg (recA ⟨1, ({ data := #[117] }), [115], kV, 0, [], 0, 0, 0⟩ ⟨.slice A9 ([115]).length c9, zN⟩)) (by unfold execOp; simp only [List.map_toArray, List.map_cons, List.map_nil, (F15.get (t := 15) rfl), (F15.get (t := 21) rfl)]; kernel_rfl) fun _ F16 => ?_
 clear F15
 refine zl (zb rfl) rfl F16 rfl M15 4 (t := 35) (c := recA ⟨0, "".toUTF8, [], 0, 0, [], 0, 0, 0⟩ ⟨zN, zN⟩) (by unfold execOp; kernel_rfl) ?_
 intro g17 a17 w17 F17 M17
 clear F16 M15
 refine zda (zb rfl) rfl F17 M17 (k := 4) rfl _ _ _ rfl (F17.get (t := 2) rfl) (F17.get (t := 22) rfl) (recA ⟨1, ({ data := #[117] }), [115], kV, 0, [], 0, 0, 0⟩ ⟨.slice A9 ([115]).length c9, zN⟩) _ rfl (zL rfl) (recA_one (w := w17) ⟨(M17.isb (k := 1) rfl), zca _⟩) (zr rfl) (by kernel_rfl) ?_
 intro w18 M18
 clear M17
 refine hK7 _ _ ?_
 refine zSk fun _ hK19 => ?_
 refine zR ?_
 refine zh (w' := w18) (zb rfl) rfl F17 rfl _ (zt _ _ rfl (F17.get (t := 1) rfl) (M18.blk (k := 0) rfl) (zf 15 32603 16301 4) (zba rfl) Try.underlying30 rfl (by kernel_rfl)) fun _ F20 => ?_
 clear F17
 refine z8a (zb rfl) rfl F20 rfl (run_litO M18 5 [112] 1 rfl (by decide) (by decide) rfl (by simp only [List.map_toArray, List.map_cons, List.map_nil]; kernel_rfl)) ?_
 intro v21 a21 w21 F21 M21
 clear F20 M18
 obtain ⟨A21, c21, rfl⟩ := (M21.isO (k := 5) rfl).shape
 refine z8a (zb rfl) rfl F21 rfl (run_cvL M21 (k := 5) rfl (by decide) _ rfl (F21.get (t := 25) rfl)) ?_
 intro v22 a22 w22 F22 M22
 clear F21 M21
 obtain ⟨A22, c22, rfl⟩ := (M22.isb (k := 5) rfl).shape
 refine z8a (zb rfl) rfl F22 rfl (run_litO M22 6 [49] 1 rfl (by decide) (by decide) rfl (by simp only [List.map_toArray, List.map_cons, List.map_nil]; kernel_rfl)) ?_
 intro v23 a23 w23 F23 M23
 clear F22 M22
 obtain ⟨A23, c23, rfl⟩ := (M23.isO (k := 6) rfl).shape
 refine z8a (zb rfl) rfl F23 rfl (run_cvL M23 (k := 6) rfl (by decide) _ rfl (F23.get (t := 27) rfl)) ?_
 intro v24 a24 w24 F24 M24
 clear F23 M23
 obtain ⟨A24, c24, rfl⟩ := (M24.isb (k := 6) rfl).shape
 refine z9 (zb rfl) rfl F24 rfl rfl (zE Try.func10 rfl) #[.agg (zf 15 32603 16301 4), .string ({ data := #[117] }), .slice A22 ([112]).length c22, .slice A24 ([49]).length c24] (args4 (F24.get (t := 24) rfl) rfl (F24.get (t := 26) rfl) (F24.get (t := 28) rfl)) (kc_h w24 _ _ (M24.isb (k := 5) rfl) (M24.isb (k := 6) rfl)) ?_
 rintro _ w25 a25 ⟨y25, rfl, his25, hlo25, hls25, b25⟩ F25
 obtain ⟨M25, -⟩ := side_two M24 b25 7 8 his25 hlo25 hls25 (by decide)
 clear M24 hlo25 hls25 his25 b25
 refine zB 3 [(0, .bool false), (1, .pointer (some ⟨g5, 0, none⟩)), (2, .pointer (some ⟨g17, 0, none⟩)), (30, .agg (zg kC y25)), (31, numV kAA)] [] dnil [] F25 fun _ F26 => ?_
 clear F25
 refine zl (zb rfl) rfl F26 rfl M25 9 (t := 39) (c := zg ⟨0, 0, 0, 0, "".toUTF8, [], 0, 0, 0, [], 0, (fun _ => 0), (fun _ => 0)⟩ ⟨zN, zN⟩) (by unfold execOp; kernel_rfl) ?_
 intro g27 a27 w27 F27 M27
 clear F26 M25
 refine zl (zb rfl) rfl F27 rfl M27 10 (t := 28) (c := numA 0) (zz rfl) ?_
 intro g28 a28 w28 F28 M28
 clear F27 M27
 refine zda (zb rfl) rfl F28 M28 (k := 9) rfl _ _ _ rfl (F28.get (t := 3) rfl) (F28.get (t := 30) rfl) (zg kC y25) _ rfl (zL rfl) (zbb (w := w28) ⟨(M28.isb (k := 7) rfl), (M28.isb (k := 8) rfl)⟩) (zr rfl) (by kernel_rfl) ?_
 intro w29 M29
 clear M28
 refine zda (zb rfl) rfl F28 M29 (k := 10) rfl _ _ _ rfl (F28.get (t := 4) rfl) (F28.get (t := 31) rfl) (numA kAA) _ rfl (zL rfl) (zha _) (zr rfl) zc ?_
 intro w30 M30
 clear M29
 refine hK19 _ _ ?_
 refine zSk fun _ hK31 => ?_
 refine zR ?_
 refine zh (w' := w30) (zb rfl) rfl F28 rfl _ (zt _ _ rfl (F28.get (t := 1) rfl) (M30.blk (k := 0) rfl) (zf 15 32603 16301 4) (zba rfl) Try.underlying30 rfl (by kernel_rfl)) fun _ F32 => ?_
 clear F28
 refine zh (w' := w30) (zb rfl) rfl F32 rfl _ (zt _ _ rfl (F32.get (t := 2) rfl) (M30.blk (k := 4) rfl) (recA ⟨1, ({ data := #[117] }), [115], kV, 0, [], 0, 0, 0⟩ ⟨.slice A9 ([115]).length c9, zN⟩) (zba rfl) Try.underlying35 rfl (by kernel_rfl)) fun _ F33 => ?_
 clear F32
 refine zh (w' := w30) (zb rfl) rfl F33 rfl (numV kAA) (zt _ _ rfl (F33.get (t := 4) rfl) (M30.blk (k := 10) rfl) (numA kAA) (zba rfl) Try.underlying28 rfl zc) fun _ F34 => ?_
 clear F33
 refine z8a (zb rfl) rfl F34 rfl (run_litO M30 11 [50] 1 rfl (by decide) (by decide) rfl (by simp only [List.map_toArray, List.map_cons, List.map_nil]; kernel_rfl)) ?_
 intro v35 a35 w35 F35 M35
 clear F34 M30
 obtain ⟨A35, c35, rfl⟩ := (M35.isO (k := 11) rfl).shape
 refine z8a (zb rfl) rfl F35 rfl (run_cvL M35 (k := 11) rfl (by decide) _ rfl (F35.get (t := 36) rfl)) ?_
 intro v36 a36 w36 F36 M36
 clear F35 M35
 obtain ⟨A36, c36, rfl⟩ := (M36.isb (k := 11) rfl).shape
 refine z9 (zb rfl) rfl F36 rfl rfl (zE Try.func14 rfl) #[.agg (zf 15 32603 16301 4), .agg (recA ⟨1, ({ data := #[117] }), [115], kV, 0, [], 0, 0, 0⟩ ⟨.slice A9 ([115]).length c9, zN⟩), numV kAA, .slice A36 ([50]).length c36] (args4 (F36.get (t := 33) rfl) (F36.get (t := 34) rfl) (F36.get (t := 35) rfl) (F36.get (t := 37) rfl)) (kc_o w36 _ _ (M36.isb (k := 1) rfl) (M36.isb (k := 11) rfl)) ?_
 rintro _ w37 a37 ⟨y37, rfl, his37, hlo37, hls37, b37⟩ F37
 obtain ⟨M37, -⟩ := side_two M36 b37 12 13 his37 hlo37 hls37 (by decide)
 clear M36 hlo37 hls37 his37 b37
 refine zB 4 [(0, .bool false), (2, .pointer (some ⟨g17, 0, none⟩)), (3, .pointer (some ⟨g27, 0, none⟩)), (39, .agg (zg kS y37)), (40, numV (offB 32603 16301 4 kV kB)), (41, .bool true)] [] dnil [] F37 fun _ F38 => ?_
 clear F37
 refine zl (zb rfl) rfl F38 rfl M37 14 (t := 39) (c := zg ⟨0, 0, 0, 0, "".toUTF8, [], 0, 0, 0, [], 0, (fun _ => 0), (fun _ => 0)⟩ ⟨zN, zN⟩) (by unfold execOp; kernel_rfl) ?_
 intro g39 a39 w39 F39 M39
 clear F38 M37
 refine zl (zb rfl) rfl F39 rfl M39 15 (t := 28) (c := numA 0) (zz rfl) ?_
 intro g40 a40 w40 F40 M40
 clear F39 M39
 refine zda (zb rfl) rfl F40 M40 (k := 14) rfl _ _ _ rfl (F40.get (t := 5) rfl) (F40.get (t := 39) rfl) (zg kS y37) _ rfl (zL rfl) (zbb (w := w40) ⟨(M40.isb (k := 12) rfl), (M40.isb (k := 13) rfl)⟩) (zr rfl) (by kernel_rfl) ?_
 intro w41 M41
 clear M40
 refine zda (zb rfl) rfl F40 M41 (k := 15) rfl _ _ _ rfl (F40.get (t := 6) rfl) (F40.get (t := 40) rfl) (numA (offB 32603 16301 4 kV kB)) _ rfl (zL rfl) (zha _) (zr rfl) zc ?_
 intro w42 M42
 clear M41
 refine rm rfl F40 fun _ F43 => ?_
 refine hK31 _ _ ?_
 refine zSk fun _ hK44 => ?_
 refine zR ?_
 refine zB 4 [(0, .bool false), (5, .pointer (some ⟨g39, 0, none⟩)), (7, .bool true), (43, .agg (zg kC y25)), (45, .slice A9 ([115]).length c9), (46, numV (offB 32603 16301 4 kV kB))] [0, 1, 2] (z6a (M42.blk (k := 9) rfl) (z6a (M42.blk (k := 4) rfl) (z6a (M42.blk (k := 15) rfl) dnil))) [g27, g17, g40] F43 fun _ F45 => ?_
 clear F43
 refine z9 (zb rfl) rfl F45 rfl rfl (zE Try.func16 rfl) #[.agg (zg kC y25), .slice A9 ([115]).length c9, numV (offB 32603 16301 4 kV kB)] (z1b (F45.get (t := 43) rfl) (F45.get (t := 45) rfl) (F45.get (t := 46) rfl)) (kc_p w42 _ _ ⟨(M42.isb (k := 7) rfl), (M42.isb (k := 8) rfl)⟩ (M42.isb (k := 1) rfl)) ?_
 rintro _ w46 a46 ⟨y46, rfl, his46, hlo46, hls46, b46⟩ F46
 obtain ⟨M46, -⟩ := side_two M42 b46 16 17 his46 hlo46 hls46 (by decide)
 clear M42 hlo46 hls46 his46 b46
 refine zB 4 [(0, .bool false), (5, .pointer (some ⟨g39, 0, none⟩)), (7, .bool true), (48, .agg (zg kD y46)), (49, .agg (zk kD.Pr)), (50, .bool true)] [] dnil [] F46 fun _ F47 => ?_
 clear F46
 refine zl (zb rfl) rfl F47 rfl M46 18 (t := 39) (c := zg ⟨0, 0, 0, 0, "".toUTF8, [], 0, 0, 0, [], 0, (fun _ => 0), (fun _ => 0)⟩ ⟨zN, zN⟩) (by unfold execOp; kernel_rfl) ?_
 intro g48 a48 w48 F48 M48
 clear F47 M46
 refine zl (zb rfl) rfl F48 rfl M48 19 (t := 37) (c := zk (fun _ => 0)) (by unfold execOp; kernel_rfl) ?_
 intro g49 a49 w49 F49 M49
 clear F48 M48
 refine zda (zb rfl) rfl F49 M49 (k := 18) rfl _ _ _ rfl (F49.get (t := 8) rfl) (F49.get (t := 48) rfl) (zg kD y46) _ rfl (zL rfl) (zbb (w := w49) ⟨(M49.isb (k := 16) rfl), (M49.isb (k := 17) rfl)⟩) (zr rfl) (by kernel_rfl) ?_
 intro w50 M50
 clear M49
 refine zda (zb rfl) rfl F49 M50 (k := 19) rfl _ _ _ rfl (F49.get (t := 9) rfl) (F49.get (t := 49) rfl) (zk kD.Pr) _ rfl (zL rfl) (zoa _) (zr rfl) (by kernel_rfl) ?_
 intro w51 M51
 clear M50
 refine rm rfl F49 fun _ F52 => ?_
 refine hK44 _ _ ?_
 refine zSk fun _ hK53 => ?_
 have hD54 := (z6a (M51.blk (k := 14) rfl) (z6a (M51.blk (k := 19) rfl) dnil))
 refine region_fxL F52 (SK [.inl (.agg (zg kS y37)), .inl (.agg (zk kD.Pr)), .inr (StK.bytes (sumY kD.Pr)), .inl (.tuple #[.agg (zk (ansY kS.Ky kS.Pr)), .bool true]), .inl (.tuple #[.agg (zk (ansY kS.Ky kS.Pr)), .bool true]), .inl (.agg (zk (ansY kS.Ky kS.Pr))), .inl (.bool true), .inr (StK.new w51.heap.size (zk (fun _ => 0)) 37 (by decide))]) 8 6 51 1 4 #[.agg (zk (ansY kS.Ky kS.Pr)), .bool true] (.bool true) rfl (by kernel_rfl) rfl (by kernel_rfl) (fun _ _ h => h) rfl (fun _ _ => Iff.rfl) rfl ⟨hopP F52 hD54 0 (some g39) (by kernel_rfl), hopP F52 hD54 1 (some g49) (by kernel_rfl), ?_, ?_, hop0 F52 (by kernel_rfl), hop0 F52 (by kernel_rfl), hop0 F52 (by kernel_rfl), ?_, trivial⟩ ?_
 ·intro ua uw hb hd
  have e53 : ua.eval (.tmp 53) = .agg (zk kD.Pr) := hd 53 (by decide)
  exact zy (F := (StK.bytes (sumY kD.Pr)).F) (zb rfl) hb.size rfl #[.agg (zk kD.Pr)] (zwa e53) (zE Try.func22 rfl) ((kc_b kD.Pr kn_ok.2.pr uw))
 ·intro ua uw hb hd
  have e52 : ua.eval (.tmp 52) = .agg (zg kS y37) := hd 52 (by decide)
  have e54 : IsB uw (sumY kD.Pr) (ua.eval (.tmp 54)) := hd 54 (by decide)
  exact zy (F := (StK.eq (.tuple #[.agg (zk (ansY kS.Ky kS.Pr)), .bool true])).F) (zb rfl) hb.size rfl #[.agg (zg kS y37), (ua.eval (.tmp 54))] (zdb e52 rfl) (zE Try.func21 rfl) (zia ((kc_c uw _ _ ⟨((M51.step hb).isb (k := 12) rfl), ((M51.step hb).isb (k := 13) rfl)⟩ e54)))
 ·intro ua uw hb hd
  exact hop_new (zb rfl) hb.size hb.size (by decide) (by unfold execOp; kernel_rfl)
 intro p55 a55 w55 b55 G55 y55
 obtain ⟨-, -, -, -, -, q5, q6, q7, -⟩ := y55
 obtain ⟨gn7x54, r7, hg7, hc7⟩ := q7 (by decide)
 replace r7 : p55 7 = .pointer (some ⟨gn7x54, 0, none⟩) := r7
 have r5 : p55 5 = .agg (zk (ansY kS.Ky kS.Pr)) := q5 (by decide)
 have r6 : p55 6 = .bool true := q6 (by decide)
 simp only [List.take, layV, Nat.zero_add, Nat.reduceAdd, r5, r6, r7] at G55
 have M55 := M51.newb b55.below 20 hg7 hc7
 clear hg7 hc7 r7
 clear F52 M51 r5 q5 r6 q6
 refine st_ex M55 (k := 20) rfl _ _ _ rfl (G55.get (t := 11) rfl) (G55.get (t := 56) rfl) (zk (ansY kS.Ky kS.Pr)) _ rfl (zL rfl) (zoa _) (zr rfl) (by kernel_rfl) ?_
 intro w56 M56
 clear M55
 refine rm rfl G55 fun _ F57 => ?_
 refine hK53 _ _ ?_
 refine zSk fun _ hK58 => ?_
 have hD59 := (z6a (M56.blk (k := 18) rfl) (z6a (M56.blk (k := 20) rfl) (z6a (M56.blk (k := 14) rfl) dnil)))
 refine zgb F57 (SK [.inl (.agg (zg ⟨0, 0, 0, 0, "".toUTF8, [], 0, 0, 0, [], 0, (fun _ => 0), (fun _ => 0)⟩ ⟨zN, zN⟩)), .inl (.bool false), .inl (.bool true), .inl (.bool true), .inl (.bool true), .inl (.bool true), .inl (.bool true), .inl (.bool true), .inl (.bool true), .inl (.bool true), .inl (.bool true), .inl (.bool true), .inl (.bool true), .inl (.agg (zg kD y46)), .inl (.agg (zk (ansY kS.Ky kS.Pr))), .inr (StK.bytes (sumY (ansY kS.Ky kS.Pr))), .inl (.bool true), .inl (.bool true), .inl (.bool true), .inl (.pointer (some ⟨g48, 60, none⟩)), .inl (.agg (zk kD.Ky)), .inl (.pointer (some ⟨g39, 60, none⟩)), .inl (.agg (zk kS.Ky)), .inl (.bool true), .inl (.bool true), .inl (.bool true)]) 26 rfl (by kernel_rfl) ⟨?_, ?_, hop0 F57 (by kernel_rfl), hop0 F57 (by kernel_rfl), hop0 F57 (by kernel_rfl), hop0 F57 (by kernel_rfl), hop0 F57 (by kernel_rfl), hop0 F57 (by kernel_rfl), hop0 F57 (by kernel_rfl), hop0 F57 (by kernel_rfl), hop0 F57 (by kernel_rfl), hop0 F57 (by kernel_rfl), hop0 F57 (by kernel_rfl), hopP F57 hD59 0 (some g48) (by kernel_rfl), hopP F57 hD59 1 (some gn7x54) (by kernel_rfl), ?_, ?_, hop0 F57 (by kernel_rfl), hop0 F57 (by kernel_rfl), hop0 F57 (by kernel_rfl), hopP F57 hD59 0 (some g48) (by kernel_rfl), hop0 F57 (by kernel_rfl), hopP F57 hD59 2 (some g39) (by kernel_rfl), ?_, hop0 F57 (by kernel_rfl), hop0 F57 (by kernel_rfl), trivial⟩ ?_
 ·intro ua uw hb hd
  exact zm (F := (StK.eq (.agg (zg ⟨0, 0, 0, 0, "".toUTF8, [], 0, 0, 0, [], 0, (fun _ => 0), (fun _ => 0)⟩ ⟨zN, zN⟩))).F) (zb rfl) (.agg (zg ⟨0, 0, 0, 0, "".toUTF8, [], 0, 0, 0, [], 0, (fun _ => 0), (fun _ => 0)⟩ ⟨zN, zN⟩)) (by unfold execOp; kernel_rfl) rfl
 ·intro ua uw hb hd
  have e58 : ua.eval (.tmp 58) = .agg (zg ⟨0, 0, 0, 0, "".toUTF8, [], 0, 0, 0, [], 0, (fun _ => 0), (fun _ => 0)⟩ ⟨zN, zN⟩) := hd 58 (by decide)
  exact zy (F := (StK.eq (.bool false)).F) (zb rfl) hb.size rfl #[.agg (zg ⟨0, 0, 0, 0, "".toUTF8, [], 0, 0, 0, [], 0, (fun _ => 0), (fun _ => 0)⟩ ⟨zN, zN⟩), zN] (zdb e58 rfl) (zE Try.func23 rfl) (zia ((kc_z uw)))
 ·intro ua uw hb hd
  have eg : ua.eval (.tmp 70) = .bool true := hd 70 (by decide)
  have e72 : ua.eval (.tmp 72) = .agg (zk (ansY kS.Ky kS.Pr)) := hd 72 (by decide)
  exact zy (F := (StK.bytes (sumY (ansY kS.Ky kS.Pr))).F) (zo rfl rfl rfl eg) hb.size rfl #[.agg (zk (ansY kS.Ky kS.Pr))] (zwa e72) (zE Try.func22 rfl) ((kc_b (ansY kS.Ky kS.Pr) (outF_bd _) uw))
 ·intro ua uw hb hd
  have eg : ua.eval (.tmp 70) = .bool true := hd 70 (by decide)
  have e71 : ua.eval (.tmp 71) = .agg (zg kD y46) := hd 71 (by decide)
  have e73 : IsB uw (sumY (ansY kS.Ky kS.Pr)) (ua.eval (.tmp 73)) := hd 73 (by decide)
  exact zy (F := (StK.eq (.bool true)).F) (zo rfl rfl rfl eg) hb.size rfl #[.agg (zg kD y46), (ua.eval (.tmp 73))] (zdb e71 rfl) (zE Try.func23 rfl) (zia ((kc_d uw _ _ ⟨((M56.step hb).isb (k := 16) rfl), ((M56.step hb).isb (k := 17) rfl)⟩ e73)))
 ·intro ua uw hb hd
  have eg : ua.eval (.tmp 76) = .bool true := hd 76 (by decide)
  have e78 : ua.eval (.tmp 78) = .agg (zk kD.Ky) := hd 78 (by decide)
  have e80 : ua.eval (.tmp 80) = .agg (zk kS.Ky) := hd 80 (by decide)
  exact zm (F := (StK.eq (.bool true)).F) (zo rfl rfl rfl eg) (.bool true) (run_eq16 _ _ rfl kS.Ky (e78.trans (by rw [kn_Ky])) e80) rfl
 intro p60 a60 w60 b60 G60 y60
 obtain ⟨-, -, -, -, -, -, -, -, -, -, -, -, -, -, -, -, -, -, -, -, -, -, -, -, -, q25, -⟩ := y60
 have r25 : p60 25 = .bool true := q25 (by decide)
 simp only [List.take, layV, Nat.zero_add, Nat.reduceAdd, r25] at G60
 have M60 := M56.kc b60
 clear F57 M56 r25 q25
 refine hK58 _ _ ?_
 refine wp_ret ?_
 try simp only [Exit.then, Exit.inBlock, Exit.jump]
 exact bodyPost_ret (res1 rfl (G60.get (t := 0) rfl)) G60.defers ⟨rfl, M60.below⟩
end Go.Proofs.Ytcfepoopkfhojaa
namespace Go.Proofs.Ytcfepoopkfhojaa
open Go.ChangeShapes Go.WideShapes Go.ChangeAt Go.RowKit
theorem run_lenT7 {a : Act} {w : World} {o : Oper} (T : TypeId) (hu : Try.prog.underlying T = some (.slice (Try.prog.elem T))) (x : Operand) (ho : o.op = .call { callee := .builtin .len, args := #[x], argTypes := #[T] }) {A : Option Addr} {n c : Nat} (hx : a.eval x = .slice A n c) : (execOp a.eval o).run Try.prog w = .ok (.value (.int .i64 (n : Int))) w := y_lnG T hu x ho hx rfl
theorem y_ixP7 {a : Act} {w : World} {o : Oper} {A : Option Addr} {c : Nat} {L : List (List UInt8)} (y k : Operand) (ho : o.op = .indexAddr 62 y k) (hx : a.eval y = .slice A L.length c) (hB : IsP w L (.slice A L.length c)) {z : Int} {i : Nat} (hk : a.eval k = .int .i64 z) (hz : z = (i : Int)) (hi : i < L.length) : (execOp a.eval o).run Try.prog w = .ok (.value (ixV (.slice A L.length c) i)) w := by
  subst hz
  obtain ⟨A', c', e, h1, h2, h3⟩ := hB
  injection e with e1 e2 e3
  subst e1 e3
  obtain ⟨b, q, rfl, hb, hc⟩ := h3 (by omega)
  unfold execOp
  simp only [ho, hx, hk]
  have h0 : ¬ ((i : Int) < 0) := by omega
  have h5 : (i : Int) < (L.length : Int) := by omega
  simp [go_sem, h0, h5, hi, ixV, zqa]
theorem part_ld7 {w : World} {A : Option Addr} {c : Nat} {L : List (List UInt8)} {l : List UInt8} (hB : IsP w L (.slice A L.length c)) {i : Nat} (hl : L[i]? = some l) :
    ∃ B d, IsB w l (.slice B l.length d) ∧ ∀ (a : Act) (o : Oper) (y : Operand), o.op = .load 23 y → a.eval y = ixV (.slice A L.length c) i → (execOp a.eval o).run Try.prog w = .ok (.value (.slice B l.length d)) w := by
  obtain ⟨A', c', e, h1, h2, h3⟩ := hB
  injection e with e1 e2 e3
  subst e1 e3
  have hi : i < L.length := (List.getElem?_eq_some_iff.1 hl).1
  obtain ⟨b, q, rfl, hb, hc⟩ := h3 (by omega)
  obtain ⟨B, d, hcell, q2, q3, q4, q5⟩ := hc i l hl
  refine ⟨B, d, ⟨B, d, rfl, q2, q3, q4, q5⟩, fun a o y ho hx => ?_⟩
  have hx' : a.eval y = .pointer (some ⟨b, q + i, none⟩) := by rw [hx]; simp [ixV, zqa]
  have h6 : (isAgg 23).run Try.prog w = .ok false w := by
    unfold isAgg
    simp only [Sem.run_bind, run_underlying Try.underlying23, Result.andThen_ok]
    rfl
  unfold execOp
  simp only [ho, hx', Instr.loadAt, Instr.sureAddr, loadVar, Sem.run_bind, Sem.run_pure, Result.andThen_ok, h6, Bool.false_eq_true, if_false]
  simp [hcell, Result.andThen]
def shortB (L : List (List UInt8)) : Bool := L.all fun l => decide (l.length ≤ 64)
theorem short_any (L : List (List UInt8)) (u : Value) (w : World) (hu : IsP w L u) :
  Calls Try.prog 6 #[u] w fun e w' => e = .returned (.bool (shortB L)) ∧ Below w.heap.size w w' := by
 obtain ⟨A0, c0, rfl, hc1, hc2, hP⟩ := id hu
 have hLm : L.length ≤ 9223372036854775807 := by
  have := hc2
  unfold maxLen at this
  omega
 refine zka (args := [.slice A0 L.length c0]) 16 Try.func6 rfl rfl rfl ?_
 intro fa F
 have M := Mx.start w
 refine zSk fun _ hK1 => ?_
 refine zR ?_
 refine rm rfl F fun _ F2 => ?_
 refine hK1 _ _ ?_
 refine zSk fun _ hK3 => ?_
 refine zSk fun _ hK4 => ?_
 refine zR ?_
 refine rm rfl F2 fun _ F5 => ?_
 refine hK4 _ _ ?_
 refine wp_block ?_
 refine loop_fx (α := Nat) (n := 16) (G := none) (w0 := w) (fun x => [(0, .slice A0 L.length c0), (3, .int .i64 (x : Int))]) (fun x => []) (fun k x => k = (L.length - x) ∧ (x ≤ L.length ∧ ∀ (j : Nat) (l : List UInt8), j < x → L[j]? = some l → l.length ≤ 64)) _ 0 ⟨rfl, ⟨Nat.zero_le _, fun j l h => absurd h (Nat.not_lt_zero j)⟩⟩ (F5.sub ⟨rfl, rfl, trivial⟩) (M.sub trivial) ?_
 clear F5 M
 rintro k6 jn a6 w6 K6 ⟨ek6, I6⟩ F6 M6 hK6
 replace F6 : Fx 16 a6 [(0, .slice A0 L.length c0), (3, .int .i64 (jn : Int))] := F6
 replace M6 : Mx _ _ w6 [] := M6
 replace I6 : jn ≤ L.length ∧ ∀ (j : Nat) (l : List UInt8), j < jn → L[j]? = some l → l.length ≤ 64 := I6
 replace ek6 : k6 = (L.length - jn) := ek6
 obtain ⟨hj, hk2⟩ := I6
 refine zSk fun _ hK7 => ?_
 refine zSk fun _ hK8 => ?_
 refine zR ?_
 refine rm rfl F6 fun _ F9 => ?_
 refine rm rfl F9 fun _ F10 => ?_
 refine zh (w' := w6) (zb rfl) rfl F10 rfl (.int .i64 (L.length : Int)) (run_lenT7 62 Try.underlying62 _ rfl (F10.get (t := 5) rfl)) fun _ F11 => ?_
 clear F10
 by_cases h12 : (jn : Int) < (L.length : Int)
 ·have hlt : jn < L.length := by omega
  obtain ⟨l1, hl1⟩ : ∃ l, L[jn]? = some l := ⟨_, List.getElem?_eq_getElem hlt⟩
  obtain ⟨B1, d1, hB1, hld⟩ := part_ld7 (hu.step M6.below) hl1
  refine zh (w' := w6) (zb rfl) rfl F11 rfl (.bool true) (y_lss _ _ _ _ rfl (F11.get (t := 4) rfl) (F11.get (t := 6) rfl) (decide_eq_true h12)) fun _ F13 => ?_
  clear F11
  refine hK8 _ _ ?_
  refine wp_cond_true (F13.get (t := 7) rfl) ?_
  refine wp_skip ?_
  refine hK7 _ _ ?_
  refine zSk fun _ hK14 => ?_
  refine wp_block ?_
  refine zSk fun _ hK15 => ?_
  refine zR ?_
  refine rm rfl F13 fun _ F16 => ?_
  refine rm rfl F16 fun _ F17 => ?_
  refine zh (w' := w6) (zb rfl) rfl F17 rfl (ixV (.slice A0 L.length c0) jn) (y_ixP7 _ _ rfl (F17.get (t := 10) rfl) (hu.step M6.below) (F17.get (t := 11) rfl) rfl hlt) fun _ F18 => ?_
  clear F17
  refine zh (w' := w6) (zb rfl) rfl F18 rfl (.slice B1 l1.length d1) (hld _ _ _ rfl (F18.get (t := 12) rfl)) fun _ F19 => ?_
  clear F18
  refine zh (w' := w6) (zb rfl) rfl F19 rfl (.int .i64 (l1.length : Int)) (y_len _ rfl (F19.get (t := 13) rfl) hB1 rfl) fun _ F20 => ?_
  clear F19
  by_cases h21 : 64 < (l1.length : Int)
  ·have hno : shortB L = false := by
    cases e : shortB L with
    | false => rfl
    | true =>
     have := of_decide_eq_true (List.all_eq_true.1 e l1 (List.mem_of_getElem? hl1))
     omega
   refine zh (w' := w6) (zb rfl) rfl F20 rfl (.bool true) (y_gtr _ _ _ _ rfl (F20.get (t := 14) rfl) rfl (decide_eq_true h21)) fun _ F22 => ?_
   clear F20
   refine hK15 _ _ ?_
   refine wp_cond_true (F22.get (t := 15) rfl) ?_
   refine zSk fun _ hK23 => ?_
   refine zR ?_
   refine rm rfl F22 fun _ F24 => ?_
   refine hK23 _ _ ?_
   refine wp_ret ?_
   try simp only [Exit.then, Exit.inBlock, Exit.jump]
   exact bodyPost_ret (res1 rfl (F24.get rfl)) F24.defers ⟨by rw [hno], M6.below⟩
  ·have hl64 : l1.length ≤ 64 := by omega
   refine zh (w' := w6) (zb rfl) rfl F20 rfl (.bool false) (y_gtr _ _ _ _ rfl (F20.get (t := 14) rfl) rfl (decide_eq_false h21)) fun _ F25 => ?_
   clear F20
   refine hK15 _ _ ?_
   refine wp_cond_false (F25.get (t := 15) rfl) ?_
   refine wp_skip ?_
   refine hK14 _ _ ?_
   refine zR ?_
   refine rm rfl F25 fun _ F26 => ?_
   refine zh (w' := w6) (zb rfl) rfl F26 rfl (.int .i64 ((jn + 1 : Nat) : Int)) (y_addI _ _ _ _ rfl (F26.get (t := 8) rfl) rfl (by omega) (by omega)) fun _ F27 => ?_
   clear F26
   refine rm rfl F27 fun _ F28 => ?_
   subst ek6
   exact hK6 _ (jn + 1) _ _ (by omega) ⟨rfl, ⟨by omega, fun j l hj2 hl => by
     by_cases e : j = jn
     ·subst e; rw [hl1] at hl; rw [← Option.some.inj hl]; exact hl64
     ·exact hk2 j l (by omega) hl⟩⟩ (F28.sub ⟨rfl, rfl, trivial⟩) (M6.sub trivial)
 ·have hall : shortB L = true := List.all_eq_true.2 fun l hl => by
   obtain ⟨j, hj, e⟩ := List.getElem_of_mem hl
   exact decide_eq_true (hk2 j l (by omega) (by rw [List.getElem?_eq_getElem hj, e]))
  refine zh (w' := w6) (zb rfl) rfl F11 rfl (.bool false) (y_lss _ _ _ _ rfl (F11.get (t := 4) rfl) (F11.get (t := 6) rfl) (decide_eq_false h12)) fun _ F29 => ?_
  clear F11
  refine hK8 _ _ ?_
  refine wp_cond_false (F29.get (t := 7) rfl) ?_
  refine wp_exit ?_
  simp only [Exit.then, Exit.inBlock, ↓reduceIte, Nat.reduceEqDiff]
  refine hK3 _ _ ?_
  refine zSk fun _ hK30 => ?_
  refine zR ?_
  refine rm rfl F29 fun _ F31 => ?_
  refine hK30 _ _ ?_
  refine wp_ret ?_
  try simp only [Exit.then, Exit.inBlock, Exit.jump]
  exact bodyPost_ret (res1 rfl (F31.get rfl)) F31.defers ⟨by rw [hall], M6.below⟩
end Go.Proofs.Ytcfepoopkfhojaa
namespace Go.Proofs.Ytcfepoopkfhojaa
open Go.ChangeShapes Go.WideShapes Go.ChangeAt Go.RowKit
theorem within7_any (a n : Int) (hn : 0 < n) (hn' : n < 9223372036854775808) (ha : -9223372036854775808 ≤ a) (ha' : a < 9223372036854775808) (w : World) :
    Calls Try.prog 12 #[.int .i64 a, .int .i64 n] w fun e w' => e = .returned (.int .i64 (a % n)) ∧ w = w' := by
  obtain ⟨h1, h2, h3, h4⟩ := tmod_case a n hn
  have hz : (n == 0) = false := by simp; omega
  by_cases h : a.tmod n < 0
  · have H := hid (h2 h)
    clear h1 h2
    go_enter Try.func12, Try.ntmps12
    go_wp2
    go_ret
    exact ⟨congrArg (fun x => Ending.returned (.int .i64 x)) H.out, rfl⟩
  · have H := hid (h1 (by omega))
    clear h1 h2
    go_enter Try.func12, Try.ntmps12
    go_wp2
    go_ret
    exact ⟨congrArg (fun x => Ending.returned (.int .i64 x)) H.out, rfl⟩
end Go.Proofs.Ytcfepoopkfhojaa
namespace Go.Proofs.Ytcfepoopkfhojaa
open Go.ChangeShapes Go.WideShapes Go.ChangeAt Go.RowKit
theorem rleft_any (a m : Nat) (ha : a < 4294967296 ^ 8) (h0 : 0 < m) (h1 : m < 4294967296) (w : World) :
  Calls Try.prog 26 #[numV a, .int .i64 (m : Int)] w fun e w' => e = .returned (.int .i64 ((a % m : Nat) : Int)) ∧ Below w.heap.size w w' := by
 obtain ⟨r, hr⟩ : ∃ r, a % m = r := ⟨_, rfl⟩
 have r1 : r < 4294967296 := by rw [← hr]; exact Nat.lt_trans (Nat.mod_lt _ h0) h1
 have kF := fun w => from_ref (m : Int) (by omega) (by omega) w
 rw [Int.toNat_natCast] at kF
 have kR := fun w => rrest_pos a 0 m ha (by decide) (Nat.lt_trans h1 (by decide)) h0 w
 rw [Nat.zero_mul, Nat.add_zero, hr] at kR
 rw [hr]
 obtain ⟨z, hz⟩ : ∃ z : Int, (m : Int) = z := ⟨_, rfl⟩
 rw [hz] at kF ⊢
 refine zka (args := [numV a, .int .i64 z]) 17 Try.func26 rfl rfl rfl ?_
 intro fa F
 have M := Mx.start w
 refine zSk fun _ hK1 => ?_
 refine zR ?_
 refine zl (zb rfl) rfl F rfl M 0 (t := 28) (c := numA a) (by unfold execOp; simp only [(F.get (t := 0) rfl)]; kernel_rfl) ?_
 intro g2 a2 w2 F2 M2
 clear F M
 refine zh (w' := w2) (zb rfl) rfl F2 rfl (.int .i64 0) (zu _ (.inr rfl) rfl) fun _ F3 => ?_
 clear F2
 refine hK1 _ _ ?_
 refine zSk fun _ hK4 => ?_
 refine region_fxL F3 [StK.eq (numV a), StK.eq (numV 0), StK.eq (.int .i64 z), StK.eq (numV m), StK.eq (.tuple #[numV r, .bool true]), StK.eq (.tuple #[numV r, .bool true]), StK.eq (numV r), StK.eq (.bool true), StK.new w2.heap.size (numA 0) 28 (by decide)] 9 7 7 1 5 #[numV r, .bool true] (.bool true) rfl (by kernel_rfl) rfl (by kernel_rfl) (fun _ _ h => h) rfl (fun _ _ => Iff.rfl) rfl ⟨?_, ?_, ?_, ?_, ?_, ?_, ?_, ?_, ?_, trivial⟩ ?_
 ·intro ua uw hb hd
  have e2 : ua.eval (.tmp 2) = .pointer (some ⟨g2, 0, none⟩) := (show ua.eval (.tmp 2) = _ from hd 2 (by decide)).trans (F3.get (t := 2) rfl)
  exact zm (F := (StK.eq (numV a)).F) (zb rfl) (numV a) (zt _ _ rfl e2 ((M2.step hb).blk (k := 0) rfl) (numA a) (zba rfl) Try.underlying28 rfl zc) rfl
 ·intro ua uw hb hd
  exact zm (F := (StK.eq (numV 0)).F) (zb rfl) (numV 0) (zec rfl) rfl
 ·intro ua uw hb hd
  have e1 : ua.eval (.tmp 1) = .int .i64 z := (show ua.eval (.tmp 1) = _ from hd 1 (by decide)).trans (F3.get (t := 1) rfl)
  exact zm (F := (StK.eq (.int .i64 z)).F) (zb rfl) (.int .i64 z) (zu _ (.inl rfl) e1) rfl
 ·intro ua uw hb hd
  have e10 : ua.eval (.tmp 10) = .int .i64 z := hd 10 (by decide)
  exact zy (F := (StK.eq (numV m)).F) (zb rfl) hb.size rfl #[.int .i64 z] (zwa e10) (zE Try.func9 rfl) (zia (kF uw))
 ·intro ua uw hb hd
  have e8 : ua.eval (.tmp 8) = numV a := hd 8 (by decide)
  have e9 : ua.eval (.tmp 9) = numV 0 := hd 9 (by decide)
  have e11 : ua.eval (.tmp 11) = numV m := hd 11 (by decide)
  exact zy (F := (StK.eq (.tuple #[numV r, .bool true])).F) (zb rfl) hb.size rfl #[numV a, numV 0, numV m] (z1b e8 e9 e11) (zE Try.func47 rfl) (zia (kR uw))
 ·intro ua uw hb hd
  have e12 : ua.eval (.tmp 12) = .tuple #[numV r, .bool true] := hd 12 (by decide)
  exact zm (F := (StK.eq (.tuple #[numV r, .bool true])).F) (zb rfl) (.tuple #[numV r, .bool true]) (zu _ (.inl rfl) e12) rfl
 ·intro ua uw hb hd
  have e7 : ua.eval (.tmp 7) = .tuple #[numV r, .bool true] := hd 7 (by decide)
  exact zm (F := (StK.eq (numV r)).F) (zb rfl) (numV r) (y_ext _ _ rfl e7 rfl) rfl
 ·intro ua uw hb hd
  have e7 : ua.eval (.tmp 7) = .tuple #[numV r, .bool true] := hd 7 (by decide)
  exact zm (F := (StK.eq (.bool true)).F) (zb rfl) (.bool true) (y_ext _ _ rfl e7 rfl) rfl
 ·intro ua uw hb hd
  exact hop_new (zb rfl) hb.size hb.size (by decide) (zz rfl)
 intro p5 a5 w5 b5 G5 y5
 obtain ⟨-, -, -, -, -, -, q6, q7, q8, -⟩ := y5
 obtain ⟨gn8x4, r8, hg8, hc8⟩ := q8 (by decide)
 replace r8 : p5 8 = .pointer (some ⟨gn8x4, 0, none⟩) := r8
 have r6 : p5 6 = numV r := q6 (by decide)
 have r7 : p5 7 = .bool true := q7 (by decide)
 simp only [List.take, layV, Nat.zero_add, Nat.reduceAdd, r6, r7, r8] at G5
 have M5 := M2.newb b5.below 1 hg8 hc8
 clear hg8 hc8 r8
 clear F3 M2 r6 q6 r7 q7
 refine st_ex M5 (k := 1) rfl _ _ _ rfl (G5.get (t := 5) rfl) (G5.get (t := 13) rfl) (numA r) _ rfl (zL rfl) (z9b _) (zr rfl) zc ?_
 intro w6 M6
 clear M5
 refine zh (w' := w6) (zb rfl) rfl G5 rfl (.bool true) (zu _ (.inr rfl) (G5.get (t := 14) rfl)) fun _ F7 => ?_
 clear G5
 refine hK4 _ _ ?_
 refine zSk fun _ hK8 => ?_
 refine zR ?_
 refine zh (w' := w6) (zb rfl) rfl F7 rfl (numV r) (zt _ _ rfl (F7.get (t := 5) rfl) (M6.blk (k := 1) rfl) (numA r) (zba rfl) Try.underlying28 rfl zc) fun _ F9 => ?_
 clear F7
 refine z9 (zb rfl) rfl F9 rfl rfl (zE Try.func13 rfl) #[numV r] (zwa (F9.get (t := 15) rfl)) (zea (rsmall_any r r1 w6)) ?_
 rintro _ w10 a10 ⟨rfl, b10⟩ F10
 have M10 := M6.step b10
 refine zh (w' := w10) (zb rfl) rfl F10 rfl (.int .i64 (r : Int)) (zu _ (.inr rfl) (F10.get (t := 16) rfl)) fun _ F11 => ?_
 clear F10
 refine hK8 _ _ ?_
 refine wp_ret ?_
 try simp only [Exit.then, Exit.inBlock]
 exact bodyPost_ret (res1 rfl (F11.get rfl)) F11.defers ⟨rfl, M10.below⟩
end Go.Proofs.Ytcfepoopkfhojaa
namespace Go.Proofs.Ytcfepoopkfhojaa
open Go.ChangeShapes Go.WideShapes Go.ChangeAt Go.RowKit
theorem rraise_any (k : Int) (P Q g : Nat) (h1 : 1 < P) (hP : P < 2147483648) (a e : Nat) (ha : a < 4294967296 ^ 8) (he : e < 4294967296 ^ 8) (w : World) :
  Calls Try.prog 8 #[.agg (zf k P Q g), numV a, numV e] w fun e' w' => e' = .returned (numV (a ^ e % P)) ∧ Below w.heap.size w w' := by
 obtain ⟨K, hT0, hT1, hT2⟩ := top_ends he
 obtain ⟨pz, hpz⟩ : ∃ z : Int, (P : Int) = z := ⟨_, rfl⟩
 have kS := fun w => rsmall_any P (by omega) w
 have kL := fun w => rleft_any a P ha (by omega) (by omega) w
 have kB := fun w => rbits_any e he w
 rw [hT0] at kB
 rw [hpz] at kS kL
 obtain ⟨y, hy⟩ : ∃ y, a % P = y := ⟨_, rfl⟩
 rw [hy] at kL
 have hyl : y < P := by rw [← hy]; exact Nat.mod_lt _ (by omega)
 have hp0 := pr_first (m := P) (a := a) h1 hT2
 have hlast := pr_last P a e
 have kF := fun (x : Nat) (hx : x < P) w => from_ref (x : Int) (by omega) (by omega) w
 have hXX : ∀ X Y : Nat, X < P → Y < P → -9223372036854775808 ≤ (X : Int) * Y ∧ (X : Int) * Y < 9223372036854775808 := fun X Y hX hY => by
  have h1 : X * Y ≤ 2147483648 * 2147483648 := Nat.mul_le_mul (by omega) (by omega)
  have h2 : (X : Int) * Y = ((X * Y : Nat) : Int) := by simp
  rw [h2]; omega
 refine zka (args := [.agg (zf k P Q g), numV a, numV e]) 46 Try.func8 rfl rfl rfl ?_
 intro fa F
 have M := Mx.start w
 refine zSk fun _ hK1 => ?_
 refine zR ?_
 refine zl (zb rfl) rfl F rfl M 0 (t := 30) (c := zf k P Q g) (by unfold execOp; simp only [(F.get (t := 0) rfl)]; kernel_rfl) ?_
 intro g2 a2 w2 F2 M2
 clear F M
 refine zl (zb rfl) rfl F2 rfl M2 1 (t := 28) (c := numA a) (by unfold execOp; simp only [(F2.get (t := 1) rfl)]; kernel_rfl) ?_
 intro g3 a3 w3 F3 M3
 clear F2 M2
 refine zl (zb rfl) rfl F3 rfl M3 2 (t := 28) (c := numA e) (by unfold execOp; simp only [(F3.get (t := 2) rfl)]; kernel_rfl) ?_
 intro g4 a4 w4 F4 M4
 clear F3 M3
 refine zl (zb rfl) rfl F4 rfl M4 3 (t := 28) (c := numA 0) (zz rfl) ?_
 intro g5 a5 w5 F5 M5
 clear F4 M4
 refine hK1 _ _ ?_
 refine zSk fun _ hK6 => ?_
 refine zR ?_
 refine zh (w' := w5) (zb rfl) rfl F5 rfl (.pointer (some ⟨g2, 1, none⟩)) (by unfold execOp; simp only [(F5.get (t := 3) rfl)]; kernel_rfl) fun _ F7 => ?_
 clear F5
 refine zh (w' := w5) (zb rfl) rfl F7 rfl (numV P) (zt _ _ rfl (F7.get (t := 11) rfl) (M5.blk (k := 0) rfl) (numA P) z7b Try.underlying28 rfl zc) fun _ F8 => ?_
 clear F7
 refine z9 (zb rfl) rfl F8 rfl rfl (zE Try.func13 rfl) #[numV P] (zwa (F8.get (t := 12) rfl)) (zea (kS w5)) ?_
 rintro _ w9 a9 ⟨rfl, b9⟩ F9
 have M9 := M5.step b9
 refine zh (w' := w9) (zb rfl) rfl F9 rfl (.int .i64 pz) (zu _ (.inr rfl) (F9.get (t := 13) rfl)) fun _ F10 => ?_
 clear F9
 refine hK6 _ _ ?_
 refine zSk fun _ hK11 => ?_
 refine zR ?_
 refine zh (w' := w9) (zb rfl) rfl F10 rfl (numV a) (zt _ _ rfl (F10.get (t := 4) rfl) (M9.blk (k := 1) rfl) (numA a) (zba rfl) Try.underlying28 rfl zc) fun _ F12 => ?_
 clear F10
 refine zh (w' := w9) (zb rfl) rfl F12 rfl (.int .i64 pz) (zu _ (.inl rfl) (F12.get (t := 7) rfl)) fun _ F13 => ?_
 clear F12
 refine z9 (zb rfl) rfl F13 rfl rfl (zE Try.func26 rfl) #[numV a, .int .i64 pz] (zdb (F13.get (t := 14) rfl) (F13.get (t := 15) rfl)) (zea (kL w9)) ?_
 rintro _ w14 a14 ⟨rfl, b14⟩ F14
 have M14 := M9.step b14
 refine zh (w' := w14) (zb rfl) rfl F14 rfl (.int .i64 1) (zu _ (.inr rfl) rfl) fun _ F15 => ?_
 clear F14
 refine zh (w' := w14) (zb rfl) rfl F15 rfl (.int .i64 (y : Int)) (zu _ (.inr rfl) (F15.get (t := 16) rfl)) fun _ F16 => ?_
 clear F15
 refine hK11 _ _ ?_
 refine zSk fun _ hK17 => ?_
 refine zSk fun _ hK18 => ?_
 refine zR ?_
 refine zh (w' := w14) (zb rfl) rfl F16 rfl (numV e) (zt _ _ rfl (F16.get (t := 5) rfl) (M14.blk (k := 2) rfl) (numA e) (zba rfl) Try.underlying28 rfl zc) fun _ F19 => ?_
 clear F16
 refine z9 (zb rfl) rfl F19 rfl rfl (zE Try.func27 rfl) #[numV e] (zwa (F19.get (t := 17) rfl)) (zea (kB w14)) ?_
 rintro _ w20 a20 ⟨rfl, b20⟩ F20
 have M20 := M14.step b20
 refine zh (w' := w20) (zb rfl) rfl F20 rfl (.int .i64 ((K : Int) - 1)) (y_subI _ _ _ _ rfl (F20.get (t := 18) rfl) rfl rfl (by omega)) fun _ F21 => ?_
 clear F20
 refine zh (w' := w20) (zb rfl) rfl F21 rfl (.int .i64 ((K : Int) - 1)) (zu _ (.inr rfl) (F21.get (t := 19) rfl)) fun _ F22 => ?_
 clear F21
 refine hK18 _ _ ?_
 refine wp_block ?_
 refine loop_fx (α := Nat) (fun x => [(0, .agg (zf k P Q g)), (1, numV a), (2, numV e), (3, .pointer (some ⟨g2, 0, none⟩)), (4, .pointer (some ⟨g3, 0, none⟩)), (5, .pointer (some ⟨g4, 0, none⟩)), (6, .pointer (some ⟨g5, 0, none⟩)), (11, .pointer (some ⟨g2, 1, none⟩)), (12, numV P), (13, .int .i64 pz), (7, .int .i64 pz), (14, numV a), (15, .int .i64 pz), (16, .int .i64 (y : Int)), (9, .int .i64 (y : Int)), (17, numV e), (18, .int .i64 (K : Int)), (19, .int .i64 ((K : Int) - 1)), (8, .int .i64 ((prN P a e x : Nat) : Int)), (10, .int .i64 ((x : Int) - 1))]) (fun x => [(0, blkR g2 30 (zf k P Q g)), (1, blkR g3 28 (numA a)), (2, blkR g4 28 (numA e)), (3, blkR g5 28 (numA 0))]) (fun k x => k = x ∧ (x ≤ 256)) _ K ⟨rfl, hT1⟩ (F22.sub ⟨rfl, rfl, rfl, rfl, rfl, rfl, rfl, rfl, rfl, rfl, rfl, rfl, rfl, rfl, rfl, rfl, rfl, rfl, (by rw [hp0]; rfl), rfl, trivial⟩) (M20.sub ⟨rfl, rfl, rfl, rfl, trivial⟩) ?_
 clear F22 M20
 rintro k23 jn a23 w23 K23 ⟨ek23, I23⟩ F23 M23 hK23
 replace F23 : Fx 46 a23 [(0, .agg (zf k P Q g)), (1, numV a), (2, numV e), (3, .pointer (some ⟨g2, 0, none⟩)), (4, .pointer (some ⟨g3, 0, none⟩)), (5, .pointer (some ⟨g4, 0, none⟩)), (6, .pointer (some ⟨g5, 0, none⟩)), (11, .pointer (some ⟨g2, 1, none⟩)), (12, numV P), (13, .int .i64 pz), (7, .int .i64 pz), (14, numV a), (15, .int .i64 pz), (16, .int .i64 (y : Int)), (9, .int .i64 (y : Int)), (17, numV e), (18, .int .i64 (K : Int)), (19, .int .i64 ((K : Int) - 1)), (8, .int .i64 ((prN P a e jn : Nat) : Int)), (10, .int .i64 ((jn : Int) - 1))] := F23
 replace M23 : Mx _ _ w23 [(0, blkR g2 30 (zf k P Q g)), (1, blkR g3 28 (numA a)), (2, blkR g4 28 (numA e)), (3, blkR g5 28 (numA 0))] := M23
 replace I23 : jn ≤ 256 := I23
 replace ek23 : k23 = jn := ek23
 rcases jn with _ | j
 ·obtain ⟨X0, hX⟩ : ∃ X, prN P a e 0 = X := ⟨_, rfl⟩
  rw [hX] at F23
  have hX0 : X0 < P := by rw [← hX]; exact pr_lt (by omega) _ _ _
  have hres : X0 = a ^ e % P := by rw [← hX]; exact hlast
  rw [show (((0 : Nat) : Int) - 1) = -1 from rfl] at F23
  refine zSk fun _ hK24 => ?_
  refine zSk fun _ hK25 => ?_
  refine zR ?_
  refine zh (w' := w23) (zb rfl) rfl F23 rfl (.int .i64 (-1)) (zu _ (.inl rfl) (F23.get (t := 10) rfl)) fun _ F26 => ?_
  clear F23
  refine zh (w' := w23) (zb rfl) rfl F26 rfl (.bool false) (y_geq _ _ _ _ rfl (F26.get (t := 20) rfl) rfl (decide_eq_false (by decide))) fun _ F27 => ?_
  clear F26
  refine hK25 _ _ ?_
  refine wp_cond_false (F27.get (t := 21) rfl) ?_
  refine wp_exit ?_
  simp only [Exit.then, Exit.inBlock, ↓reduceIte, Nat.reduceEqDiff]
  refine hK17 _ _ ?_
  refine zSk fun _ hK28 => ?_
  refine zR ?_
  refine zh (w' := w23) (zb rfl) rfl F27 rfl (.int .i64 (X0 : Int)) (zu _ (.inl rfl) (F27.get (t := 8) rfl)) fun _ F29 => ?_
  clear F27
  refine z9 (zb rfl) rfl F29 rfl rfl (zE Try.func9 rfl) #[.int .i64 (X0 : Int)] (zwa (F29.get (t := 44) rfl)) (zea (kF X0 hX0 w23)) ?_
  rintro _ w30 a30 ⟨rfl, b30⟩ F30
  have M30 := M23.step b30
  refine zda (zb rfl) rfl F30 M30 (k := 3) rfl _ _ _ rfl (F30.get (t := 6) rfl) (F30.get (t := 45) rfl) (numA X0) _ rfl (zL rfl) (z9b _) (zr rfl) zc ?_
  intro w31 M31
  clear M30
  refine hK28 _ _ ?_
  refine wp_ret ?_
  try simp only [Exit.then, Exit.inBlock]
  exact bodyPost_ret (results_cell_row rfl _ _ _ _ _ (0, 0) _ (F30.get rfl) (M31.blk (k := 3) rfl) Try.underlying28 rfl zc) F30.defers ⟨by rw [hres], M31.below⟩
 ·obtain ⟨Y, e1, hway⟩ := pr_step P a e j
  have hXm := pr_lt (show 0 < P by omega) a e (j + 1)
  obtain ⟨X, hX⟩ : ∃ X, prN P a e (j + 1) = X := ⟨_, rfl⟩
  rw [hX] at F23 e1 hXm
  have hYm : Y < P := by rw [← e1]; exact Nat.mod_lt _ (by omega)
  rw [show ((j + 1 : Nat) : Int) - 1 = (j : Int) by omega] at F23
  have eY : ((X : Int) * X) % pz = (Y : Int) := by rw [← hpz, ← e1]; simp
  have hbit := bit_dig e j
  have hjl : j < 256 := by omega
  rcases hway with ⟨hb, hY2⟩ | ⟨hb, hY2⟩
  ·rw [hb] at hbit
   refine zSk fun _ hK32 => ?_
   refine zSk fun _ hK33 => ?_
   refine zR ?_
   refine zh (w' := w23) (zb rfl) rfl F23 rfl (.int .i64 (j : Int)) (zu _ (.inl rfl) (F23.get (t := 10) rfl)) fun _ F34 => ?_
   clear F23
   refine zh (w' := w23) (zb rfl) rfl F34 rfl (.bool true) (y_geq _ _ _ _ rfl (F34.get (t := 20) rfl) rfl (decide_eq_true (Int.natCast_nonneg j))) fun _ F35 => ?_
   clear F34
   refine hK33 _ _ ?_
   refine wp_cond_true (F35.get (t := 21) rfl) ?_
   refine wp_skip ?_
   refine hK32 _ _ ?_
   refine zSk fun _ hK36 => ?_
   refine wp_block ?_
   refine zSk fun _ hK37 => ?_
   refine zR ?_
   refine zh (w' := w23) (zb rfl) rfl F35 rfl (.int .i64 (X : Int)) (zu _ (.inl rfl) (F35.get (t := 8) rfl)) fun _ F38 => ?_
   clear F35
   refine zh (w' := w23) (zb rfl) rfl F38 rfl (.int .i64 (X : Int)) (zu _ (.inl rfl) (F38.get (t := 8) rfl)) fun _ F39 => ?_
   clear F38
   refine zh (w' := w23) (zb rfl) rfl F39 rfl (.int .i64 ((X : Int) * X)) (y_mulI _ _ _ _ rfl (F39.get (t := 24) rfl) (F39.get (t := 25) rfl) rfl (hXX X X hXm hXm)) fun _ F40 => ?_
   clear F39
   refine zh (w' := w23) (zb rfl) rfl F40 rfl (.int .i64 pz) (zu _ (.inl rfl) (F40.get (t := 7) rfl)) fun _ F41 => ?_
   clear F40
   refine zh (w' := w23) (zb rfl) rfl F41 rfl (.int .i64 (Y : Int)) (y_remI _ _ _ _ rfl (F41.get (t := 26) rfl) (F41.get (t := 27) rfl) (Int.mul_nonneg (Int.natCast_nonneg X) (Int.natCast_nonneg X)) (by omega) eY) fun _ F42 => ?_
   clear F41
   refine zh (w' := w23) (zb rfl) rfl F42 rfl (.int .i64 (Y : Int)) (zu _ (.inr rfl) (F42.get (t := 28) rfl)) fun _ F43 => ?_
   clear F42
   refine hK37 _ _ ?_
   refine zSk fun _ hK44 => ?_
   refine zR ?_
   refine zh (w' := w23) (zb rfl) rfl F43 rfl (.int .i64 (j : Int)) (zu _ (.inl rfl) (F43.get (t := 10) rfl)) fun _ F45 => ?_
   clear F43
   refine zh (w' := w23) (zb rfl) rfl F45 rfl (.int .i64 ((j / 32 : Nat) : Int)) (y_quoI _ _ _ _ rfl (F45.get (t := 29) rfl) rfl (by omega) (by omega) (by omega)) fun _ F46 => ?_
   clear F45
   refine zh (w' := w23) (zb rfl) rfl F46 rfl (.pointer (some ⟨g4, (j / 32), none⟩)) (y_ixA (N := 8) _ _ 28 (by kernel_rfl) (by kernel_rfl) (by kernel_rfl) rfl (F46.get (t := 5) rfl) (F46.get (t := 30) rfl) rfl (by omega) (Nat.zero_add _)) fun _ F47 => ?_
   clear F46
   refine zh (w' := w23) (zb rfl) rfl F47 rfl (.int .u32 (digI e (j / 32))) (y_ld1 _ _ rfl (F47.get (t := 31) rfl) (M23.blk (k := 2) rfl) (numA_get e (k := j / 32) (by omega)) Try.underlying26 rfl) fun _ F48 => ?_
   clear F47
   refine zh (w' := w23) (zb rfl) rfl F48 rfl (.int .i64 (j : Int)) (zu _ (.inl rfl) (F48.get (t := 10) rfl)) fun _ F49 => ?_
   clear F48
   refine zh (w' := w23) (zb rfl) rfl F49 rfl (.int .i64 ((j % 32 : Nat) : Int)) (y_remI _ _ _ _ rfl (F49.get (t := 33) rfl) rfl (by omega) (by omega) (by omega)) fun _ F50 => ?_
   clear F49
   refine zh (w' := w23) (zb rfl) rfl F50 rfl (.int .u64 ((j % 32 : Nat) : Int)) (y_cvI _ _ _ rfl (F50.get (t := 34) rfl) Try.underlying3 Try.underlying66 (by rw [IntKind.wrap_u64]; omega)) fun _ F51 => ?_
   clear F50
   refine zh (w' := w23) (zb rfl) rfl F51 rfl (.int .u32 (digI e (j / 32) / 2 ^ (j % 32))) (y_shrI _ _ _ _ rfl (F51.get (t := 32) rfl) (F51.get (t := 35) rfl) (by show (0 : Int) ≤ ((j % 32 : Nat) : Int) ∧ ((j % 32 : Nat) : Int) ≤ 32; omega) rfl) fun _ F52 => ?_
   clear F51
   refine zh (w' := w23) (zb rfl) rfl F52 rfl (.int .u32 0) (y_andU _ _ _ _ rfl (F52.get (t := 36) rfl) rfl hbit) fun _ F53 => ?_
   clear F52
   refine zh (w' := w23) (zb rfl) rfl F53 rfl (.bool false) (y_gtr _ _ _ _ rfl (F53.get (t := 37) rfl) rfl (decide_eq_false (by decide))) fun _ F54 => ?_
   clear F53
   refine hK44 _ _ ?_
   refine wp_cond_false (F54.get (t := 38) rfl) ?_
   refine wp_skip ?_
   refine hK36 _ _ ?_
   refine zR ?_
   refine zh (w' := w23) (zb rfl) rfl F54 rfl (.int .i64 (j : Int)) (zu _ (.inl rfl) (F54.get (t := 10) rfl)) fun _ F55 => ?_
   clear F54
   refine zh (w' := w23) (zb rfl) rfl F55 rfl (.int .i64 ((j : Int) - 1)) (y_subI _ _ _ _ rfl (F55.get (t := 22) rfl) rfl rfl (by omega)) fun _ F56 => ?_
   clear F55
   refine zh (w' := w23) (zb rfl) rfl F56 rfl (.int .i64 ((j : Int) - 1)) (zu _ (.inr rfl) (F56.get (t := 23) rfl)) fun _ F57 => ?_
   clear F56
   rw [hY2] at F57
   subst ek23
   exact hK23 _ j _ _ (Nat.lt_succ_self j) ⟨rfl, by omega⟩ (F57.sub ⟨rfl, rfl, rfl, rfl, rfl, rfl, rfl, rfl, rfl, rfl, rfl, rfl, rfl, rfl, rfl, rfl, rfl, rfl, rfl, rfl, trivial⟩) (M23.sub ⟨rfl, rfl, rfl, rfl, trivial⟩)
  ·rw [hb] at hbit
   rw [hy] at hY2
   have eZ : ((Y : Int) * y) % pz = ((prN P a e j : Nat) : Int) := by rw [← hpz, ← hY2]; simp
   refine zSk fun _ hK58 => ?_
   refine zSk fun _ hK59 => ?_
   refine zR ?_
   refine zh (w' := w23) (zb rfl) rfl F23 rfl (.int .i64 (j : Int)) (zu _ (.inl rfl) (F23.get (t := 10) rfl)) fun _ F60 => ?_
   clear F23
   refine zh (w' := w23) (zb rfl) rfl F60 rfl (.bool true) (y_geq _ _ _ _ rfl (F60.get (t := 20) rfl) rfl (decide_eq_true (Int.natCast_nonneg j))) fun _ F61 => ?_
   clear F60
   refine hK59 _ _ ?_
   refine wp_cond_true (F61.get (t := 21) rfl) ?_
   refine wp_skip ?_
   refine hK58 _ _ ?_
   refine zSk fun _ hK62 => ?_
   refine wp_block ?_
   refine zSk fun _ hK63 => ?_
   refine zR ?_
   refine zh (w' := w23) (zb rfl) rfl F61 rfl (.int .i64 (X : Int)) (zu _ (.inl rfl) (F61.get (t := 8) rfl)) fun _ F64 => ?_
   clear F61
   refine zh (w' := w23) (zb rfl) rfl F64 rfl (.int .i64 (X : Int)) (zu _ (.inl rfl) (F64.get (t := 8) rfl)) fun _ F65 => ?_
   clear F64
   refine zh (w' := w23) (zb rfl) rfl F65 rfl (.int .i64 ((X : Int) * X)) (y_mulI _ _ _ _ rfl (F65.get (t := 24) rfl) (F65.get (t := 25) rfl) rfl (hXX X X hXm hXm)) fun _ F66 => ?_
   clear F65
   refine zh (w' := w23) (zb rfl) rfl F66 rfl (.int .i64 pz) (zu _ (.inl rfl) (F66.get (t := 7) rfl)) fun _ F67 => ?_
   clear F66
   refine zh (w' := w23) (zb rfl) rfl F67 rfl (.int .i64 (Y : Int)) (y_remI _ _ _ _ rfl (F67.get (t := 26) rfl) (F67.get (t := 27) rfl) (Int.mul_nonneg (Int.natCast_nonneg X) (Int.natCast_nonneg X)) (by omega) eY) fun _ F68 => ?_
   clear F67
   refine zh (w' := w23) (zb rfl) rfl F68 rfl (.int .i64 (Y : Int)) (zu _ (.inr rfl) (F68.get (t := 28) rfl)) fun _ F69 => ?_
   clear F68
   refine hK63 _ _ ?_
   refine zSk fun _ hK70 => ?_
   refine zR ?_
   refine zh (w' := w23) (zb rfl) rfl F69 rfl (.int .i64 (j : Int)) (zu _ (.inl rfl) (F69.get (t := 10) rfl)) fun _ F71 => ?_
   clear F69
   refine zh (w' := w23) (zb rfl) rfl F71 rfl (.int .i64 ((j / 32 : Nat) : Int)) (y_quoI _ _ _ _ rfl (F71.get (t := 29) rfl) rfl (by omega) (by omega) (by omega)) fun _ F72 => ?_
   clear F71
   refine zh (w' := w23) (zb rfl) rfl F72 rfl (.pointer (some ⟨g4, (j / 32), none⟩)) (y_ixA (N := 8) _ _ 28 (by kernel_rfl) (by kernel_rfl) (by kernel_rfl) rfl (F72.get (t := 5) rfl) (F72.get (t := 30) rfl) rfl (by omega) (Nat.zero_add _)) fun _ F73 => ?_
   clear F72
   refine zh (w' := w23) (zb rfl) rfl F73 rfl (.int .u32 (digI e (j / 32))) (y_ld1 _ _ rfl (F73.get (t := 31) rfl) (M23.blk (k := 2) rfl) (numA_get e (k := j / 32) (by omega)) Try.underlying26 rfl) fun _ F74 => ?_
   clear F73
   refine zh (w' := w23) (zb rfl) rfl F74 rfl (.int .i64 (j : Int)) (zu _ (.inl rfl) (F74.get (t := 10) rfl)) fun _ F75 => ?_
   clear F74
   refine zh (w' := w23) (zb rfl) rfl F75 rfl (.int .i64 ((j % 32 : Nat) : Int)) (y_remI _ _ _ _ rfl (F75.get (t := 33) rfl) rfl (by omega) (by omega) (by omega)) fun _ F76 => ?_
   clear F75
   refine zh (w' := w23) (zb rfl) rfl F76 rfl (.int .u64 ((j % 32 : Nat) : Int)) (y_cvI _ _ _ rfl (F76.get (t := 34) rfl) Try.underlying3 Try.underlying66 (by rw [IntKind.wrap_u64]; omega)) fun _ F77 => ?_
   clear F76
   refine zh (w' := w23) (zb rfl) rfl F77 rfl (.int .u32 (digI e (j / 32) / 2 ^ (j % 32))) (y_shrI _ _ _ _ rfl (F77.get (t := 32) rfl) (F77.get (t := 35) rfl) (by show (0 : Int) ≤ ((j % 32 : Nat) : Int) ∧ ((j % 32 : Nat) : Int) ≤ 32; omega) rfl) fun _ F78 => ?_
   clear F77
   refine zh (w' := w23) (zb rfl) rfl F78 rfl (.int .u32 1) (y_andU _ _ _ _ rfl (F78.get (t := 36) rfl) rfl hbit) fun _ F79 => ?_
   clear F78
   refine zh (w' := w23) (zb rfl) rfl F79 rfl (.bool true) (y_gtr _ _ _ _ rfl (F79.get (t := 37) rfl) rfl (decide_eq_true (by decide))) fun _ F80 => ?_
   clear F79
   refine hK70 _ _ ?_
   refine wp_cond_true (F80.get (t := 38) rfl) ?_
   refine zR ?_
   refine zh (w' := w23) (zb rfl) rfl F80 rfl (.int .i64 (Y : Int)) (zu _ (.inl rfl) (F80.get (t := 8) rfl)) fun _ F81 => ?_
   clear F80
   refine zh (w' := w23) (zb rfl) rfl F81 rfl (.int .i64 (y : Int)) (zu _ (.inl rfl) (F81.get (t := 9) rfl)) fun _ F82 => ?_
   clear F81
   refine zh (w' := w23) (zb rfl) rfl F82 rfl (.int .i64 ((Y : Int) * y)) (y_mulI _ _ _ _ rfl (F82.get (t := 39) rfl) (F82.get (t := 40) rfl) rfl (hXX Y y hYm hyl)) fun _ F83 => ?_
   clear F82
   refine zh (w' := w23) (zb rfl) rfl F83 rfl (.int .i64 pz) (zu _ (.inl rfl) (F83.get (t := 7) rfl)) fun _ F84 => ?_
   clear F83
   refine zh (w' := w23) (zb rfl) rfl F84 rfl (.int .i64 ((prN P a e j : Nat) : Int)) (y_remI _ _ _ _ rfl (F84.get (t := 41) rfl) (F84.get (t := 42) rfl) (Int.mul_nonneg (Int.natCast_nonneg Y) (Int.natCast_nonneg y)) (by omega) eZ) fun _ F85 => ?_
   clear F84
   refine zh (w' := w23) (zb rfl) rfl F85 rfl (.int .i64 ((prN P a e j : Nat) : Int)) (zu _ (.inr rfl) (F85.get (t := 43) rfl)) fun _ F86 => ?_
   clear F85
   refine hK62 _ _ ?_
   refine zR ?_
   refine zh (w' := w23) (zb rfl) rfl F86 rfl (.int .i64 (j : Int)) (zu _ (.inl rfl) (F86.get (t := 10) rfl)) fun _ F87 => ?_
   clear F86
   refine zh (w' := w23) (zb rfl) rfl F87 rfl (.int .i64 ((j : Int) - 1)) (y_subI _ _ _ _ rfl (F87.get (t := 22) rfl) rfl rfl (by omega)) fun _ F88 => ?_
   clear F87
   refine zh (w' := w23) (zb rfl) rfl F88 rfl (.int .i64 ((j : Int) - 1)) (zu _ (.inr rfl) (F88.get (t := 23) rfl)) fun _ F89 => ?_
   clear F88
   subst ek23
   exact hK23 _ j _ _ (Nat.lt_succ_self j) ⟨rfl, by omega⟩ (F89.sub ⟨rfl, rfl, rfl, rfl, rfl, rfl, rfl, rfl, rfl, rfl, rfl, rfl, rfl, rfl, rfl, rfl, rfl, rfl, rfl, rfl, trivial⟩) (M23.sub ⟨rfl, rfl, rfl, rfl, trivial⟩)
end Go.Proofs.Ytcfepoopkfhojaa
namespace Go.Proofs.Ytcfepoopkfhojaa
open Go.ChangeShapes Go.WideShapes Go.ChangeAt Go.RowKit
theorem rhas_pack {k : Int} {a P Q g : Nat} (h1 : 1 < P) (hP : P < 2147483648) (ha : a < 4294967296 ^ 8) (hQ : Q < 4294967296 ^ 8) : ∃ (V : Nat) (d e : Int), z2b 17 #[numV a, numV 1] (.int .i64 d) ∧ z2b 17 #[numV a, numV P] (.int .i64 e) ∧ z2b 8 #[.agg (zf k P Q g), numV a, numV Q] (numV V) ∧
    ((¬ 0 < d ∧ hasB a P Q = false) ∨ (0 < d ∧ ¬ e < 0 ∧ hasB a P Q = false) ∨ (0 < d ∧ e < 0 ∧ V = 1 ∧ hasB a P Q = true) ∨ (0 < d ∧ e < 0 ∧ (∀ w, (Op.equalIn 10000 28 (.agg (numA V)) (.agg (numA 1))).run Try.prog w = .ok false w) ∧ hasB a P Q = false)) := by
  have hp : P < 4294967296 ^ 8 := Nat.lt_trans hP (by decide)
  refine ⟨a ^ Q % P, cmpI a 1, cmpI a P, rcmp_any a 1 ha (by decide), rcmp_any a P ha hp, rraise_any k P Q g h1 hP a Q ha hQ, ?_⟩
  unfold hasB cmpI
  by_cases c1 : 1 < a
  · by_cases c2 : a < P
    · by_cases c3 : a ^ Q % P = 1
      · exact .inr (.inr (.inl ⟨by rw [if_neg (by omega), if_pos c1]; decide, by rw [if_pos c2]; decide, c3, decide_eq_true ⟨c1, c2, c3⟩⟩))
      · exact .inr (.inr (.inr ⟨by rw [if_neg (by omega), if_pos c1]; decide, by rw [if_pos c2]; decide, eqn_diff (Nat.lt_trans (Nat.mod_lt _ (by omega)) hp) (by decide) c3, decide_eq_false (fun h => c3 h.2.2)⟩))
    · exact .inr (.inl ⟨by rw [if_neg (by omega), if_pos c1]; decide, by rw [if_neg c2]; split <;> decide, decide_eq_false (fun h => c2 h.2.1)⟩)
  · exact .inl ⟨by (rw [if_neg c1]; split <;> decide), decide_eq_false (fun h => c1 h.1)⟩
theorem rhas_any (k : Int) (P Q g : Nat) (h1 : 1 < P) (hP : P < 2147483648) (a : Nat) (ha : a < 4294967296 ^ 8) (hQ : Q < 4294967296 ^ 8) (w : World) :
  Calls Try.prog 15 #[.agg (zf k P Q g), numV a] w fun e' w' => e' = .returned (.bool (hasB a P Q)) ∧ Below w.heap.size w w' := by
 obtain ⟨V, d, e, k1, k2, k3, hw⟩ := rhas_pack (k := k) (g := g) h1 hP ha hQ
 have kO := fun w => from_ref 1 (by decide) (by decide) w
 clear h1 hP ha hQ
 rcases hw with ⟨c1, c4⟩ | ⟨c1, c2, c4⟩ | ⟨c1, c2, rfl, c4⟩ | ⟨c1, c2, c3, c4⟩
 ·rw [c4]
  clear c4
  refine zka (args := [.agg (zf k P Q g), numV a]) 25 Try.func15 rfl rfl rfl ?_
  intro fa F
  have M := Mx.start w
  refine zSk fun _ hK1 => ?_
  refine zR ?_
  refine zl (zb rfl) rfl F rfl M 0 (t := 30) (c := zf k P Q g) (by unfold execOp; simp only [(F.get (t := 0) rfl)]; kernel_rfl) ?_
  intro g2 a2 w2 F2 M2
  clear F M
  refine zl (zb rfl) rfl F2 rfl M2 1 (t := 28) (c := numA a) (by unfold execOp; simp only [(F2.get (t := 1) rfl)]; kernel_rfl) ?_
  intro g3 a3 w3 F3 M3
  clear F2 M2
  refine zh (w' := w3) (zb rfl) rfl F3 rfl (.bool false) (zu _ (.inr rfl) rfl) fun _ F4 => ?_
  clear F3
  refine hK1 _ _ ?_
  refine zSk fun _ hK5 => ?_
  refine zgb F4 [StK.eq (numV a), StK.eq (numV 1), StK.eq (.int .i64 d), StK.eq (.bool false), StK.eq (.bool false), StK.eq undef, StK.eq undef, StK.eq undef, StK.eq undef, StK.eq undef, StK.eq (.bool false), StK.eq (.bool false), StK.eq undef, StK.eq undef, StK.eq undef, StK.eq undef, StK.eq undef, StK.eq undef, StK.eq undef, StK.eq (.bool false), StK.eq (.bool false)] 21 rfl (by kernel_rfl) ⟨?_, ?_, ?_, ?_, ?_, ?_, ?_, ?_, ?_, ?_, ?_, ?_, ?_, ?_, ?_, ?_, ?_, ?_, ?_, ?_, ?_, trivial⟩ ?_
  ·intro ua uw hb hd
   have e3 : ua.eval (.tmp 3) = .pointer (some ⟨g3, 0, none⟩) := (show ua.eval (.tmp 3) = _ from hd 3 (by decide)).trans (F4.get (t := 3) rfl)
   exact zm (F := (StK.eq (numV a)).F) (zb rfl) (numV a) (zt _ _ rfl e3 ((M3.step hb).blk (k := 1) rfl) (numA a) (zba rfl) Try.underlying28 rfl zc) rfl
  ·intro ua uw hb hd
   exact zy (F := (StK.eq (numV 1)).F) (zb rfl) hb.size rfl #[.int .i64 1] (zwa rfl) (zE Try.func9 rfl) (zia (kO uw))
  ·intro ua uw hb hd
   have e5 : ua.eval (.tmp 5) = numV a := hd 5 (by decide)
   have e6 : ua.eval (.tmp 6) = numV 1 := hd 6 (by decide)
   exact zy (F := (StK.eq (.int .i64 d)).F) (zb rfl) hb.size rfl #[numV a, numV 1] (zdb e5 e6) (zE Try.func17 rfl) (zia (k1 uw))
  ·intro ua uw hb hd
   have e7 : ua.eval (.tmp 7) = .int .i64 d := hd 7 (by decide)
   exact zm (F := (StK.eq (.bool false)).F) (zb rfl) (.bool false) (y_gtr _ _ _ _ rfl e7 rfl (decide_eq_false c1)) rfl
  ·intro ua uw hb hd
   have e8 : ua.eval (.tmp 8) = .bool false := hd 8 (by decide)
   exact zm (F := (StK.eq (.bool false)).F) (zb rfl) (.bool false) (zu _ (.inl rfl) e8) rfl
  ·intro ua uw hb hd
   have eg : ua.eval (.tmp 9) = .bool false := hd 9 (by decide)
   exact z1a (F := (StK.eq (undef)).F) rfl rfl rfl eg rfl
  ·intro ua uw hb hd
   have eg : ua.eval (.tmp 9) = .bool false := hd 9 (by decide)
   exact z1a (F := (StK.eq (undef)).F) rfl rfl rfl eg rfl
  ·intro ua uw hb hd
   have eg : ua.eval (.tmp 9) = .bool false := hd 9 (by decide)
   exact z1a (F := (StK.eq (undef)).F) rfl rfl rfl eg rfl
  ·intro ua uw hb hd
   have eg : ua.eval (.tmp 9) = .bool false := hd 9 (by decide)
   exact z1a (F := (StK.eq (undef)).F) rfl rfl rfl eg rfl
  ·intro ua uw hb hd
   have eg : ua.eval (.tmp 9) = .bool false := hd 9 (by decide)
   exact z1a (F := (StK.eq (undef)).F) rfl rfl rfl eg rfl
  ·intro ua uw hb hd
   have e9 : ua.eval (.tmp 9) = .bool false := hd 9 (by decide)
   have e14 : ua.eval (.tmp 14) = undef := hd 14 (by decide)
   exact zm (F := (StK.eq (.bool false)).F) (zb rfl) (.bool false) (run_pick_f rfl e9 rfl) rfl
  ·intro ua uw hb hd
   have e15 : ua.eval (.tmp 15) = .bool false := hd 15 (by decide)
   exact zm (F := (StK.eq (.bool false)).F) (zb rfl) (.bool false) (zu _ (.inl rfl) e15) rfl
  ·intro ua uw hb hd
   have eg : ua.eval (.tmp 16) = .bool false := hd 16 (by decide)
   exact z1a (F := (StK.eq (undef)).F) rfl rfl rfl eg rfl
  ·intro ua uw hb hd
   have eg : ua.eval (.tmp 16) = .bool false := hd 16 (by decide)
   exact z1a (F := (StK.eq (undef)).F) rfl rfl rfl eg rfl
  ·intro ua uw hb hd
   have eg : ua.eval (.tmp 16) = .bool false := hd 16 (by decide)
   exact z1a (F := (StK.eq (undef)).F) rfl rfl rfl eg rfl
  ·intro ua uw hb hd
   have eg : ua.eval (.tmp 16) = .bool false := hd 16 (by decide)
   exact z1a (F := (StK.eq (undef)).F) rfl rfl rfl eg rfl
  ·intro ua uw hb hd
   have eg : ua.eval (.tmp 16) = .bool false := hd 16 (by decide)
   exact z1a (F := (StK.eq (undef)).F) rfl rfl rfl eg rfl
  ·intro ua uw hb hd
   have eg : ua.eval (.tmp 16) = .bool false := hd 16 (by decide)
   exact z1a (F := (StK.eq (undef)).F) rfl rfl rfl eg rfl
  ·intro ua uw hb hd
   have eg : ua.eval (.tmp 16) = .bool false := hd 16 (by decide)
   exact z1a (F := (StK.eq (undef)).F) rfl rfl rfl eg rfl
  ·intro ua uw hb hd
   have e16 : ua.eval (.tmp 16) = .bool false := hd 16 (by decide)
   have e23 : ua.eval (.tmp 23) = undef := hd 23 (by decide)
   exact zm (F := (StK.eq (.bool false)).F) (zb rfl) (.bool false) (run_pick_f rfl e16 rfl) rfl
  ·intro ua uw hb hd
   have e24 : ua.eval (.tmp 24) = .bool false := hd 24 (by decide)
   exact zm (F := (StK.eq (.bool false)).F) (zb rfl) (.bool false) (zu _ (.inr rfl) e24) rfl
  intro p6 a6 w6 b6 G6 y6
  obtain ⟨-, -, -, -, -, -, -, -, -, -, -, -, -, -, -, -, -, -, -, -, q20, -⟩ := y6
  have r20 : p6 20 = .bool false := q20 (by decide)
  simp only [List.take, layV, Nat.zero_add, Nat.reduceAdd, r20] at G6
  have M6 := M3.kc b6
  clear F4 M3 r20 q20
  refine hK5 _ _ ?_
  refine wp_ret ?_
  try simp only [Exit.then, Exit.inBlock]
  exact bodyPost_ret (res1 rfl (G6.get (t := 4) rfl)) G6.defers ⟨rfl, M6.below⟩
 ·rw [c4]
  clear c4
  refine zka (args := [.agg (zf k P Q g), numV a]) 25 Try.func15 rfl rfl rfl ?_
  intro fa F
  have M := Mx.start w
  refine zSk fun _ hK1 => ?_
  refine zR ?_
  refine zl (zb rfl) rfl F rfl M 0 (t := 30) (c := zf k P Q g) (by unfold execOp; simp only [(F.get (t := 0) rfl)]; kernel_rfl) ?_
  intro g2 a2 w2 F2 M2
  clear F M
  refine zl (zb rfl) rfl F2 rfl M2 1 (t := 28) (c := numA a) (by unfold execOp; simp only [(F2.get (t := 1) rfl)]; kernel_rfl) ?_
  intro g3 a3 w3 F3 M3
  clear F2 M2
  refine zh (w' := w3) (zb rfl) rfl F3 rfl (.bool false) (zu _ (.inr rfl) rfl) fun _ F4 => ?_
  clear F3
  refine hK1 _ _ ?_
  refine zSk fun _ hK5 => ?_
  refine zgb F4 [StK.eq (numV a), StK.eq (numV 1), StK.eq (.int .i64 d), StK.eq (.bool true), StK.eq (.bool true), StK.eq (numV a), StK.eq (.pointer (some ⟨g2, 1, none⟩)), StK.eq (numV P), StK.eq (.int .i64 e), StK.eq (.bool false), StK.eq (.bool false), StK.eq (.bool false), StK.eq undef, StK.eq undef, StK.eq undef, StK.eq undef, StK.eq undef, StK.eq undef, StK.eq undef, StK.eq (.bool false), StK.eq (.bool false)] 21 rfl (by kernel_rfl) ⟨?_, ?_, ?_, ?_, ?_, ?_, ?_, ?_, ?_, ?_, ?_, ?_, ?_, ?_, ?_, ?_, ?_, ?_, ?_, ?_, ?_, trivial⟩ ?_
  ·intro ua uw hb hd
   have e3 : ua.eval (.tmp 3) = .pointer (some ⟨g3, 0, none⟩) := (show ua.eval (.tmp 3) = _ from hd 3 (by decide)).trans (F4.get (t := 3) rfl)
   exact zm (F := (StK.eq (numV a)).F) (zb rfl) (numV a) (zt _ _ rfl e3 ((M3.step hb).blk (k := 1) rfl) (numA a) (zba rfl) Try.underlying28 rfl zc) rfl
  ·intro ua uw hb hd
   exact zy (F := (StK.eq (numV 1)).F) (zb rfl) hb.size rfl #[.int .i64 1] (zwa rfl) (zE Try.func9 rfl) (zia (kO uw))
  ·intro ua uw hb hd
   have e5 : ua.eval (.tmp 5) = numV a := hd 5 (by decide)
   have e6 : ua.eval (.tmp 6) = numV 1 := hd 6 (by decide)
   exact zy (F := (StK.eq (.int .i64 d)).F) (zb rfl) hb.size rfl #[numV a, numV 1] (zdb e5 e6) (zE Try.func17 rfl) (zia (k1 uw))
  ·intro ua uw hb hd
   have e7 : ua.eval (.tmp 7) = .int .i64 d := hd 7 (by decide)
   exact zm (F := (StK.eq (.bool true)).F) (zb rfl) (.bool true) (y_gtr _ _ _ _ rfl e7 rfl (decide_eq_true c1)) rfl
  ·intro ua uw hb hd
   have e8 : ua.eval (.tmp 8) = .bool true := hd 8 (by decide)
   exact zm (F := (StK.eq (.bool true)).F) (zb rfl) (.bool true) (zu _ (.inl rfl) e8) rfl
  ·intro ua uw hb hd
   have eg : ua.eval (.tmp 9) = .bool true := hd 9 (by decide)
   have e3 : ua.eval (.tmp 3) = .pointer (some ⟨g3, 0, none⟩) := (show ua.eval (.tmp 3) = _ from hd 3 (by decide)).trans (F4.get (t := 3) rfl)
   exact zm (F := (StK.eq (numV a)).F) (zo rfl rfl rfl eg) (numV a) (zt _ _ rfl e3 ((M3.step hb).blk (k := 1) rfl) (numA a) (zba rfl) Try.underlying28 rfl zc) rfl
  ·intro ua uw hb hd
   have eg : ua.eval (.tmp 9) = .bool true := hd 9 (by decide)
   have e2 : ua.eval (.tmp 2) = .pointer (some ⟨g2, 0, none⟩) := (show ua.eval (.tmp 2) = _ from hd 2 (by decide)).trans (F4.get (t := 2) rfl)
   exact zm (F := (StK.eq (.pointer (some ⟨g2, 1, none⟩))).F) (zo rfl rfl rfl eg) (.pointer (some ⟨g2, 1, none⟩)) (by unfold execOp; simp only [e2]; kernel_rfl) rfl
  ·intro ua uw hb hd
   have eg : ua.eval (.tmp 9) = .bool true := hd 9 (by decide)
   have e11 : ua.eval (.tmp 11) = .pointer (some ⟨g2, 1, none⟩) := hd 11 (by decide)
   exact zm (F := (StK.eq (numV P)).F) (zo rfl rfl rfl eg) (numV P) (zt _ _ rfl e11 ((M3.step hb).blk (k := 0) rfl) (numA P) z7b Try.underlying28 rfl zc) rfl
  ·intro ua uw hb hd
   have eg : ua.eval (.tmp 9) = .bool true := hd 9 (by decide)
   have e10 : ua.eval (.tmp 10) = numV a := hd 10 (by decide)
   have e12 : ua.eval (.tmp 12) = numV P := hd 12 (by decide)
   exact zy (F := (StK.eq (.int .i64 e)).F) (zo rfl rfl rfl eg) hb.size rfl #[numV a, numV P] (zdb e10 e12) (zE Try.func17 rfl) (zia (k2 uw))
  ·intro ua uw hb hd
   have eg : ua.eval (.tmp 9) = .bool true := hd 9 (by decide)
   have e13 : ua.eval (.tmp 13) = .int .i64 e := hd 13 (by decide)
   exact zm (F := (StK.eq (.bool false)).F) (zo rfl rfl rfl eg) (.bool false) (y_lss _ _ _ _ rfl e13 rfl (decide_eq_false c2)) rfl
  ·intro ua uw hb hd
   have e9 : ua.eval (.tmp 9) = .bool true := hd 9 (by decide)
   have e14 : ua.eval (.tmp 14) = .bool false := hd 14 (by decide)
   exact zm (F := (StK.eq (.bool false)).F) (zb rfl) (.bool false) (run_pick_t rfl e9 e14) rfl
  ·intro ua uw hb hd
   have e15 : ua.eval (.tmp 15) = .bool false := hd 15 (by decide)
   exact zm (F := (StK.eq (.bool false)).F) (zb rfl) (.bool false) (zu _ (.inl rfl) e15) rfl
  ·intro ua uw hb hd
   have eg : ua.eval (.tmp 16) = .bool false := hd 16 (by decide)
   exact z1a (F := (StK.eq (undef)).F) rfl rfl rfl eg rfl
  ·intro ua uw hb hd
   have eg : ua.eval (.tmp 16) = .bool false := hd 16 (by decide)
   exact z1a (F := (StK.eq (undef)).F) rfl rfl rfl eg rfl
  ·intro ua uw hb hd
   have eg : ua.eval (.tmp 16) = .bool false := hd 16 (by decide)
   exact z1a (F := (StK.eq (undef)).F) rfl rfl rfl eg rfl
  ·intro ua uw hb hd
   have eg : ua.eval (.tmp 16) = .bool false := hd 16 (by decide)
   exact z1a (F := (StK.eq (undef)).F) rfl rfl rfl eg rfl
  ·intro ua uw hb hd
   have eg : ua.eval (.tmp 16) = .bool false := hd 16 (by decide)
   exact z1a (F := (StK.eq (undef)).F) rfl rfl rfl eg rfl
  ·intro ua uw hb hd
   have eg : ua.eval (.tmp 16) = .bool false := hd 16 (by decide)
   exact z1a (F := (StK.eq (undef)).F) rfl rfl rfl eg rfl
  ·intro ua uw hb hd
   have eg : ua.eval (.tmp 16) = .bool false := hd 16 (by decide)
   exact z1a (F := (StK.eq (undef)).F) rfl rfl rfl eg rfl
  ·intro ua uw hb hd
   have e16 : ua.eval (.tmp 16) = .bool false := hd 16 (by decide)
   have e23 : ua.eval (.tmp 23) = undef := hd 23 (by decide)
   exact zm (F := (StK.eq (.bool false)).F) (zb rfl) (.bool false) (run_pick_f rfl e16 rfl) rfl
  ·intro ua uw hb hd
   have e24 : ua.eval (.tmp 24) = .bool false := hd 24 (by decide)
   exact zm (F := (StK.eq (.bool false)).F) (zb rfl) (.bool false) (zu _ (.inr rfl) e24) rfl
  intro p6 a6 w6 b6 G6 y6
  obtain ⟨-, -, -, -, -, -, -, -, -, -, -, -, -, -, -, -, -, -, -, -, q20, -⟩ := y6
  have r20 : p6 20 = .bool false := q20 (by decide)
  simp only [List.take, layV, Nat.zero_add, Nat.reduceAdd, r20] at G6
  have M6 := M3.kc b6
  clear F4 M3 r20 q20
  refine hK5 _ _ ?_
  refine wp_ret ?_
  try simp only [Exit.then, Exit.inBlock]
  exact bodyPost_ret (res1 rfl (G6.get (t := 4) rfl)) G6.defers ⟨rfl, M6.below⟩
 ·rw [c4]
  clear c4
  refine zka (args := [.agg (zf k P Q g), numV a]) 25 Try.func15 rfl rfl rfl ?_
  intro fa F
  have M := Mx.start w
  refine zSk fun _ hK1 => ?_
  refine zR ?_
  refine zl (zb rfl) rfl F rfl M 0 (t := 30) (c := zf k P Q g) (by unfold execOp; simp only [(F.get (t := 0) rfl)]; kernel_rfl) ?_
  intro g2 a2 w2 F2 M2
  clear F M
  refine zl (zb rfl) rfl F2 rfl M2 1 (t := 28) (c := numA a) (by unfold execOp; simp only [(F2.get (t := 1) rfl)]; kernel_rfl) ?_
  intro g3 a3 w3 F3 M3
  clear F2 M2
  refine zh (w' := w3) (zb rfl) rfl F3 rfl (.bool false) (zu _ (.inr rfl) rfl) fun _ F4 => ?_
  clear F3
  refine hK1 _ _ ?_
  refine zSk fun _ hK5 => ?_
  refine zgb F4 [StK.eq (numV a), StK.eq (numV 1), StK.eq (.int .i64 d), StK.eq (.bool true), StK.eq (.bool true), StK.eq (numV a), StK.eq (.pointer (some ⟨g2, 1, none⟩)), StK.eq (numV P), StK.eq (.int .i64 e), StK.eq (.bool true), StK.eq (.bool true), StK.eq (.bool true), StK.eq (.agg (zf k P Q g)), StK.eq (numV a), StK.eq (.pointer (some ⟨g2, 9, none⟩)), StK.eq (numV Q), StK.eq (numV 1), StK.eq (numV 1), StK.eq (.bool true), StK.eq (.bool true), StK.eq (.bool true)] 21 rfl (by kernel_rfl) ⟨?_, ?_, ?_, ?_, ?_, ?_, ?_, ?_, ?_, ?_, ?_, ?_, ?_, ?_, ?_, ?_, ?_, ?_, ?_, ?_, ?_, trivial⟩ ?_
  ·intro ua uw hb hd
   have e3 : ua.eval (.tmp 3) = .pointer (some ⟨g3, 0, none⟩) := (show ua.eval (.tmp 3) = _ from hd 3 (by decide)).trans (F4.get (t := 3) rfl)
   exact zm (F := (StK.eq (numV a)).F) (zb rfl) (numV a) (zt _ _ rfl e3 ((M3.step hb).blk (k := 1) rfl) (numA a) (zba rfl) Try.underlying28 rfl zc) rfl
  ·intro ua uw hb hd
   exact zy (F := (StK.eq (numV 1)).F) (zb rfl) hb.size rfl #[.int .i64 1] (zwa rfl) (zE Try.func9 rfl) (zia (kO uw))
  ·intro ua uw hb hd
   have e5 : ua.eval (.tmp 5) = numV a := hd 5 (by decide)
   have e6 : ua.eval (.tmp 6) = numV 1 := hd 6 (by decide)
   exact zy (F := (StK.eq (.int .i64 d)).F) (zb rfl) hb.size rfl #[numV a, numV 1] (zdb e5 e6) (zE Try.func17 rfl) (zia (k1 uw))
  ·intro ua uw hb hd
   have e7 : ua.eval (.tmp 7) = .int .i64 d := hd 7 (by decide)
   exact zm (F := (StK.eq (.bool true)).F) (zb rfl) (.bool true) (y_gtr _ _ _ _ rfl e7 rfl (decide_eq_true c1)) rfl
  ·intro ua uw hb hd
   have e8 : ua.eval (.tmp 8) = .bool true := hd 8 (by decide)
   exact zm (F := (StK.eq (.bool true)).F) (zb rfl) (.bool true) (zu _ (.inl rfl) e8) rfl
  ·intro ua uw hb hd
   have eg : ua.eval (.tmp 9) = .bool true := hd 9 (by decide)
   have e3 : ua.eval (.tmp 3) = .pointer (some ⟨g3, 0, none⟩) := (show ua.eval (.tmp 3) = _ from hd 3 (by decide)).trans (F4.get (t := 3) rfl)
   exact zm (F := (StK.eq (numV a)).F) (zo rfl rfl rfl eg) (numV a) (zt _ _ rfl e3 ((M3.step hb).blk (k := 1) rfl) (numA a) (zba rfl) Try.underlying28 rfl zc) rfl
  ·intro ua uw hb hd
   have eg : ua.eval (.tmp 9) = .bool true := hd 9 (by decide)
   have e2 : ua.eval (.tmp 2) = .pointer (some ⟨g2, 0, none⟩) := (show ua.eval (.tmp 2) = _ from hd 2 (by decide)).trans (F4.get (t := 2) rfl)
   exact zm (F := (StK.eq (.pointer (some ⟨g2, 1, none⟩))).F) (zo rfl rfl rfl eg) (.pointer (some ⟨g2, 1, none⟩)) (by unfold execOp; simp only [e2]; kernel_rfl) rfl
  ·intro ua uw hb hd
   have eg : ua.eval (.tmp 9) = .bool true := hd 9 (by decide)
   have e11 : ua.eval (.tmp 11) = .pointer (some ⟨g2, 1, none⟩) := hd 11 (by decide)
   exact zm (F := (StK.eq (numV P)).F) (zo rfl rfl rfl eg) (numV P) (zt _ _ rfl e11 ((M3.step hb).blk (k := 0) rfl) (numA P) z7b Try.underlying28 rfl zc) rfl
  ·intro ua uw hb hd
   have eg : ua.eval (.tmp 9) = .bool true := hd 9 (by decide)
   have e10 : ua.eval (.tmp 10) = numV a := hd 10 (by decide)
   have e12 : ua.eval (.tmp 12) = numV P := hd 12 (by decide)
   exact zy (F := (StK.eq (.int .i64 e)).F) (zo rfl rfl rfl eg) hb.size rfl #[numV a, numV P] (zdb e10 e12) (zE Try.func17 rfl) (zia (k2 uw))
  ·intro ua uw hb hd
   have eg : ua.eval (.tmp 9) = .bool true := hd 9 (by decide)
   have e13 : ua.eval (.tmp 13) = .int .i64 e := hd 13 (by decide)
   exact zm (F := (StK.eq (.bool true)).F) (zo rfl rfl rfl eg) (.bool true) (y_lss _ _ _ _ rfl e13 rfl (decide_eq_true c2)) rfl
  ·intro ua uw hb hd
   have e9 : ua.eval (.tmp 9) = .bool true := hd 9 (by decide)
   have e14 : ua.eval (.tmp 14) = .bool true := hd 14 (by decide)
   exact zm (F := (StK.eq (.bool true)).F) (zb rfl) (.bool true) (run_pick_t rfl e9 e14) rfl
  ·intro ua uw hb hd
   have e15 : ua.eval (.tmp 15) = .bool true := hd 15 (by decide)
   exact zm (F := (StK.eq (.bool true)).F) (zb rfl) (.bool true) (zu _ (.inl rfl) e15) rfl
  ·intro ua uw hb hd
   have eg : ua.eval (.tmp 16) = .bool true := hd 16 (by decide)
   have e2 : ua.eval (.tmp 2) = .pointer (some ⟨g2, 0, none⟩) := (show ua.eval (.tmp 2) = _ from hd 2 (by decide)).trans (F4.get (t := 2) rfl)
   exact zm (F := (StK.eq (.agg (zf k P Q g))).F) (zo rfl rfl rfl eg) (.agg (zf k P Q g)) (zt _ _ rfl e2 ((M3.step hb).blk (k := 0) rfl) (zf k P Q g) (zba rfl) Try.underlying30 rfl (by kernel_rfl)) rfl
  ·intro ua uw hb hd
   have eg : ua.eval (.tmp 16) = .bool true := hd 16 (by decide)
   have e3 : ua.eval (.tmp 3) = .pointer (some ⟨g3, 0, none⟩) := (show ua.eval (.tmp 3) = _ from hd 3 (by decide)).trans (F4.get (t := 3) rfl)
   exact zm (F := (StK.eq (numV a)).F) (zo rfl rfl rfl eg) (numV a) (zt _ _ rfl e3 ((M3.step hb).blk (k := 1) rfl) (numA a) (zba rfl) Try.underlying28 rfl zc) rfl
  ·intro ua uw hb hd
   have eg : ua.eval (.tmp 16) = .bool true := hd 16 (by decide)
   have e2 : ua.eval (.tmp 2) = .pointer (some ⟨g2, 0, none⟩) := (show ua.eval (.tmp 2) = _ from hd 2 (by decide)).trans (F4.get (t := 2) rfl)
   exact zm (F := (StK.eq (.pointer (some ⟨g2, 9, none⟩))).F) (zo rfl rfl rfl eg) (.pointer (some ⟨g2, 9, none⟩)) (by unfold execOp; simp only [e2]; kernel_rfl) rfl
  ·intro ua uw hb hd
   have eg : ua.eval (.tmp 16) = .bool true := hd 16 (by decide)
   have e19 : ua.eval (.tmp 19) = .pointer (some ⟨g2, 9, none⟩) := hd 19 (by decide)
   exact zm (F := (StK.eq (numV Q)).F) (zo rfl rfl rfl eg) (numV Q) (zt _ _ rfl e19 ((M3.step hb).blk (k := 0) rfl) (numA Q) groupA_q Try.underlying28 rfl zc) rfl
  ·intro ua uw hb hd
   have eg : ua.eval (.tmp 16) = .bool true := hd 16 (by decide)
   have e17 : ua.eval (.tmp 17) = .agg (zf k P Q g) := hd 17 (by decide)
   have e18 : ua.eval (.tmp 18) = numV a := hd 18 (by decide)
   have e20 : ua.eval (.tmp 20) = numV Q := hd 20 (by decide)
   exact zy (F := (StK.eq (numV 1)).F) (zo rfl rfl rfl eg) hb.size rfl #[.agg (zf k P Q g), numV a, numV Q] (z1b e17 e18 e20) (zE Try.func8 rfl) (zia (k3 uw))
  ·intro ua uw hb hd
   have eg : ua.eval (.tmp 16) = .bool true := hd 16 (by decide)
   exact zy (F := (StK.eq (numV 1)).F) (zo rfl rfl rfl eg) hb.size rfl #[.int .i64 1] (zwa rfl) (zE Try.func9 rfl) (zia (kO uw))
  ·intro ua uw hb hd
   have eg : ua.eval (.tmp 16) = .bool true := hd 16 (by decide)
   have e21 : ua.eval (.tmp 21) = numV 1 := hd 21 (by decide)
   have e22 : ua.eval (.tmp 22) = numV 1 := hd 22 (by decide)
   exact zm (F := (StK.eq (.bool true)).F) (zo rfl rfl rfl eg) (.bool true) (y_eqA _ _ _ _ rfl e21 e22 (by kernel_rfl) (eqn_same 1 _)) rfl
  ·intro ua uw hb hd
   have e16 : ua.eval (.tmp 16) = .bool true := hd 16 (by decide)
   have e23 : ua.eval (.tmp 23) = .bool true := hd 23 (by decide)
   exact zm (F := (StK.eq (.bool true)).F) (zb rfl) (.bool true) (run_pick_t rfl e16 e23) rfl
  ·intro ua uw hb hd
   have e24 : ua.eval (.tmp 24) = .bool true := hd 24 (by decide)
   exact zm (F := (StK.eq (.bool true)).F) (zb rfl) (.bool true) (zu _ (.inr rfl) e24) rfl
  intro p6 a6 w6 b6 G6 y6
  obtain ⟨-, -, -, -, -, -, -, -, -, -, -, -, -, -, -, -, -, -, -, -, q20, -⟩ := y6
  have r20 : p6 20 = .bool true := q20 (by decide)
  simp only [List.take, layV, Nat.zero_add, Nat.reduceAdd, r20] at G6
  have M6 := M3.kc b6
  clear F4 M3 r20 q20
  refine hK5 _ _ ?_
  refine wp_ret ?_
  try simp only [Exit.then, Exit.inBlock]
  exact bodyPost_ret (res1 rfl (G6.get (t := 4) rfl)) G6.defers ⟨rfl, M6.below⟩
 ·rw [c4]
  clear c4
  refine zka (args := [.agg (zf k P Q g), numV a]) 25 Try.func15 rfl rfl rfl ?_
  intro fa F
  have M := Mx.start w
  refine zSk fun _ hK1 => ?_
  refine zR ?_
  refine zl (zb rfl) rfl F rfl M 0 (t := 30) (c := zf k P Q g) (by unfold execOp; simp only [(F.get (t := 0) rfl)]; kernel_rfl) ?_
  intro g2 a2 w2 F2 M2
  clear F M
  refine zl (zb rfl) rfl F2 rfl M2 1 (t := 28) (c := numA a) (by unfold execOp; simp only [(F2.get (t := 1) rfl)]; kernel_rfl) ?_
  intro g3 a3 w3 F3 M3
  clear F2 M2
  refine zh (w' := w3) (zb rfl) rfl F3 rfl (.bool false) (zu _ (.inr rfl) rfl) fun _ F4 => ?_
  clear F3
  refine hK1 _ _ ?_
  refine zSk fun _ hK5 => ?_
  refine zgb F4 [StK.eq (numV a), StK.eq (numV 1), StK.eq (.int .i64 d), StK.eq (.bool true), StK.eq (.bool true), StK.eq (numV a), StK.eq (.pointer (some ⟨g2, 1, none⟩)), StK.eq (numV P), StK.eq (.int .i64 e), StK.eq (.bool true), StK.eq (.bool true), StK.eq (.bool true), StK.eq (.agg (zf k P Q g)), StK.eq (numV a), StK.eq (.pointer (some ⟨g2, 9, none⟩)), StK.eq (numV Q), StK.eq (numV V), StK.eq (numV 1), StK.eq (.bool false), StK.eq (.bool false), StK.eq (.bool false)] 21 rfl (by kernel_rfl) ⟨?_, ?_, ?_, ?_, ?_, ?_, ?_, ?_, ?_, ?_, ?_, ?_, ?_, ?_, ?_, ?_, ?_, ?_, ?_, ?_, ?_, trivial⟩ ?_
  ·intro ua uw hb hd
   have e3 : ua.eval (.tmp 3) = .pointer (some ⟨g3, 0, none⟩) := (show ua.eval (.tmp 3) = _ from hd 3 (by decide)).trans (F4.get (t := 3) rfl)
   exact zm (F := (StK.eq (numV a)).F) (zb rfl) (numV a) (zt _ _ rfl e3 ((M3.step hb).blk (k := 1) rfl) (numA a) (zba rfl) Try.underlying28 rfl zc) rfl
  ·intro ua uw hb hd
   exact zy (F := (StK.eq (numV 1)).F) (zb rfl) hb.size rfl #[.int .i64 1] (zwa rfl) (zE Try.func9 rfl) (zia (kO uw))
  ·intro ua uw hb hd
   have e5 : ua.eval (.tmp 5) = numV a := hd 5 (by decide)
   have e6 : ua.eval (.tmp 6) = numV 1 := hd 6 (by decide)
   exact zy (F := (StK.eq (.int .i64 d)).F) (zb rfl) hb.size rfl #[numV a, numV 1] (zdb e5 e6) (zE Try.func17 rfl) (zia (k1 uw))
  ·intro ua uw hb hd
   have e7 : ua.eval (.tmp 7) = .int .i64 d := hd 7 (by decide)
   exact zm (F := (StK.eq (.bool true)).F) (zb rfl) (.bool true) (y_gtr _ _ _ _ rfl e7 rfl (decide_eq_true c1)) rfl
  ·intro ua uw hb hd
   have e8 : ua.eval (.tmp 8) = .bool true := hd 8 (by decide)
   exact zm (F := (StK.eq (.bool true)).F) (zb rfl) (.bool true) (zu _ (.inl rfl) e8) rfl
  ·intro ua uw hb hd
   have eg : ua.eval (.tmp 9) = .bool true := hd 9 (by decide)
   have e3 : ua.eval (.tmp 3) = .pointer (some ⟨g3, 0, none⟩) := (show ua.eval (.tmp 3) = _ from hd 3 (by decide)).trans (F4.get (t := 3) rfl)
   exact zm (F := (StK.eq (numV a)).F) (zo rfl rfl rfl eg) (numV a) (zt _ _ rfl e3 ((M3.step hb).blk (k := 1) rfl) (numA a) (zba rfl) Try.underlying28 rfl zc) rfl
  ·intro ua uw hb hd
   have eg : ua.eval (.tmp 9) = .bool true := hd 9 (by decide)
   have e2 : ua.eval (.tmp 2) = .pointer (some ⟨g2, 0, none⟩) := (show ua.eval (.tmp 2) = _ from hd 2 (by decide)).trans (F4.get (t := 2) rfl)
   exact zm (F := (StK.eq (.pointer (some ⟨g2, 1, none⟩))).F) (zo rfl rfl rfl eg) (.pointer (some ⟨g2, 1, none⟩)) (by unfold execOp; simp only [e2]; kernel_rfl) rfl
  ·intro ua uw hb hd
   have eg : ua.eval (.tmp 9) = .bool true := hd 9 (by decide)
   have e11 : ua.eval (.tmp 11) = .pointer (some ⟨g2, 1, none⟩) := hd 11 (by decide)
   exact zm (F := (StK.eq (numV P)).F) (zo rfl rfl rfl eg) (numV P) (zt _ _ rfl e11 ((M3.step hb).blk (k := 0) rfl) (numA P) z7b Try.underlying28 rfl zc) rfl
  ·intro ua uw hb hd
   have eg : ua.eval (.tmp 9) = .bool true := hd 9 (by decide)
   have e10 : ua.eval (.tmp 10) = numV a := hd 10 (by decide)
   have e12 : ua.eval (.tmp 12) = numV P := hd 12 (by decide)
   exact zy (F := (StK.eq (.int .i64 e)).F) (zo rfl rfl rfl eg) hb.size rfl #[numV a, numV P] (zdb e10 e12) (zE Try.func17 rfl) (zia (k2 uw))
  ·intro ua uw hb hd
   have eg : ua.eval (.tmp 9) = .bool true := hd 9 (by decide)
   have e13 : ua.eval (.tmp 13) = .int .i64 e := hd 13 (by decide)
   exact zm (F := (StK.eq (.bool true)).F) (zo rfl rfl rfl eg) (.bool true) (y_lss _ _ _ _ rfl e13 rfl (decide_eq_true c2)) rfl
  ·intro ua uw hb hd
   have e9 : ua.eval (.tmp 9) = .bool true := hd 9 (by decide)
   have e14 : ua.eval (.tmp 14) = .bool true := hd 14 (by decide)
   exact zm (F := (StK.eq (.bool true)).F) (zb rfl) (.bool true) (run_pick_t rfl e9 e14) rfl
  ·intro ua uw hb hd
   have e15 : ua.eval (.tmp 15) = .bool true := hd 15 (by decide)
   exact zm (F := (StK.eq (.bool true)).F) (zb rfl) (.bool true) (zu _ (.inl rfl) e15) rfl
  ·intro ua uw hb hd
   have eg : ua.eval (.tmp 16) = .bool true := hd 16 (by decide)
   have e2 : ua.eval (.tmp 2) = .pointer (some ⟨g2, 0, none⟩) := (show ua.eval (.tmp 2) = _ from hd 2 (by decide)).trans (F4.get (t := 2) rfl)
   exact zm (F := (StK.eq (.agg (zf k P Q g))).F) (zo rfl rfl rfl eg) (.agg (zf k P Q g)) (zt _ _ rfl e2 ((M3.step hb).blk (k := 0) rfl) (zf k P Q g) (zba rfl) Try.underlying30 rfl (by kernel_rfl)) rfl
  ·intro ua uw hb hd
   have eg : ua.eval (.tmp 16) = .bool true := hd 16 (by decide)
   have e3 : ua.eval (.tmp 3) = .pointer (some ⟨g3, 0, none⟩) := (show ua.eval (.tmp 3) = _ from hd 3 (by decide)).trans (F4.get (t := 3) rfl)
   exact zm (F := (StK.eq (numV a)).F) (zo rfl rfl rfl eg) (numV a) (zt _ _ rfl e3 ((M3.step hb).blk (k := 1) rfl) (numA a) (zba rfl) Try.underlying28 rfl zc) rfl
  ·intro ua uw hb hd
   have eg : ua.eval (.tmp 16) = .bool true := hd 16 (by decide)
   have e2 : ua.eval (.tmp 2) = .pointer (some ⟨g2, 0, none⟩) := (show ua.eval (.tmp 2) = _ from hd 2 (by decide)).trans (F4.get (t := 2) rfl)
   exact zm (F := (StK.eq (.pointer (some ⟨g2, 9, none⟩))).F) (zo rfl rfl rfl eg) (.pointer (some ⟨g2, 9, none⟩)) (by unfold execOp; simp only [e2]; kernel_rfl) rfl
  ·intro ua uw hb hd
   have eg : ua.eval (.tmp 16) = .bool true := hd 16 (by decide)
   have e19 : ua.eval (.tmp 19) = .pointer (some ⟨g2, 9, none⟩) := hd 19 (by decide)
   exact zm (F := (StK.eq (numV Q)).F) (zo rfl rfl rfl eg) (numV Q) (zt _ _ rfl e19 ((M3.step hb).blk (k := 0) rfl) (numA Q) groupA_q Try.underlying28 rfl zc) rfl
  ·intro ua uw hb hd
   have eg : ua.eval (.tmp 16) = .bool true := hd 16 (by decide)
   have e17 : ua.eval (.tmp 17) = .agg (zf k P Q g) := hd 17 (by decide)
   have e18 : ua.eval (.tmp 18) = numV a := hd 18 (by decide)
   have e20 : ua.eval (.tmp 20) = numV Q := hd 20 (by decide)
   exact zy (F := (StK.eq (numV V)).F) (zo rfl rfl rfl eg) hb.size rfl #[.agg (zf k P Q g), numV a, numV Q] (z1b e17 e18 e20) (zE Try.func8 rfl) (zia (k3 uw))
  ·intro ua uw hb hd
   have eg : ua.eval (.tmp 16) = .bool true := hd 16 (by decide)
   exact zy (F := (StK.eq (numV 1)).F) (zo rfl rfl rfl eg) hb.size rfl #[.int .i64 1] (zwa rfl) (zE Try.func9 rfl) (zia (kO uw))
  ·intro ua uw hb hd
   have eg : ua.eval (.tmp 16) = .bool true := hd 16 (by decide)
   have e21 : ua.eval (.tmp 21) = numV V := hd 21 (by decide)
   have e22 : ua.eval (.tmp 22) = numV 1 := hd 22 (by decide)
   exact zm (F := (StK.eq (.bool false)).F) (zo rfl rfl rfl eg) (.bool false) (y_eqA _ _ _ _ rfl e21 e22 (by kernel_rfl) (c3 _)) rfl
  ·intro ua uw hb hd
   have e16 : ua.eval (.tmp 16) = .bool true := hd 16 (by decide)
   have e23 : ua.eval (.tmp 23) = .bool false := hd 23 (by decide)
   exact zm (F := (StK.eq (.bool false)).F) (zb rfl) (.bool false) (run_pick_t rfl e16 e23) rfl
  ·intro ua uw hb hd
   have e24 : ua.eval (.tmp 24) = .bool false := hd 24 (by decide)
   exact zm (F := (StK.eq (.bool false)).F) (zb rfl) (.bool false) (zu _ (.inr rfl) e24) rfl
  intro p6 a6 w6 b6 G6 y6
  obtain ⟨-, -, -, -, -, -, -, -, -, -, -, -, -, -, -, -, -, -, -, -, q20, -⟩ := y6
  have r20 : p6 20 = .bool false := q20 (by decide)
  simp only [List.take, layV, Nat.zero_add, Nat.reduceAdd, r20] at G6
  have M6 := M3.kc b6
  clear F4 M3 r20 q20
  refine hK5 _ _ ?_
  refine wp_ret ?_
  try simp only [Exit.then, Exit.inBlock]
  exact bodyPost_ret (res1 rfl (G6.get (t := 4) rfl)) G6.defers ⟨rfl, M6.below⟩
end Go.Proofs.Ytcfepoopkfhojaa
