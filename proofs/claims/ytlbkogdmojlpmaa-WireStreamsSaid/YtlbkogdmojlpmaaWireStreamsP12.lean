/- What WireStreams stands on, part 12. -/
import Derived.Test.YtlbkogdmojlpmaaWireStreamsP1
import Derived.Test.YtlbkogdmojlpmaaWireStreamsP2
import Derived.Test.YtlbkogdmojlpmaaWireStreamsP3
import Derived.Test.YtlbkogdmojlpmaaWireStreamsP4
import Derived.Test.YtlbkogdmojlpmaaWireStreamsP5
import Derived.Test.YtlbkogdmojlpmaaWireStreamsP6
import Derived.Test.YtlbkogdmojlpmaaWireStreamsP7
import Derived.Test.YtlbkogdmojlpmaaWireStreamsP8
import Derived.Test.YtlbkogdmojlpmaaWireStreamsP9
import Derived.Test.YtlbkogdmojlpmaaWireStreamsP10
import Derived.Test.YtlbkogdmojlpmaaWireStreamsP11
set_option maxRecDepth 100000
set_option maxHeartbeats 8000000
set_option linter.unusedVariables false
set_option linter.unusedSimpArgs false
namespace Go.Proofs.Ytlbkogdmojlpmaa
open Go.ChangeShapes Go.WideShapes Go.ChangeAt Go.RowKit
def nmC (x : UInt8) : UInt8 := zx (33 + ((x.toNat : Nat) : Int) % 94)
def nmL (l : List UInt8) : List UInt8 := l.map nmC
theorem nmL_len (l : List UInt8) : (nmL l).length = l.length := by simp [nmL]
def nmP (l : List UInt8) (j : Nat) : List UInt8 := (l.take j).map nmC ++ l.drop j
theorem nmP_len (l : List UInt8) (j : Nat) : (nmP l j).length = l.length := by simp [nmP]; omega
theorem nmP_zero (l : List UInt8) : nmP l 0 = l := by simp [nmP]
theorem nmP_all (l : List UInt8) : nmP l l.length = nmL l := by simp [nmP, nmL]
theorem nmP_at {l : List UInt8} {j : Nat} {x : UInt8} (h : l[j]? = some x) : (nmP l j)[j]? = some x := by
  have hl := (List.getElem?_eq_some_iff.1 h).1
  unfold nmP
  rw [List.getElem?_append_right (by simp; omega)]
  simp [Nat.min_eq_left (Nat.le_of_lt hl), h]
theorem nmP_set {l : List UInt8} {j : Nat} {x : UInt8} (h : l[j]? = some x) : (nmP l j).set j (zx (33 + ((x.toNat : Nat) : Int) % 94)) = nmP l (j + 1) := by
  have hl := (List.getElem?_eq_some_iff.1 h).1
  unfold nmP
  rw [List.set_append_right _ _ (by simp; omega), List.take_add_one, h, List.map_append, List.append_assoc]
  congr 1
  rw [List.length_map, List.length_take, Nat.min_eq_left (Nat.le_of_lt hl), Nat.sub_self, List.drop_eq_getElem_cons hl]
  simp [nmC, (List.getElem?_eq_some_iff.1 h).2]
def nmB (s : ByteArray) : ByteArray := if (sBy s).length = 0 then ⟨#[117]⟩ else ⟨((nmL (sBy s)).take (min (sBy s).length 16)).toArray⟩
theorem nmB_nil {s : ByteArray} (h : (sBy s).length = 0) : nmB s = ⟨#[117]⟩ := if_pos h
theorem nmB_some {s : ByteArray} (h : ¬ (sBy s).length = 0) : nmB s = ⟨((nmL (sBy s)).take (min (sBy s).length 16)).toArray⟩ := if_neg h
theorem lname_any (s : ByteArray) (hs : s.size ≤ 40) (w : World) :
  Calls Try.prog 42 #[.string s] w fun e w' => e = .returned (.string (nmB s)) ∧ Below w.heap.size w w' := by
 have hsl : (sBy s).length ≤ 40 := by rw [sBy_len]; exact hs
 refine zg (args := [.string s]) 33 Try.func42 rfl rfl rfl ?_
 intro fa F
 have M := Mx.start w
 refine zT fun _ hK1 => ?_
 refine rm rfl F fun _ F2 => ?_
 refine hK1 _ _ (zS fun _ hK3 => ?_)
 refine zR ?_
 refine rm rfl F2 fun _ F4 => ?_
 refine zba (za rfl) rfl F4 rfl (run_cvZ M 0 _ rfl (F4.get rfl) (Nat.le_trans hs (by omega))) ?_
 intro v5 a5 w5 F5 M5
 clear F4 M
 obtain ⟨A5, c5, rfl⟩ := (M5.isZ (k := 0) rfl).shape
 refine rm rfl F5 fun _ F6 => ?_
 refine hK3 _ _ (zS fun _ hK7 => ?_)
 refine zT fun _ hK8 => ?_
 refine rm rfl F6 fun _ F9 => ?_
 refine hK8 _ _ (wp_block ?_)
 have hz := nmP_zero (sBy s)
 refine zzb (α := Nat) (n := 33) (G := none) (w0 := w) (fun x => [(0, .string s), (2, .string ({ data := #[] })), (5, .string s), (6, .slice A5 ((sBy s)).length c5), (3, .slice A5 ((sBy s)).length c5), (4, .int .i64 (x : Int))]) (fun x => [(0, ozR (nmP (sBy s) x) (.slice A5 ((sBy s)).length c5))]) (fun k x => k = (sBy s).length - x ∧ (x ≤ (sBy s).length)) _ 0 ⟨rfl, (Nat.zero_le _)⟩ (F9.sub ⟨rfl, rfl, rfl, rfl, rfl, rfl, trivial⟩) (M5.sub ⟨(by rw [hz]; rfl), trivial⟩) ?_
 clear F9 M5
 rintro k10 jn a10 w10 K10 ⟨ek10, I10⟩ F10 M10 hK10
 replace F10 : Fx 33 a10 [(0, .string s), (2, .string ({ data := #[] })), (5, .string s), (6, .slice A5 ((sBy s)).length c5), (3, .slice A5 ((sBy s)).length c5), (4, .int .i64 (jn : Int))] := F10
 replace M10 : Mx _ _ w10 [(0, ozR (nmP (sBy s) jn) (.slice A5 ((sBy s)).length c5))] := M10
 replace I10 : jn ≤ (sBy s).length := I10
 replace ek10 : k10 = (sBy s).length - jn := ek10
 by_cases hlt : jn < (sBy s).length
 rotate_left
 ·obtain rfl : jn = (sBy s).length := by omega
  have hal := nmP_all (sBy s)
  rw [hal] at M10
  refine zS fun _ hK33 => zS fun _ hK34 => ?_
  refine zR ?_
  refine rm rfl F10 fun _ F35 => ?_
  refine rm rfl F35 fun _ F36 => ?_
  refine rn rfl rfl F36 rfl (.int .i64 ((sBy s).length : Int)) (z9 _ rfl (F36.get rfl) (M10.isZ (k := 0) rfl) (by rw [nmL_len])) fun _ F37 => ?_
  refine rn rfl rfl F37 rfl (.bool false) (zoa _ _ _ _ rfl (F37.get rfl) (F37.get rfl) (decide_eq_false (Int.lt_irrefl _))) fun _ F38 => ?_
  refine hK34 _ _ (wp_cond_false (F38.get rfl) ?_)
  refine wp_exit ?_
  simp only [Exit.then, Exit.inBlock, ↓reduceIte, Nat.reduceEqDiff]
  refine hK7 _ _ (zS fun _ hK39 => ?_)
  refine zT fun _ hK40 => ?_
  refine rm rfl F38 fun _ F41 => ?_
  refine rn rfl rfl F41 rfl (.int .i64 ((sBy s).length : Int)) (z9 _ rfl (F41.get rfl) (M10.isZ (k := 0) rfl) (by rw [nmL_len])) fun _ F42 => ?_
  by_cases h43 : ((sBy s).length : Int) = 0
  ·refine rn rfl rfl F42 rfl (.bool true) (zq _ _ _ _ rfl (F42.get rfl) rfl Try.underlying3 (zka h43)) fun _ F44 => ?_
   refine hK40 _ _ (wp_cond_true (F44.get rfl) ?_)
   refine zT fun _ hK45 => ?_
   refine rm rfl F44 fun _ F46 => ?_
   refine hK45 _ _ (wp_ret ?_)
   try simp only [Exit.then, Exit.inBlock, Exit.jump]
   exact bodyPost_ret (res1 rfl (F46.get rfl)) F46.defers ⟨by rw [nmB_nil (by omega)], M10.below⟩
  refine rn rfl rfl F42 rfl (.bool false) (zq _ _ _ _ rfl (F42.get rfl) rfl Try.underlying3 (zr h43)) fun _ F47 => ?_
  refine hK40 _ _ (wp_cond_false (F47.get rfl) ?_)
  refine wp_skip ?_
  refine hK39 _ _ (zS fun _ hK48 => ?_)
  refine zR ?_
  refine rm rfl F47 fun _ F49 => ?_
  refine rm rfl F49 fun _ F50 => ?_
  refine rn rfl rfl F50 rfl (.int .i64 ((sBy s).length : Int)) (z9 _ rfl (F50.get rfl) (M10.isZ (k := 0) rfl) (by rw [nmL_len])) fun _ F51 => ?_
  refine rn rfl rfl F51 rfl (.int .i64 ((min ((sBy s).length) 16 : Nat) : Int)) (y_min _ _ rfl (F51.get rfl) rfl (by split <;> omega)) fun _ F52 => ?_
  refine z9a (za rfl) rfl F52 rfl (z8b _ _ rfl (F52.get rfl) (M10.isZ (k := 0) rfl) (F52.get rfl) (j := (min (sBy s).length 16)) rfl (by rw [nmL_len]; omega)) ?_
  intro v53 a53 h53 F53
  have M54 := M10.tameZ (k := 0) rfl
  clear M10
  have M53 := M54.partB 1 (k := 0) rfl h53.1 h53.2
  clear M54
  obtain ⟨A53, c53, rfl⟩ := (M53.isb (k := 1) rfl).shape
  refine rn rfl rfl F53 rfl (.string (⟨(((nmL (sBy s)).take (min (sBy s).length 16))).toArray⟩)) (y_str _ rfl (F53.get rfl) (M53.isb (k := 1) rfl)) fun _ F55 => ?_
  refine rm rfl F55 fun _ F56 => ?_
  refine hK48 _ _ (wp_ret ?_)
  try simp only [Exit.then, Exit.inBlock, Exit.jump]
  exact bodyPost_ret (res1 rfl (F56.get rfl)) F56.defers ⟨by rw [nmB_some (by omega)], M53.below⟩
 obtain ⟨x, hx⟩ : ∃ x, (sBy s)[jn]? = some x := ⟨_, List.getElem?_eq_getElem hlt⟩
 have hxl := x.toNat_lt
 have hpx := nmP_at hx
 have hps := nmP_set hx
 have hpl := nmP_len (sBy s) jn
 refine zS fun _ hK11 => zS fun _ hK12 => ?_
 refine zR ?_
 refine rm rfl F10 fun _ F13 => ?_
 refine rm rfl F13 fun _ F14 => ?_
 refine rn rfl rfl F14 rfl (.int .i64 ((sBy s).length : Int)) (z9 _ rfl (F14.get rfl) (M10.isZ (k := 0) rfl) (by rw [nmP_len])) fun _ F15 => ?_
 refine rn rfl rfl F15 rfl (.bool true) (zoa _ _ _ _ rfl (F15.get rfl) (F15.get rfl) (decide_eq_true (show (jn : Int) < ((sBy s).length : Int) by omega))) fun _ F16 => ?_
 refine hK12 _ _ (wp_cond_true (F16.get rfl) ?_)
 refine wp_skip ?_
 refine hK11 _ _ (zS fun _ hK17 => ?_)
 refine wp_block ?_
 refine zR ?_
 refine rm rfl F16 fun _ F18 => ?_
 refine rm rfl F18 fun _ F19 => ?_
 refine rm rfl F19 fun _ F20 => ?_
 refine rm rfl F20 fun _ F21 => ?_
 refine rn rfl rfl F21 rfl ((ixV (.slice A5 ((sBy s)).length c5) jn)) (zgb _ _ rfl (F21.get rfl) (M10.isZ (k := 0) rfl) (F21.get rfl) rfl (by rw [nmP_len]; omega)) fun _ F22 => ?_
 refine rn rfl rfl F22 rfl (.int .u8 ((x.toNat : Nat) : Int)) (zvb _ rfl (F22.get rfl) (M10.isZ (k := 0) rfl) hpx rfl) fun _ F23 => ?_
 refine rn rfl rfl F23 rfl (.int .i64 ((x.toNat : Nat) : Int)) (zxa _ _ _ rfl (F23.get rfl) Try.underlying5 Try.underlying3 (zta _)) fun _ F24 => ?_
 refine zd (za rfl) rfl F24 rfl rfl (zE Try.func22 rfl) #[.int .i64 ((x.toNat : Nat) : Int), .int .i64 94] (zea (F24.get rfl) rfl) (zh ((zo ((x.toNat : Nat) : Int) 94 (by omega) (by omega) (by omega) (by omega) w10))) ?_
 rintro _ w25 a25 ⟨rfl, rfl⟩ F25
 refine rn rfl rfl F25 rfl (.int .i64 (33 + (((x.toNat : Nat) : Int) % 94))) (zz _ _ _ _ rfl rfl (F25.get rfl) rfl (by omega)) fun _ F26 => ?_
 refine rn rfl rfl F26 rfl (.int .u8 (((zx (33 + (((x.toNat : Nat) : Int) % 94))).toNat : Nat) : Int)) (zxa _ _ _ rfl (F26.get rfl) Try.underlying3 Try.underlying5 (z3a _)) fun _ F27 => ?_
 refine rn rfl rfl F27 rfl ((ixV (.slice A5 ((sBy s)).length c5) jn)) (zgb _ _ rfl (F27.get rfl) (M10.isZ (k := 0) rfl) (F27.get rfl) rfl (by rw [nmP_len]; omega)) fun _ F28 => ?_
 refine wl_doM (za rfl) rfl F28 (run_setZ M10 (k := 0) rfl _ _ rfl (F28.get rfl) (zx (33 + (((x.toNat : Nat) : Int) % 94))) (F28.get rfl) rfl (by rw [nmP_len]; omega)) ?_
 intro w29 M29
 clear M10
 refine hK17 _ _ (zR ?_)
 refine rm rfl F28 fun _ F30 => ?_
 refine rn rfl rfl F30 rfl (.int .i64 ((jn + 1 : Nat) : Int)) (zz _ _ _ _ rfl (F30.get rfl) rfl (by omega) (by omega)) fun _ F31 => ?_
 refine rm rfl F31 fun _ F32 => ?_
 subst ek10
 exact hK10 _ (jn + 1) _ _ (by omega) ⟨rfl, (by omega)⟩ (F32.sub ⟨rfl, rfl, rfl, rfl, rfl, rfl, trivial⟩) (M29.sub ⟨(by rw [← hps]; rfl), trivial⟩)
end Go.Proofs.Ytlbkogdmojlpmaa
namespace Go.Proofs.Ytlbkogdmojlpmaa
open Go.ChangeShapes Go.WideShapes Go.ChangeAt Go.RowKit
theorem y_addW {a : Act} {w : World} {o : Oper} (ty tz : TypeId) (x y : Operand) {p q z : Int} (ho : o.op = .binOp .add ty x y tz) (hx : a.eval x = .int .i64 p) (hy : a.eval y = .int .i64 q) (hz : IntKind.i64.wrap (p + q) = z) : (execOp a.eval o).run Try.prog w = .ok (.value (.int .i64 z)) w := by
  subst hz; unfold execOp; simp only [ho, hx, hy]; simp [go_sem]
theorem byteI_wrap64 (z : Int) : IntKind.u8.wrap (IntKind.i64.wrap z) = (((zx z).toNat : Nat) : Int) := by
  rw [zcc, IntKind.wrap_u8, IntKind.wrap_i64]; omega
def smC (b : List UInt8) (n : Int) (j : Nat) : UInt8 := (b[j]?).getD (zx (n + (j : Int) * 7))
def zw (b : List UInt8) (n : Int) (K : Nat) : List UInt8 := (List.range K).map (smC b n)
def smP (b : List UInt8) (n : Int) (K j : Nat) : List UInt8 := (List.range j).map (smC b n) ++ List.replicate (K - j) 0
theorem smP_zero (b : List UInt8) (n : Int) (K : Nat) : smP b n K 0 = List.replicate K 0 := by simp [smP]
theorem smP_all (b : List UInt8) (n : Int) (K : Nat) : smP b n K K = zw b n K := by simp [smP, zw]
theorem smP_len (b : List UInt8) (n : Int) {K j : Nat} (h : j ≤ K) : (smP b n K j).length = K := by simp [smP]; omega
theorem smP_set (b : List UInt8) (n : Int) {K j : Nat} (h : j < K) : (smP b n K j).set j (smC b n j) = smP b n K (j + 1) := by
  unfold smP
  rw [List.set_append_right _ _ (by simp), List.length_map, List.length_range, Nat.sub_self, List.range_succ, List.map_append, List.append_assoc]
  congr 1
  rw [show K - j = (K - (j + 1)) + 1 by omega, List.replicate_succ]
  rfl
theorem smP_out {b : List UInt8} {n : Int} {K j : Nat} (hb : ¬ j < b.length) (h : j < K) : (smP b n K j).set j (zx (n + (j : Int) * 7)) = smP b n K (j + 1) := by
  rw [← smP_set b n h, smC, List.getElem?_eq_none (by omega)]; rfl
theorem smP_in {b : List UInt8} {n : Int} {K j : Nat} {x : UInt8} (hb : b[j]? = some x) (h : j < K) : ((smP b n K j).set j (zx (n + (j : Int) * 7))).set j x = smP b n K (j + 1) := by
  rw [List.set_set, ← smP_set b n h, smC, hb]; rfl
theorem zac (b : List UInt8) (v : Value) (n most : Int) (K : Nat) (hK : 1 + n % most = (K : Int)) (h0 : 0 < most) (h1 : most ≤ 1000) (hn : -9223372036854775808 ≤ n ∧ n < 9223372036854775808) (w : World) (hv : IsB w b v) :
  Calls Try.prog 43 #[v, .int .i64 n, .int .i64 most] w fun e w' => ∃ v, e = .returned v ∧ Byt w' w.heap.size v (zw b n K) ∧ Below w.heap.size w w' := by
 have hKm : K ≤ 1000 := by have := Int.emod_lt_of_pos n h0; omega
 have hm0 := Int.emod_nonneg n (show most ≠ 0 by omega)
 have hm1 := Int.emod_lt_of_pos n h0
 refine zg (args := [v, .int .i64 n, .int .i64 most]) 41 Try.func43 rfl rfl rfl ?_
 intro fa F
 have M := Mx.start w
 replace M := M.argB 0 hv (fun g e => by cases e)
 refine zT fun _ hK1 => ?_
 refine rm rfl F fun _ F2 => ?_
 refine hK1 _ _ (zS fun _ hK3 => ?_)
 refine zR ?_
 refine rm rfl F2 fun _ F4 => ?_
 refine rm rfl F4 fun _ F5 => ?_
 refine zd (za rfl) rfl F5 rfl rfl (zE Try.func22 rfl) #[.int .i64 n, .int .i64 most] (zea (F5.get rfl) (F5.get rfl)) (zh ((zo n most (by omega) (by omega) hn.1 hn.2 w))) ?_
 rintro _ w6 a6 ⟨rfl, rfl⟩ F6
 refine rn rfl rfl F6 rfl (.int .i64 (K : Int)) (zz _ _ _ _ rfl rfl (F6.get rfl) hK (by omega)) fun _ F7 => ?_
 refine rm rfl F7 fun _ F8 => ?_
 refine hK3 _ _ (zS fun _ hK9 => ?_)
 refine zR ?_
 refine rm rfl F8 fun _ F10 => ?_
 refine zba (za rfl) rfl F10 rfl (run_makeO M 1 _ _ rfl K (F10.get rfl) (F10.get rfl) rfl (by omega)) ?_
 intro v11 a11 w11 F11 M11
 clear F10 M
 obtain ⟨A11, c11, rfl⟩ := (M11.isO (k := 1) rfl).shape
 refine rm rfl F11 fun _ F12 => ?_
 refine hK9 _ _ (zS fun _ hK13 => ?_)
 refine zT fun _ hK14 => ?_
 refine rm rfl F12 fun _ F15 => ?_
 refine hK14 _ _ (wp_block ?_)
 have hz := smP_zero b n K
 refine zzb (α := Nat) (n := 41) (G := none) (w0 := w) (fun x => [(0, v), (1, .int .i64 n), (2, .int .i64 most), (7, .int .i64 (K : Int)), (9, .int .i64 (x : Int)), (8, .slice A11 ((List.replicate K (0 : UInt8))).length c11)]) (fun x => [(0, bytR b v), (1, ownR (smP b n K x) (.slice A11 ((List.replicate K (0 : UInt8))).length c11))]) (fun k x => k = (K - x) ∧ (x ≤ K)) _ 0 ⟨rfl, (Nat.zero_le _)⟩ (F15.sub ⟨rfl, rfl, rfl, rfl, rfl, rfl, trivial⟩) (M11.sub ⟨rfl, (by rw [hz]; rfl), trivial⟩) ?_
 clear F15 M11
 rintro k16 jn a16 w16 K16 ⟨ek16, I16⟩ F16 M16 hK16
 replace F16 : Fx 41 a16 [(0, v), (1, .int .i64 n), (2, .int .i64 most), (7, .int .i64 (K : Int)), (9, .int .i64 (jn : Int)), (8, .slice A11 ((List.replicate K (0 : UInt8))).length c11)] := F16
 replace M16 : Mx _ _ w16 [(0, bytR b v), (1, ownR (smP b n K jn) (.slice A11 ((List.replicate K (0 : UInt8))).length c11))] := M16
 replace I16 : jn ≤ K := I16
 replace ek16 : k16 = (K - jn) := ek16
 by_cases hlt : jn < K
 rotate_left
 ·obtain rfl : jn = K := by omega
  refine zS fun _ hK73 => zS fun _ hK74 => ?_
  refine zR ?_
  refine rm rfl F16 fun _ F75 => ?_
  refine rm rfl F75 fun _ F76 => ?_
  refine rn rfl rfl F76 rfl (.bool false) (zoa _ _ _ _ rfl (F76.get rfl) (F76.get rfl) (decide_eq_false (Int.lt_irrefl _))) fun _ F77 => ?_
  refine hK74 _ _ (wp_cond_false (F77.get rfl) ?_)
  refine wp_exit ?_
  simp only [Exit.then, Exit.inBlock, ↓reduceIte, Nat.reduceEqDiff]
  refine hK13 _ _ (zS fun _ hK78 => ?_)
  refine zR ?_
  refine rm rfl F77 fun _ F79 => ?_
  refine rm rfl F79 fun _ F80 => ?_
  refine hK78 _ _ (wp_ret ?_)
  try simp only [Exit.then, Exit.inBlock, Exit.jump]
  exact bodyPost_ret (res1 rfl (F80.get rfl)) F80.defers ⟨_, rfl, (by rw [← smP_all b n jn]; exact M16.byt (k := 1) rfl), M16.below⟩
 have hpl := smP_len b n (Nat.le_of_lt hlt)
 by_cases hb : jn < b.length
 rotate_left
 ·refine zS fun _ hK49 => ?_
  refine zT fun _ hK50 => ?_
  refine rm rfl F16 fun _ F51 => ?_
  refine rm rfl F51 fun _ F52 => ?_
  refine rn rfl rfl F52 rfl (.bool true) (zoa _ _ _ _ rfl (F52.get rfl) (F52.get rfl) (decide_eq_true (show (jn : Int) < (K : Int) by omega))) fun _ F53 => ?_
  refine hK50 _ _ (wp_cond_true (F53.get rfl) ?_)
  refine wp_skip ?_
  refine hK49 _ _ (zS fun _ hK54 => ?_)
  refine wp_block ?_
  refine zT fun _ hK55 => ?_
  refine rm rfl F53 fun _ F56 => ?_
  refine rm rfl F56 fun _ F57 => ?_
  refine rm rfl F57 fun _ F58 => ?_
  refine rm rfl F58 fun _ F59 => ?_
  refine rn rfl rfl F59 rfl (.int .i64 ((jn : Int) * 7)) (y_mulI _ _ _ _ rfl (F59.get rfl) rfl rfl (by omega)) fun _ F60 => ?_
  refine rn rfl rfl F60 rfl (.int .i64 (IntKind.i64.wrap (n + ((jn : Int) * 7)))) (y_addW _ _ _ _ rfl (F60.get rfl) (F60.get rfl) rfl) fun _ F61 => ?_
  refine rn rfl rfl F61 rfl (.int .u8 (((zx (n + ((jn : Int) * 7))).toNat : Nat) : Int)) (zxa _ _ _ rfl (F61.get rfl) Try.underlying3 Try.underlying5 (byteI_wrap64 _)) fun _ F62 => ?_
  refine rn rfl rfl F62 rfl ((ixV (.slice A11 ((List.replicate K (0 : UInt8))).length c11) jn)) (zgb _ _ rfl (F62.get rfl) (M16.isO (k := 1) rfl) (F62.get rfl) rfl (by first | omega | (rw [hpl]; omega) | (rw [List.length_set, hpl]; omega))) fun _ F63 => ?_
  refine wl_doM (za rfl) rfl F63 (run_setO M16 (k := 1) rfl _ _ rfl (F63.get rfl) (zx (n + ((jn : Int) * 7))) (F63.get rfl) rfl (by first | (rw [hpl]; omega) | (rw [List.length_set, hpl]; omega))) ?_
  intro w64 M64
  clear M16
  refine hK55 _ _ (zS fun _ hK65 => ?_)
  refine zR ?_
  refine rm rfl F63 fun _ F66 => ?_
  refine rm rfl F66 fun _ F67 => ?_
  refine rn rfl rfl F67 rfl (.int .i64 (b.length : Int)) (z9 _ rfl (F67.get rfl) (M64.isb (k := 0) rfl) rfl) fun _ F68 => ?_
  refine rn rfl rfl F68 rfl (.bool false) (zoa _ _ _ _ rfl (F68.get rfl) (F68.get rfl) (decide_eq_false (show ¬ (jn : Int) < (b.length : Int) by omega))) fun _ F69 => ?_
  refine hK65 _ _ (wp_cond_false (F69.get rfl) ?_)
  refine wp_skip ?_
  refine hK54 _ _ (zR ?_)
  refine rm rfl F69 fun _ F70 => ?_
  refine rn rfl rfl F70 rfl (.int .i64 ((jn + 1 : Nat) : Int)) (zz _ _ _ _ rfl (F70.get rfl) rfl (by omega) (by omega)) fun _ F71 => ?_
  refine rm rfl F71 fun _ F72 => ?_
  subst ek16
  exact hK16 _ (jn + 1) _ _ (by omega) ⟨rfl, (by omega)⟩ (F72.sub ⟨rfl, rfl, rfl, rfl, rfl, rfl, trivial⟩) (M64.sub ⟨rfl, (by rw [← smP_out hb hlt]; rfl), trivial⟩)
 obtain ⟨x, hx⟩ : ∃ x, b[jn]? = some x := ⟨_, List.getElem?_eq_getElem hb⟩
 refine zS fun _ hK17 => zS fun _ hK18 => ?_
 refine zR ?_
 refine rm rfl F16 fun _ F19 => ?_
 refine rm rfl F19 fun _ F20 => ?_
 refine rn rfl rfl F20 rfl (.bool true) (zoa _ _ _ _ rfl (F20.get rfl) (F20.get rfl) (decide_eq_true (show (jn : Int) < (K : Int) by omega))) fun _ F21 => ?_
 refine hK18 _ _ (wp_cond_true (F21.get rfl) ?_)
 refine wp_skip ?_
 refine hK17 _ _ (zS fun _ hK22 => ?_)
 refine wp_block ?_
 refine zT fun _ hK23 => ?_
 refine rm rfl F21 fun _ F24 => ?_
 refine rm rfl F24 fun _ F25 => ?_
 refine rm rfl F25 fun _ F26 => ?_
 refine rm rfl F26 fun _ F27 => ?_
 refine rn rfl rfl F27 rfl (.int .i64 ((jn : Int) * 7)) (y_mulI _ _ _ _ rfl (F27.get rfl) rfl rfl (by omega)) fun _ F28 => ?_
 refine rn rfl rfl F28 rfl (.int .i64 (IntKind.i64.wrap (n + ((jn : Int) * 7)))) (y_addW _ _ _ _ rfl (F28.get rfl) (F28.get rfl) rfl) fun _ F29 => ?_
 refine rn rfl rfl F29 rfl (.int .u8 (((zx (n + ((jn : Int) * 7))).toNat : Nat) : Int)) (zxa _ _ _ rfl (F29.get rfl) Try.underlying3 Try.underlying5 (byteI_wrap64 _)) fun _ F30 => ?_
 refine rn rfl rfl F30 rfl ((ixV (.slice A11 ((List.replicate K (0 : UInt8))).length c11) jn)) (zgb _ _ rfl (F30.get rfl) (M16.isO (k := 1) rfl) (F30.get rfl) rfl (by first | omega | (rw [hpl]; omega) | (rw [List.length_set, hpl]; omega))) fun _ F31 => ?_
 refine wl_doM (za rfl) rfl F31 (run_setO M16 (k := 1) rfl _ _ rfl (F31.get rfl) (zx (n + ((jn : Int) * 7))) (F31.get rfl) rfl (by first | (rw [hpl]; omega) | (rw [List.length_set, hpl]; omega))) ?_
 intro w32 M32
 clear M16
 refine hK23 _ _ (zS fun _ hK33 => ?_)
 refine zR ?_
 refine rm rfl F31 fun _ F34 => ?_
 refine rm rfl F34 fun _ F35 => ?_
 refine rn rfl rfl F35 rfl (.int .i64 (b.length : Int)) (z9 _ rfl (F35.get rfl) (M32.isb (k := 0) rfl) rfl) fun _ F36 => ?_
 refine rn rfl rfl F36 rfl (.bool true) (zoa _ _ _ _ rfl (F36.get rfl) (F36.get rfl) (decide_eq_true (show (jn : Int) < (b.length : Int) by omega))) fun _ F37 => ?_
 refine hK33 _ _ (wp_cond_true (F37.get rfl) ?_)
 refine zR ?_
 refine rm rfl F37 fun _ F38 => ?_
 refine rm rfl F38 fun _ F39 => ?_
 refine rm rfl F39 fun _ F40 => ?_
 refine rm rfl F40 fun _ F41 => ?_
 refine rn rfl rfl F41 rfl ((ixV (v) jn)) (zgb _ _ rfl (F41.get rfl) (M32.isb (k := 0) rfl) (F41.get rfl) rfl (by first | omega | (rw [hpl]; omega) | (rw [List.length_set, hpl]; omega))) fun _ F42 => ?_
 refine rn rfl rfl F42 rfl (.int .u8 ((x.toNat : Nat) : Int)) (zvb _ rfl (F42.get rfl) (M32.isb (k := 0) rfl) hx rfl) fun _ F43 => ?_
 refine rn rfl rfl F43 rfl ((ixV (.slice A11 ((List.replicate K (0 : UInt8))).length c11) jn)) (zgb _ _ rfl (F43.get rfl) (M32.isO (k := 1) rfl) (F43.get rfl) rfl (by first | omega | (rw [hpl]; omega) | (rw [List.length_set, hpl]; omega))) fun _ F44 => ?_
 refine wl_doM (za rfl) rfl F44 (run_setO M32 (k := 1) rfl _ _ rfl (F44.get rfl) x (F44.get rfl) rfl (by first | (rw [hpl]; omega) | (rw [List.length_set, hpl]; omega))) ?_
 intro w45 M45
 clear M32
 refine hK22 _ _ (zR ?_)
 refine rm rfl F44 fun _ F46 => ?_
 refine rn rfl rfl F46 rfl (.int .i64 ((jn + 1 : Nat) : Int)) (zz _ _ _ _ rfl (F46.get rfl) rfl (by omega) (by omega)) fun _ F47 => ?_
 refine rm rfl F47 fun _ F48 => ?_
 subst ek16
 exact hK16 _ (jn + 1) _ _ (by omega) ⟨rfl, (by omega)⟩ (F48.sub ⟨rfl, rfl, rfl, rfl, rfl, rfl, trivial⟩) (M45.sub ⟨rfl, (by rw [← smP_in hx hlt]; rfl), trivial⟩)
end Go.Proofs.Ytlbkogdmojlpmaa
