/- What WireOwn stands on, part 10. -/
import Derived.Test.YtlbkogdmojlpmaaWireOwnP1
import Derived.Test.YtlbkogdmojlpmaaWireOwnP2
import Derived.Test.YtlbkogdmojlpmaaWireOwnP3
import Derived.Test.YtlbkogdmojlpmaaWireOwnP4
import Derived.Test.YtlbkogdmojlpmaaWireOwnP5
import Derived.Test.YtlbkogdmojlpmaaWireOwnP6
import Derived.Test.YtlbkogdmojlpmaaWireOwnP7
import Derived.Test.YtlbkogdmojlpmaaWireOwnP8
import Derived.Test.YtlbkogdmojlpmaaWireOwnP9
set_option maxRecDepth 100000
set_option maxHeartbeats 8000000
set_option linter.unusedVariables false
set_option linter.unusedSimpArgs false
namespace Go.Proofs.Ytlbkogdmojlpmaa
open Go.ChangeShapes Go.WideShapes Go.ChangeAt Go.RowKit
def mkR (n : Int) (s : ByteArray) (b : List UInt8) : RecN :=
  ⟨1 + n % 2, nmB s, b.take (n % ((min b.length 16 + 1 : Nat) : Int)).toNat, ((n.tdiv 2) % 4294967296).toNat, ((n.tdiv 7) % 4294967296).toNat, b.take ((n.tdiv 3) % ((min b.length 48 + 1 : Nat) : Int)).toNat, (n.tdiv 11) % 6, (n.tdiv 13) % 1000, (n.tdiv 17) % 1099511627776⟩
theorem make_rec (n : Int) (s : ByteArray) (b : List UInt8) (v : Value) (hN : -9223372036854775808 ≤ n ∧ n < 9223372036854775808) (hs : s.size ≤ 40) (hbl : b.length ≤ 1000) (w : World) (hv : IsB w b v) :
  Calls Try.prog 34 #[.int .i64 n, .string s, v] w fun e w' => ∃ t, e = .returned t ∧ ∃ V, t = .agg (recA (mkR n s b) V) ∧ RecIs w' (mkR n s b) V ∧ (∀ g, bfp V.v2 g ∨ bfp V.v5 g → w.heap.size ≤ g) ∧ Below w.heap.size w w' := by
 obtain ⟨K2, hK2⟩ : ∃ K : Nat, n % ((min b.length 16 + 1 : Nat) : Int) = (K : Int) := ⟨(n % ((min b.length 16 + 1 : Nat) : Int)).toNat, (Int.toNat_of_nonneg (Int.emod_nonneg _ (by omega))).symm⟩
 obtain ⟨K5, hK5⟩ : ∃ K : Nat, (n.tdiv 3) % ((min b.length 48 + 1 : Nat) : Int) = (K : Int) := ⟨((n.tdiv 3) % ((min b.length 48 + 1 : Nat) : Int)).toNat, (Int.toNat_of_nonneg (Int.emod_nonneg _ (by omega))).symm⟩
 have hK2l := Int.emod_lt_of_pos n (show 0 < ((min b.length 16 + 1 : Nat) : Int) by omega)
 have hK5l := Int.emod_lt_of_pos (n.tdiv 3) (show 0 < ((min b.length 48 + 1 : Nat) : Int) by omega)
 have hK2b : K2 ≤ b.length := by omega
 have hK5b : K5 ≤ b.length := by omega
 refine zi (args := [.int .i64 n, .string s, v]) 57 Try.func34 rfl rfl rfl ?_
 intro fa F
 have M := Mx.start w
 replace M := M.argB 0 hv (fun g e => by cases e)
 refine zT fun _ hK1 => ?_
 refine zg (za rfl) rfl F rfl M 1 (t := 54) (c := recA ⟨0, "".toUTF8, [], 0, 0, [], 0, 0, 0⟩ ⟨zN, zN⟩) (by unfold execOp; kernel_rfl) ?_
 intro g2 a2 w2 F2 M2
 clear F M
 refine hK1 _ _ (zS fun _ hK3 => ?_)
 refine zR ?_
 refine rm rfl F2 fun _ F4 => ?_
 refine zd (za rfl) rfl F4 rfl rfl (zE Try.func22 rfl) #[.int .i64 n, .int .i64 2] (z4 (F4.get rfl) rfl) (zf ((zj n 2 (by omega) (by omega) hN.1 hN.2 w2))) ?_
 rintro _ w5 a5 ⟨rfl, rfl⟩ F5
 refine rn rfl rfl F5 rfl (.int .i64 (1 + (n % 2))) (zy _ _ _ _ rfl rfl (F5.get rfl) rfl (by omega)) fun _ F6 => ?_
 refine rm rfl F6 fun _ F7 => ?_
 refine zd (za rfl) rfl F7 rfl rfl (zE Try.func42 rfl) #[.string s] (zw (F7.get rfl)) (zf ((lname_any s hs w2))) ?_
 rintro _ w8 a8 ⟨rfl, b8⟩ F8
 have M8 := M2.step b8
 refine rm rfl F8 fun _ F9 => ?_
 refine rn rfl rfl F9 rfl (.int .i64 (n.tdiv 2)) (z1a _ _ _ _ rfl (F9.get rfl) rfl hN (by decide) rfl) fun _ F10 => ?_
 refine zd (za rfl) rfl F10 rfl rfl (zE Try.func22 rfl) #[.int .i64 (n.tdiv 2), .int .i64 4294967296] (z4 (F10.get rfl) rfl) (zf ((zj (n.tdiv 2) 4294967296 (by omega) (by omega) (z6a hN (show (0 : Int) < 2 by decide)).1 (z6a hN (show (0 : Int) < 2 by decide)).2 w8))) ?_
 rintro _ w11 a11 ⟨rfl, rfl⟩ F11
 refine zd (za rfl) rfl F11 rfl rfl (zE Try.func24 rfl) #[.int .i64 ((n.tdiv 2) % 4294967296)] (zw (F11.get rfl)) (zf ((zea ((n.tdiv 2) % 4294967296) (by omega) (by omega) w8))) ?_
 rintro _ w12 a12 ⟨rfl, b12⟩ F12
 have M12 := M8.step b12
 refine rm rfl F12 fun _ F13 => ?_
 refine rn rfl rfl F13 rfl (.int .i64 (n.tdiv 7)) (z1a _ _ _ _ rfl (F13.get rfl) rfl hN (by decide) rfl) fun _ F14 => ?_
 refine zd (za rfl) rfl F14 rfl rfl (zE Try.func22 rfl) #[.int .i64 (n.tdiv 7), .int .i64 4294967296] (z4 (F14.get rfl) rfl) (zf ((zj (n.tdiv 7) 4294967296 (by omega) (by omega) (z6a hN (show (0 : Int) < 7 by decide)).1 (z6a hN (show (0 : Int) < 7 by decide)).2 w12))) ?_
 rintro _ w15 a15 ⟨rfl, rfl⟩ F15
 refine zd (za rfl) rfl F15 rfl rfl (zE Try.func24 rfl) #[.int .i64 ((n.tdiv 7) % 4294967296)] (zw (F15.get rfl)) (zf ((zea ((n.tdiv 7) % 4294967296) (by omega) (by omega) w12))) ?_
 rintro _ w16 a16 ⟨rfl, b16⟩ F16
 have M16 := M12.step b16
 refine rm rfl F16 fun _ F17 => ?_
 refine rn rfl rfl F17 rfl (.int .i64 (n.tdiv 11)) (z1a _ _ _ _ rfl (F17.get rfl) rfl hN (by decide) rfl) fun _ F18 => ?_
 refine zd (za rfl) rfl F18 rfl rfl (zE Try.func22 rfl) #[.int .i64 (n.tdiv 11), .int .i64 6] (z4 (F18.get rfl) rfl) (zf ((zj (n.tdiv 11) 6 (by omega) (by omega) (z6a hN (show (0 : Int) < 11 by decide)).1 (z6a hN (show (0 : Int) < 11 by decide)).2 w16))) ?_
 rintro _ w19 a19 ⟨rfl, rfl⟩ F19
 refine rm rfl F19 fun _ F20 => ?_
 refine rn rfl rfl F20 rfl (.int .i64 (n.tdiv 13)) (z1a _ _ _ _ rfl (F20.get rfl) rfl hN (by decide) rfl) fun _ F21 => ?_
 refine zd (za rfl) rfl F21 rfl rfl (zE Try.func22 rfl) #[.int .i64 (n.tdiv 13), .int .i64 1000] (z4 (F21.get rfl) rfl) (zf ((zj (n.tdiv 13) 1000 (by omega) (by omega) (z6a hN (show (0 : Int) < 13 by decide)).1 (z6a hN (show (0 : Int) < 13 by decide)).2 w16))) ?_
 rintro _ w22 a22 ⟨rfl, rfl⟩ F22
 refine rm rfl F22 fun _ F23 => ?_
 refine rn rfl rfl F23 rfl (.int .i64 (n.tdiv 17)) (z1a _ _ _ _ rfl (F23.get rfl) rfl hN (by decide) rfl) fun _ F24 => ?_
 refine zd (za rfl) rfl F24 rfl rfl (zE Try.func22 rfl) #[.int .i64 (n.tdiv 17), .int .i64 1099511627776] (z4 (F24.get rfl) rfl) (zf ((zj (n.tdiv 17) 1099511627776 (by omega) (by omega) (z6a hN (show (0 : Int) < 17 by decide)).1 (z6a hN (show (0 : Int) < 17 by decide)).2 w16))) ?_
 rintro _ w25 a25 ⟨rfl, rfl⟩ F25
 refine rn rfl rfl F25 rfl (.agg (recA ⟨1 + (n % 2), (nmB s), [], (((n.tdiv 2) % 4294967296)).toNat, (((n.tdiv 7) % 4294967296)).toNat, [], ((n.tdiv 11) % 6), ((n.tdiv 13) % 1000), ((n.tdiv 17) % 1099511627776)⟩ ⟨zN, zN⟩)) (by unfold execOp; simp only [List.map_toArray, List.map_cons, List.map_nil, (F25.get (t := 10) rfl), (F25.get (t := 12) rfl), (F25.get (t := 16) rfl), (F25.get (t := 20) rfl), (F25.get (t := 23) rfl), (F25.get (t := 26) rfl), (F25.get (t := 29) rfl)]; kernel_rfl) fun _ F26 => ?_
 refine zg (za rfl) rfl F26 rfl M16 2 (t := 54) (c := recA ⟨0, "".toUTF8, [], 0, 0, [], 0, 0, 0⟩ ⟨zN, zN⟩) (by unfold execOp; kernel_rfl) ?_
 intro g27 a27 w27 F27 M27
 clear F26 M16
 refine zl (za rfl) rfl F27 M27 (k := 2) rfl _ _ _ rfl (F27.get rfl) (F27.get rfl) (recA ⟨1 + (n % 2), (nmB s), [], (((n.tdiv 2) % 4294967296)).toNat, (((n.tdiv 7) % 4294967296)).toNat, [], ((n.tdiv 11) % 6), ((n.tdiv 13) % 1000), ((n.tdiv 17) % 1099511627776)⟩ ⟨zN, zN⟩) _ rfl (Nat.le_of_ble_eq_true rfl) (zmb (w := w27) ⟨(zc _), (zc _)⟩) (zu rfl) (by kernel_rfl) ?_
 intro w28 M28
 clear M27
 refine hK3 _ _ (zS fun _ hK29 => ?_)
 refine z9a F27 [fun vE => vE = .pointer (some ⟨g27, 2, none⟩), fun vE => vE = zN, fun vE => vE = v, fun vE => vE = .int .i64 n, fun vE => vE = v, fun vE => vE = .int .i64 (b.length : Int), fun vE => vE = .int .i64 ((min b.length 16 : Nat) : Int), fun vE => vE = .int .i64 ((min b.length 16 + 1 : Nat) : Int), fun vE => vE = .int .i64 (K2 : Int), fun _ => True] (JM none w fun SV pV => [(0, bytR b v), (1, blkR g2 54 (recA ⟨0, "".toUTF8, [], 0, 0, [], 0, 0, 0⟩ ⟨zN, zN⟩)), (2, blkR g27 54 (recA ⟨1 + (n % 2), (nmB s), [], (((n.tdiv 2) % 4294967296)).toNat, (((n.tdiv 7) % 4294967296)).toNat, [], ((n.tdiv 11) % 6), ((n.tdiv 13) % 1000), ((n.tdiv 17) % 1099511627776)⟩ ⟨zN, zN⟩)), (3, condR (SV 9) (bytR (b.take K2) (pV 9)))]) 10 rfl (by kernel_rfl) rfl ⟨trivial, trivial, trivial, trivial, trivial, trivial, trivial, trivial, trivial, trivial, trivial⟩ (fun p => ((M28.step (zva _)).triv 3).sub ⟨rfl, rfl, rfl, rfl, trivial⟩) ⟨?_, ?_, ?_, ?_, ?_, ?_, ?_, ?_, ?_, ?_, trivial⟩ ?_
 ·intro ua uw SV pV M0 hk hn hd
  have M : Mx none w uw _ := M0
  clear M0
  have e7 : ua.eval (.tmp 7) = .pointer (some ⟨g27, 0, none⟩) := (show ua.eval (.tmp 7) = _ from hd 7 (by decide)).trans (F27.get (t := 7) rfl)
  exact zn (za rfl) (.pointer (some ⟨g27, 2, none⟩)) (y_fa (off := 2) rfl e7 (by kernel_rfl) rfl) rfl (M.sub ⟨rfl, rfl, rfl, rfl, trivial⟩)
 ·intro ua uw SV pV M0 hk hn hd
  have M : Mx none w uw _ := M0
  clear M0
  obtain ⟨s0, f31, q31⟩ := (show SV 0 = true ∧ ua.eval (.tmp 31) = pV 0 ∧ stE _ 0 (pV 0) from hd 31 (by decide))
  have e31 : ua.eval (.tmp 31) = .pointer (some ⟨g27, 2, none⟩) := f31.trans q31
  exact zn (za rfl) (zN) (y_ld1 _ _ rfl e31 (M.blk (k := 2) rfl) rfl Try.underlying22 rfl) rfl (M.sub ⟨rfl, rfl, rfl, rfl, trivial⟩)
 ·intro ua uw SV pV M0 hk hn hd
  have M : Mx none w uw _ := M0
  clear M0
  have e2 : ua.eval (.tmp 2) = v := (show ua.eval (.tmp 2) = _ from hd 2 (by decide)).trans (F27.get (t := 2) rfl)
  exact zn (za rfl) (v) (zka _ (.inl rfl) e2) rfl (M.sub ⟨rfl, rfl, rfl, rfl, trivial⟩)
 ·intro ua uw SV pV M0 hk hn hd
  have M : Mx none w uw _ := M0
  clear M0
  have e0 : ua.eval (.tmp 0) = .int .i64 n := (show ua.eval (.tmp 0) = _ from hd 0 (by decide)).trans (F27.get (t := 0) rfl)
  exact zn (za rfl) (.int .i64 n) (zka _ (.inl rfl) e0) rfl (M.sub ⟨rfl, rfl, rfl, rfl, trivial⟩)
 ·intro ua uw SV pV M0 hk hn hd
  have M : Mx none w uw _ := M0
  clear M0
  have e2 : ua.eval (.tmp 2) = v := (show ua.eval (.tmp 2) = _ from hd 2 (by decide)).trans (F27.get (t := 2) rfl)
  exact zn (za rfl) (v) (zka _ (.inl rfl) e2) rfl (M.sub ⟨rfl, rfl, rfl, rfl, trivial⟩)
 ·intro ua uw SV pV M0 hk hn hd
  have M : Mx none w uw _ := M0
  clear M0
  obtain ⟨s4, f35, q35⟩ := (show SV 4 = true ∧ ua.eval (.tmp 35) = pV 4 ∧ stE _ 4 (pV 4) from hd 35 (by decide))
  have e35 : ua.eval (.tmp 35) = v := f35.trans q35
  exact zn (za rfl) (.int .i64 (b.length : Int)) (zda _ rfl e35 (M.isb (k := 0) rfl) rfl) rfl (M.sub ⟨rfl, rfl, rfl, rfl, trivial⟩)
 ·intro ua uw SV pV M0 hk hn hd
  have M : Mx none w uw _ := M0
  clear M0
  obtain ⟨s5, f36, q36⟩ := (show SV 5 = true ∧ ua.eval (.tmp 36) = pV 5 ∧ stE _ 5 (pV 5) from hd 36 (by decide))
  have e36 : ua.eval (.tmp 36) = .int .i64 (b.length : Int) := f36.trans q36
  exact zn (za rfl) (.int .i64 ((min b.length 16 : Nat) : Int)) (y_min _ _ rfl e36 rfl (by split <;> omega)) rfl (M.sub ⟨rfl, rfl, rfl, rfl, trivial⟩)
 ·intro ua uw SV pV M0 hk hn hd
  have M : Mx none w uw _ := M0
  clear M0
  obtain ⟨s6, f37, q37⟩ := (show SV 6 = true ∧ ua.eval (.tmp 37) = pV 6 ∧ stE _ 6 (pV 6) from hd 37 (by decide))
  have e37 : ua.eval (.tmp 37) = .int .i64 ((min b.length 16 : Nat) : Int) := f37.trans q37
  exact zn (za rfl) (.int .i64 ((min b.length 16 + 1 : Nat) : Int)) (zy _ _ _ _ rfl e37 rfl (by omega) (by omega)) rfl (M.sub ⟨rfl, rfl, rfl, rfl, trivial⟩)
 ·intro ua uw SV pV M0 hk hn hd
  have M : Mx none w uw _ := M0
  clear M0
  obtain ⟨s3, f34, q34⟩ := (show SV 3 = true ∧ ua.eval (.tmp 34) = pV 3 ∧ stE _ 3 (pV 3) from hd 34 (by decide))
  have e34 : ua.eval (.tmp 34) = .int .i64 n := f34.trans q34
  obtain ⟨s7, f38, q38⟩ := (show SV 7 = true ∧ ua.eval (.tmp 38) = pV 7 ∧ stE _ 7 (pV 7) from hd 38 (by decide))
  have e38 : ua.eval (.tmp 38) = .int .i64 ((min b.length 16 + 1 : Nat) : Int) := f38.trans q38
  exact z3a (za rfl) rfl #[.int .i64 n, .int .i64 ((min b.length 16 + 1 : Nat) : Int)] (z4 e34 e38) (zE Try.func22 rfl) (((same_eq ((hK2 ▸ zj n ((min b.length 16 + 1 : Nat) : Int) (by omega) (by omega) hN.1 hN.2 uw)))).mono fun e w2 h => ⟨_, h.1, rfl, (M.step h.2).sub ⟨rfl, rfl, rfl, rfl, trivial⟩⟩)
 ·intro ua uw SV pV M0 hk hn hd
  have M : Mx none w uw _ := M0
  clear M0
  obtain ⟨s2, f33, q33⟩ := (show SV 2 = true ∧ ua.eval (.tmp 33) = pV 2 ∧ stE _ 2 (pV 2) from hd 33 (by decide))
  have e33 : ua.eval (.tmp 33) = v := f33.trans q33
  obtain ⟨s8, f39, q39⟩ := (show SV 8 = true ∧ ua.eval (.tmp 39) = pV 8 ∧ stE _ 8 (pV 8) from hd 39 (by decide))
  have e39 : ua.eval (.tmp 39) = .int .i64 (K2 : Int) := f39.trans q39
  exact hopM_exE (za rfl) (y_slTo _ _ rfl e33 (M.isb (k := 0) rfl) e39 (j := K2) rfl hK2b) fun v h => ⟨trivial, (M.partB 3 (k := 0) rfl h.1 h.2).sub ⟨rfl, rfl, rfl, rfl, trivial⟩⟩
 intro p30 a30 w30 M30 G30 y30
 obtain ⟨-, q1, -, -, -, -, -, -, -, q9, -⟩ := y30
 have r1 : p30 1 = zN := q1
 replace M30 : Mx _ _ w30 [(0, bytR b v), (1, blkR g2 54 (recA ⟨0, "".toUTF8, [], 0, 0, [], 0, 0, 0⟩ ⟨zN, zN⟩)), (2, blkR g27 54 (recA ⟨1 + (n % 2), (nmB s), [], (((n.tdiv 2) % 4294967296)).toNat, (((n.tdiv 7) % 4294967296)).toNat, [], ((n.tdiv 11) % 6), ((n.tdiv 13) % 1000), ((n.tdiv 17) % 1099511627776)⟩ ⟨zN, zN⟩)), (3, condR true (bytR (b.take K2) (p30 9)))] := M30
 simp only [List.take_succ_cons, List.take_zero, layV, Nat.zero_add, Nat.reduceAdd, r1] at G30
 obtain ⟨Ap30_3, cp30_3, hp30_3⟩ := (M30.isb (k := 3) rfl).shape
 rw [hp30_3] at M30
 try rw [hp30_3] at G30
 have M31 := M30.nilO 4
 clear M30
 refine zpa (za rfl) rfl G30 rfl (run_app M31 (k := 4) rfl _ _ rfl (G30.get rfl) (G30.get rfl) (M31.isb (k := 3) rfl) (by simp only [List.length_nil, List.length_take]; omega)) ?_
 intro v32 a32 w32 F32 M32
 clear G30 M31
 obtain ⟨A32, c32, rfl⟩ := (M32.isO (k := 4) rfl).shape
 refine rn rfl rfl F32 rfl (.pointer (some ⟨g27, 2, none⟩)) (y_fa (off := 2) rfl (F32.get rfl) (by kernel_rfl) rfl) fun _ F33 => ?_
 refine zl (za rfl) rfl F33 M32 (k := 2) rfl _ _ _ rfl (F33.get rfl) (F33.get rfl) (#[.slice A32 (([] ++ (b.take K2))).length c32]) (recA ⟨1 + (n % 2), (nmB s), ([] ++ (b.take K2)), (((n.tdiv 2) % 4294967296)).toNat, (((n.tdiv 7) % 4294967296)).toNat, [], ((n.tdiv 11) % 6), ((n.tdiv 13) % 1000), ((n.tdiv 17) % 1099511627776)⟩ ⟨.slice A32 (([] ++ (b.take K2))).length c32, zN⟩) rfl (Nat.le_of_ble_eq_true rfl) (z4a (M32.isO (k := 4) rfl)) (by kernel_rfl) (by kernel_rfl) ?_
 intro w34 M34
 clear M32
 refine hK29 _ _ (zS fun _ hK35 => ?_)
 refine z9a F33 [fun vE => vE = .pointer (some ⟨g27, 19, none⟩), fun vE => vE = zN, fun vE => vE = v, fun vE => vE = .int .i64 n, fun vE => vE = .int .i64 (n.tdiv 3), fun vE => vE = v, fun vE => vE = .int .i64 (b.length : Int), fun vE => vE = .int .i64 ((min b.length 48 : Nat) : Int), fun vE => vE = .int .i64 ((min b.length 48 + 1 : Nat) : Int), fun vE => vE = .int .i64 (K5 : Int), fun _ => True] (JM none w fun SV pV => [(0, bytR b v), (1, blkR g2 54 (recA ⟨0, "".toUTF8, [], 0, 0, [], 0, 0, 0⟩ ⟨zN, zN⟩)), (2, blkR g27 54 (recA ⟨1 + (n % 2), (nmB s), ([] ++ (b.take K2)), (((n.tdiv 2) % 4294967296)).toNat, (((n.tdiv 7) % 4294967296)).toNat, [], ((n.tdiv 11) % 6), ((n.tdiv 13) % 1000), ((n.tdiv 17) % 1099511627776)⟩ ⟨.slice A32 (([] ++ (b.take K2))).length c32, zN⟩)), (3, bytR (b.take K2) (.slice Ap30_3 ((b.take K2)).length cp30_3)), (4, ownR ([] ++ (b.take K2)) (.slice A32 (([] ++ (b.take K2))).length c32)), (5, condR (SV 10) (bytR (b.take K5) (pV 10)))]) 11 rfl (by kernel_rfl) rfl ⟨trivial, trivial, trivial, trivial, trivial, trivial, trivial, trivial, trivial, trivial, trivial, trivial⟩ (fun p => ((M34.step (zva _)).triv 5).sub ⟨rfl, rfl, rfl, rfl, rfl, rfl, trivial⟩) ⟨?_, ?_, ?_, ?_, ?_, ?_, ?_, ?_, ?_, ?_, ?_, trivial⟩ ?_
 ·intro ua uw SV pV M0 hk hn hd
  have M : Mx none w uw _ := M0
  clear M0
  have e7 : ua.eval (.tmp 7) = .pointer (some ⟨g27, 0, none⟩) := (show ua.eval (.tmp 7) = _ from hd 7 (by decide)).trans (F33.get (t := 7) rfl)
  exact zn (za rfl) (.pointer (some ⟨g27, 19, none⟩)) (y_fa (off := 19) rfl e7 (by kernel_rfl) rfl) rfl (M.sub ⟨rfl, rfl, rfl, rfl, rfl, rfl, trivial⟩)
 ·intro ua uw SV pV M0 hk hn hd
  have M : Mx none w uw _ := M0
  clear M0
  obtain ⟨s0, f43, q43⟩ := (show SV 0 = true ∧ ua.eval (.tmp 43) = pV 0 ∧ stE _ 0 (pV 0) from hd 43 (by decide))
  have e43 : ua.eval (.tmp 43) = .pointer (some ⟨g27, 19, none⟩) := f43.trans q43
  exact zn (za rfl) (zN) (y_ld1 _ _ rfl e43 (M.blk (k := 2) rfl) rfl Try.underlying22 rfl) rfl (M.sub ⟨rfl, rfl, rfl, rfl, rfl, rfl, trivial⟩)
 ·intro ua uw SV pV M0 hk hn hd
  have M : Mx none w uw _ := M0
  clear M0
  have e2 : ua.eval (.tmp 2) = v := (show ua.eval (.tmp 2) = _ from hd 2 (by decide)).trans (F33.get (t := 2) rfl)
  exact zn (za rfl) (v) (zka _ (.inl rfl) e2) rfl (M.sub ⟨rfl, rfl, rfl, rfl, rfl, rfl, trivial⟩)
 ·intro ua uw SV pV M0 hk hn hd
  have M : Mx none w uw _ := M0
  clear M0
  have e0 : ua.eval (.tmp 0) = .int .i64 n := (show ua.eval (.tmp 0) = _ from hd 0 (by decide)).trans (F33.get (t := 0) rfl)
  exact zn (za rfl) (.int .i64 n) (zka _ (.inl rfl) e0) rfl (M.sub ⟨rfl, rfl, rfl, rfl, rfl, rfl, trivial⟩)
 ·intro ua uw SV pV M0 hk hn hd
  have M : Mx none w uw _ := M0
  clear M0
  obtain ⟨s3, f46, q46⟩ := (show SV 3 = true ∧ ua.eval (.tmp 46) = pV 3 ∧ stE _ 3 (pV 3) from hd 46 (by decide))
  have e46 : ua.eval (.tmp 46) = .int .i64 n := f46.trans q46
  exact zn (za rfl) (.int .i64 (n.tdiv 3)) (z1a _ _ _ _ rfl e46 rfl hN (by decide) rfl) rfl (M.sub ⟨rfl, rfl, rfl, rfl, rfl, rfl, trivial⟩)
 ·intro ua uw SV pV M0 hk hn hd
  have M : Mx none w uw _ := M0
  clear M0
  have e2 : ua.eval (.tmp 2) = v := (show ua.eval (.tmp 2) = _ from hd 2 (by decide)).trans (F33.get (t := 2) rfl)
  exact zn (za rfl) (v) (zka _ (.inl rfl) e2) rfl (M.sub ⟨rfl, rfl, rfl, rfl, rfl, rfl, trivial⟩)
 ·intro ua uw SV pV M0 hk hn hd
  have M : Mx none w uw _ := M0
  clear M0
  obtain ⟨s5, f48, q48⟩ := (show SV 5 = true ∧ ua.eval (.tmp 48) = pV 5 ∧ stE _ 5 (pV 5) from hd 48 (by decide))
  have e48 : ua.eval (.tmp 48) = v := f48.trans q48
  exact zn (za rfl) (.int .i64 (b.length : Int)) (zda _ rfl e48 (M.isb (k := 0) rfl) rfl) rfl (M.sub ⟨rfl, rfl, rfl, rfl, rfl, rfl, trivial⟩)
 ·intro ua uw SV pV M0 hk hn hd
  have M : Mx none w uw _ := M0
  clear M0
  obtain ⟨s6, f49, q49⟩ := (show SV 6 = true ∧ ua.eval (.tmp 49) = pV 6 ∧ stE _ 6 (pV 6) from hd 49 (by decide))
  have e49 : ua.eval (.tmp 49) = .int .i64 (b.length : Int) := f49.trans q49
  exact zn (za rfl) (.int .i64 ((min b.length 48 : Nat) : Int)) (y_min _ _ rfl e49 rfl (by split <;> omega)) rfl (M.sub ⟨rfl, rfl, rfl, rfl, rfl, rfl, trivial⟩)
 ·intro ua uw SV pV M0 hk hn hd
  have M : Mx none w uw _ := M0
  clear M0
  obtain ⟨s7, f50, q50⟩ := (show SV 7 = true ∧ ua.eval (.tmp 50) = pV 7 ∧ stE _ 7 (pV 7) from hd 50 (by decide))
  have e50 : ua.eval (.tmp 50) = .int .i64 ((min b.length 48 : Nat) : Int) := f50.trans q50
  exact zn (za rfl) (.int .i64 ((min b.length 48 + 1 : Nat) : Int)) (zy _ _ _ _ rfl e50 rfl (by omega) (by omega)) rfl (M.sub ⟨rfl, rfl, rfl, rfl, rfl, rfl, trivial⟩)
 ·intro ua uw SV pV M0 hk hn hd
  have M : Mx none w uw _ := M0
  clear M0
  obtain ⟨s4, f47, q47⟩ := (show SV 4 = true ∧ ua.eval (.tmp 47) = pV 4 ∧ stE _ 4 (pV 4) from hd 47 (by decide))
  have e47 : ua.eval (.tmp 47) = .int .i64 (n.tdiv 3) := f47.trans q47
  obtain ⟨s8, f51, q51⟩ := (show SV 8 = true ∧ ua.eval (.tmp 51) = pV 8 ∧ stE _ 8 (pV 8) from hd 51 (by decide))
  have e51 : ua.eval (.tmp 51) = .int .i64 ((min b.length 48 + 1 : Nat) : Int) := f51.trans q51
  exact z3a (za rfl) rfl #[.int .i64 (n.tdiv 3), .int .i64 ((min b.length 48 + 1 : Nat) : Int)] (z4 e47 e51) (zE Try.func22 rfl) (((same_eq ((hK5 ▸ zj (n.tdiv 3) ((min b.length 48 + 1 : Nat) : Int) (by omega) (by omega) (z6a hN (show (0 : Int) < 3 by decide)).1 (z6a hN (show (0 : Int) < 3 by decide)).2 uw)))).mono fun e w2 h => ⟨_, h.1, rfl, (M.step h.2).sub ⟨rfl, rfl, rfl, rfl, rfl, rfl, trivial⟩⟩)
 ·intro ua uw SV pV M0 hk hn hd
  have M : Mx none w uw _ := M0
  clear M0
  obtain ⟨s2, f45, q45⟩ := (show SV 2 = true ∧ ua.eval (.tmp 45) = pV 2 ∧ stE _ 2 (pV 2) from hd 45 (by decide))
  have e45 : ua.eval (.tmp 45) = v := f45.trans q45
  obtain ⟨s9, f52, q52⟩ := (show SV 9 = true ∧ ua.eval (.tmp 52) = pV 9 ∧ stE _ 9 (pV 9) from hd 52 (by decide))
  have e52 : ua.eval (.tmp 52) = .int .i64 (K5 : Int) := f52.trans q52
  exact hopM_exE (za rfl) (y_slTo _ _ rfl e45 (M.isb (k := 0) rfl) e52 (j := K5) rfl hK5b) fun v h => ⟨trivial, (M.partB 5 (k := 0) rfl h.1 h.2).sub ⟨rfl, rfl, rfl, rfl, rfl, rfl, trivial⟩⟩
 intro p36 a36 w36 M36 G36 y36
 obtain ⟨-, q1, -, -, -, -, -, -, -, -, q10, -⟩ := y36
 have r1 : p36 1 = zN := q1
 replace M36 : Mx _ _ w36 [(0, bytR b v), (1, blkR g2 54 (recA ⟨0, "".toUTF8, [], 0, 0, [], 0, 0, 0⟩ ⟨zN, zN⟩)), (2, blkR g27 54 (recA ⟨1 + (n % 2), (nmB s), ([] ++ (b.take K2)), (((n.tdiv 2) % 4294967296)).toNat, (((n.tdiv 7) % 4294967296)).toNat, [], ((n.tdiv 11) % 6), ((n.tdiv 13) % 1000), ((n.tdiv 17) % 1099511627776)⟩ ⟨.slice A32 (([] ++ (b.take K2))).length c32, zN⟩)), (3, bytR (b.take K2) (.slice Ap30_3 ((b.take K2)).length cp30_3)), (4, ownR ([] ++ (b.take K2)) (.slice A32 (([] ++ (b.take K2))).length c32)), (5, condR true (bytR (b.take K5) (p36 10)))] := M36
 simp only [List.take_succ_cons, List.take_zero, layV, Nat.zero_add, Nat.reduceAdd, r1] at G36
 obtain ⟨Ap36_5, cp36_5, hp36_5⟩ := (M36.isb (k := 5) rfl).shape
 rw [hp36_5] at M36
 try rw [hp36_5] at G36
 have M37 := M36.nilO 6
 clear M36
 refine zpa (za rfl) rfl G36 rfl (run_app M37 (k := 6) rfl _ _ rfl (G36.get rfl) (G36.get rfl) (M37.isb (k := 5) rfl) (by simp only [List.length_nil, List.length_take]; omega)) ?_
 intro v38 a38 w38 F38 M38
 clear G36 M37
 obtain ⟨A38, c38, rfl⟩ := (M38.isO (k := 6) rfl).shape
 refine rn rfl rfl F38 rfl (.pointer (some ⟨g27, 19, none⟩)) (y_fa (off := 19) rfl (F38.get rfl) (by kernel_rfl) rfl) fun _ F39 => ?_
 refine zl (za rfl) rfl F39 M38 (k := 2) rfl _ _ _ rfl (F39.get rfl) (F39.get rfl) (#[.slice A38 (([] ++ (b.take K5))).length c38]) (recA ⟨1 + (n % 2), (nmB s), ([] ++ (b.take K2)), (((n.tdiv 2) % 4294967296)).toNat, (((n.tdiv 7) % 4294967296)).toNat, ([] ++ (b.take K5)), ((n.tdiv 11) % 6), ((n.tdiv 13) % 1000), ((n.tdiv 17) % 1099511627776)⟩ ⟨.slice A32 (([] ++ (b.take K2))).length c32, .slice A38 (([] ++ (b.take K5))).length c38⟩) rfl (Nat.le_of_ble_eq_true rfl) (z4a (M38.isO (k := 6) rfl)) (by kernel_rfl) (by kernel_rfl) ?_
 intro w40 M40
 clear M38
 refine hK35 _ _ (zS fun _ hK41 => ?_)
 refine zR ?_
 refine rn rfl rfl F39 rfl _ (zja _ _ rfl (F39.get rfl) (M40.blk (k := 2) rfl) (recA ⟨1 + (n % 2), (nmB s), ([] ++ (b.take K2)), (((n.tdiv 2) % 4294967296)).toNat, (((n.tdiv 7) % 4294967296)).toNat, ([] ++ (b.take K5)), ((n.tdiv 11) % 6), ((n.tdiv 13) % 1000), ((n.tdiv 17) % 1099511627776)⟩ ⟨.slice A32 (([] ++ (b.take K2))).length c32, .slice A38 (([] ++ (b.take K5))).length c38⟩) (zla rfl) Try.underlying54 rfl (by kernel_rfl)) fun _ F42 => ?_
 refine zl (za rfl) rfl F42 M40 (k := 1) rfl _ _ _ rfl (F42.get rfl) (F42.get rfl) (recA ⟨1 + (n % 2), (nmB s), ([] ++ (b.take K2)), (((n.tdiv 2) % 4294967296)).toNat, (((n.tdiv 7) % 4294967296)).toNat, ([] ++ (b.take K5)), ((n.tdiv 11) % 6), ((n.tdiv 13) % 1000), ((n.tdiv 17) % 1099511627776)⟩ ⟨.slice A32 (([] ++ (b.take K2))).length c32, .slice A38 (([] ++ (b.take K5))).length c38⟩) _ rfl (Nat.le_of_ble_eq_true rfl) (zmb (w := w40) ⟨(M40.isO (k := 4) rfl), (M40.isO (k := 6) rfl)⟩) (zu rfl) (by kernel_rfl) ?_
 intro w43 M43
 clear M40
 refine hK41 _ _ (wp_ret ?_)
 try simp only [Exit.then, Exit.inBlock, Exit.jump]
 exact bodyPost_ret (results_cell_row rfl _ _ _ _ _ (0, 0) _ (F42.get rfl) (M43.blk (k := 1) rfl) Try.underlying54 rfl (by kernel_rfl)) F42.defers ⟨_, rfl, ⟨.slice A32 (([] ++ (b.take K2))).length c32, .slice A38 (([] ++ (b.take K5))).length c38⟩, (by rw [(show mkR n s b = (⟨1 + (n % 2), (nmB s), ((b.take K2)), (((n.tdiv 2) % 4294967296)).toNat, (((n.tdiv 7) % 4294967296)).toNat, ((b.take K5)), ((n.tdiv 11) % 6), ((n.tdiv 13) % 1000), ((n.tdiv 17) % 1099511627776)⟩ : RecN) from by unfold mkR; rw [hK2, hK5]; rfl)]; rfl), (by rw [(show mkR n s b = (⟨1 + (n % 2), (nmB s), ((b.take K2)), (((n.tdiv 2) % 4294967296)).toNat, (((n.tdiv 7) % 4294967296)).toNat, ((b.take K5)), ((n.tdiv 11) % 6), ((n.tdiv 13) % 1000), ((n.tdiv 17) % 1099511627776)⟩ : RecN) from by unfold mkR; rw [hK2, hK5]; rfl)]; exact ⟨M43.isO (k := 4) rfl, M43.isO (k := 6) rfl⟩), (fun g h => h.elim (fun h => M43.owns (k := 4) rfl g (zfa h)) (fun h => M43.owns (k := 6) rfl g (zfa h))), M43.below⟩
end Go.Proofs.Ytlbkogdmojlpmaa
namespace Go.Proofs.Ytlbkogdmojlpmaa
open Go.ChangeShapes Go.WideShapes Go.ChangeAt Go.RowKit
theorem str_eqsT {s t : ByteArray} (h : s = t) : decide (s.toList = t.toList) = true := by subst h; exact decide_eq_true rfl
theorem str_eqsF {s t : ByteArray} (h : ¬ s = t) : decide (s.toList = t.toList) = false := decide_eq_false fun e => h (by
  rw [ByteArray.toList_eq, ByteArray.toList_eq] at e
  cases s; cases t
  congr 1
  exact Array.toList_inj.1 e)
noncomputable def eqM (m m2 : MsgN) : Bool := decide (m.k = m2.k) && decide (m.p = m2.p) && decide (m.c = m2.c) && decide (m.e = m2.e) && @decide (m.s = m2.s) (Classical.propDecidable _) && decide (m.a = m2.a) && decide (m.b = m2.b) && decide (m.l5 = m2.l5) && decide (m.l6 = m2.l6) && decide (m.l7 = m2.l7) && decide (m.l8 = m2.l8) && decide (m.l9 = m2.l9)
theorem eqM_iff (m m2 : MsgN) : eqM m m2 = true ↔ m = m2 := by
  unfold eqM
  simp only [Bool.and_eq_true, decide_eq_true_eq]
  constructor
  · rintro ⟨⟨⟨⟨⟨⟨⟨⟨⟨⟨⟨h1, h2⟩, h3⟩, h4⟩, h5⟩, h6⟩, h7⟩, h8⟩, h9⟩, h10⟩, h11⟩, h12⟩
    cases m; cases m2
    simp_all
  · rintro rfl; simp
theorem eqM_self (m : MsgN) : eqM m m = true := (eqM_iff m m).2 rfl
theorem msgs_any (m m2 : MsgN) (V V2 : MsgV) (ho : MsgOk m) (ho2 : MsgOk m2) (w : World) (hm : MsgIs w m V) (hm2 : MsgIs w m2 V2) :
  Calls Try.prog 21 #[.agg (msgA m V), .agg (msgA m2 V2)] w fun e w' => e = .returned (.bool (eqM m m2)) ∧ Below w.heap.size w w' := by
 refine zi (args := [.agg (msgA m V), .agg (msgA m2 V2)]) 97 Try.func21 rfl rfl rfl ?_
 intro fa F
 have M := Mx.start w
 replace M := M.argB 0 hm.h5 (fun g e => by cases e)
 replace M := M.argB 1 hm.h6 (fun g e => by cases e)
 replace M := M.argB 2 hm.h7 (fun g e => by cases e)
 replace M := M.argB 3 hm.h8 (fun g e => by cases e)
 replace M := M.argB 4 hm.h9 (fun g e => by cases e)
 replace M := M.argB 5 hm2.h5 (fun g e => by cases e)
 replace M := M.argB 6 hm2.h6 (fun g e => by cases e)
 replace M := M.argB 7 hm2.h7 (fun g e => by cases e)
 replace M := M.argB 8 hm2.h8 (fun g e => by cases e)
 replace M := M.argB 9 hm2.h9 (fun g e => by cases e)
 refine zT fun _ hK1 => ?_
 refine zg (za rfl) rfl F rfl M 10 (t := 29) (c := msgA m V) (by unfold execOp; simp only [(F.get (t := 0) rfl)]; kernel_rfl) ?_
 intro g2 a2 w2 F2 M2
 clear F M
 refine zg (za rfl) rfl F2 rfl M2 11 (t := 29) (c := msgA m2 V2) (by unfold execOp; simp only [(F2.get (t := 1) rfl)]; kernel_rfl) ?_
 intro g3 a3 w3 F3 M3
 clear F2 M2
 refine rm rfl F3 fun _ F4 => ?_
 refine hK1 _ _ (zS fun _ hK5 => ?_)
 simp only [List.append_eq, List.cons_append, List.nil_append]
 refine zR ?_
 refine zB 4 [(2, .pointer (some ⟨g2, 0, none⟩)), (3, .pointer (some ⟨g3, 0, none⟩)), (4, .bool false), (6, .int .i64 m.k), (8, .int .i64 m2.k)] [0, 1] (zk (M3.blk (k := 10) rfl) (zk (M3.blk (k := 11) rfl) dnil)) [g2, g3] F4 fun _ F6 => ?_
 by_cases h7 : m.k = m2.k
 rotate_left
 ·refine rn rfl rfl F6 rfl (.bool false) (zp _ _ _ _ rfl (F6.get rfl) (F6.get rfl) Try.underlying3 (zq h7)) fun _ F80 => ?_
  refine zB 88 [(4, .bool false)] [] dnil [] F80 fun _ F81 => ?_
  refine hK5 _ _ (wp_ret ?_)
  try simp only [Exit.then, Exit.inBlock, Exit.jump]
  exact bodyPost_ret (res1 rfl (F81.get rfl)) F81.defers ⟨by rw [show eqM m m2 = false from by unfold eqM; simp [h7]], M3.below⟩
 refine rn rfl rfl F6 rfl (.bool true) (zp _ _ _ _ rfl (F6.get rfl) (F6.get rfl) Try.underlying3 (zma h7)) fun _ F8 => ?_
 refine zB 5 [(2, .pointer (some ⟨g2, 0, none⟩)), (3, .pointer (some ⟨g3, 0, none⟩)), (4, .bool false), (10, .bool true), (12, .int .i64 m.p), (14, .int .i64 m2.p)] [0, 1] (zk (M3.blk (k := 10) rfl) (zk (M3.blk (k := 11) rfl) dnil)) [g2, g3] F8 fun _ F9 => ?_
 by_cases h10 : m.p = m2.p
 rotate_left
 ·refine ze (w' := w3) (zb rfl rfl rfl (F9.get rfl)) rfl F9 rfl (.bool false) (zp _ _ _ _ rfl (F9.get rfl) (F9.get rfl) Try.underlying3 (zq h10)) fun _ F78 => ?_
  refine zB 82 [(4, .bool false)] [] dnil [] F78 fun _ F79 => ?_
  refine hK5 _ _ (wp_ret ?_)
  try simp only [Exit.then, Exit.inBlock, Exit.jump]
  exact bodyPost_ret (res1 rfl (F79.get rfl)) F79.defers ⟨by rw [show eqM m m2 = false from by unfold eqM; simp [h7, h10]], M3.below⟩
 refine ze (w' := w3) (zb rfl rfl rfl (F9.get rfl)) rfl F9 rfl (.bool true) (zp _ _ _ _ rfl (F9.get rfl) (F9.get rfl) Try.underlying3 (zma h10)) fun _ F11 => ?_
 refine zB 6 [(2, .pointer (some ⟨g2, 0, none⟩)), (3, .pointer (some ⟨g3, 0, none⟩)), (4, .bool false), (17, .bool true), (19, .int .i64 m.c), (21, .int .i64 m2.c)] [0, 1] (zk (M3.blk (k := 10) rfl) (zk (M3.blk (k := 11) rfl) dnil)) [g2, g3] F11 fun _ F12 => ?_
 by_cases h13 : m.c = m2.c
 rotate_left
 ·refine ze (w' := w3) (zb rfl rfl rfl (F12.get rfl)) rfl F12 rfl (.bool false) (zp _ _ _ _ rfl (F12.get rfl) (F12.get rfl) Try.underlying3 (zq h13)) fun _ F76 => ?_
  refine zB 75 [(4, .bool false)] [] dnil [] F76 fun _ F77 => ?_
  refine hK5 _ _ (wp_ret ?_)
  try simp only [Exit.then, Exit.inBlock, Exit.jump]
  exact bodyPost_ret (res1 rfl (F77.get rfl)) F77.defers ⟨by rw [show eqM m m2 = false from by unfold eqM; simp [h7, h10, h13]], M3.below⟩
 refine ze (w' := w3) (zb rfl rfl rfl (F12.get rfl)) rfl F12 rfl (.bool true) (zp _ _ _ _ rfl (F12.get rfl) (F12.get rfl) Try.underlying3 (zma h13)) fun _ F14 => ?_
 refine zB 6 [(2, .pointer (some ⟨g2, 0, none⟩)), (3, .pointer (some ⟨g3, 0, none⟩)), (4, .bool false), (24, .bool true), (26, .int .i64 m.e), (28, .int .i64 m2.e)] [0, 1] (zk (M3.blk (k := 10) rfl) (zk (M3.blk (k := 11) rfl) dnil)) [g2, g3] F14 fun _ F15 => ?_
 by_cases h16 : m.e = m2.e
 rotate_left
 ·refine ze (w' := w3) (zb rfl rfl rfl (F15.get rfl)) rfl F15 rfl (.bool false) (zp _ _ _ _ rfl (F15.get rfl) (F15.get rfl) Try.underlying24 (zq h16)) fun _ F74 => ?_
  refine zB 68 [(4, .bool false)] [] dnil [] F74 fun _ F75 => ?_
  refine hK5 _ _ (wp_ret ?_)
  try simp only [Exit.then, Exit.inBlock, Exit.jump]
  exact bodyPost_ret (res1 rfl (F75.get rfl)) F75.defers ⟨by rw [show eqM m m2 = false from by unfold eqM; simp [h7, h10, h13, h16]], M3.below⟩
 refine ze (w' := w3) (zb rfl rfl rfl (F15.get rfl)) rfl F15 rfl (.bool true) (zp _ _ _ _ rfl (F15.get rfl) (F15.get rfl) Try.underlying24 (zma h16)) fun _ F17 => ?_
 refine zB 6 [(2, .pointer (some ⟨g2, 0, none⟩)), (3, .pointer (some ⟨g3, 0, none⟩)), (4, .bool false), (31, .bool true), (33, .string m.s), (35, .string m2.s)] [0, 1] (zk (M3.blk (k := 10) rfl) (zk (M3.blk (k := 11) rfl) dnil)) [g2, g3] F17 fun _ F18 => ?_
 by_cases h19 : m.s = m2.s
 rotate_left
 ·refine ze (w' := w3) (zb rfl rfl rfl (F18.get rfl)) rfl F18 rfl (.bool false) (y_eqS _ _ _ rfl (F18.get rfl) (F18.get rfl) (str_eqsF h19)) fun _ F72 => ?_
  refine zB 61 [(4, .bool false)] [] dnil [] F72 fun _ F73 => ?_
  refine hK5 _ _ (wp_ret ?_)
  try simp only [Exit.then, Exit.inBlock, Exit.jump]
  exact bodyPost_ret (res1 rfl (F73.get rfl)) F73.defers ⟨by rw [show eqM m m2 = false from by unfold eqM; simp [h7, h10, h13, h16, h19]], M3.below⟩
 refine ze (w' := w3) (zb rfl rfl rfl (F18.get rfl)) rfl F18 rfl (.bool true) (y_eqS _ _ _ rfl (F18.get rfl) (F18.get rfl) (str_eqsT h19)) fun _ F20 => ?_
 refine zB 6 [(2, .pointer (some ⟨g2, 0, none⟩)), (3, .pointer (some ⟨g3, 0, none⟩)), (4, .bool false), (38, .bool true), (40, numV m.a), (42, numV m2.a)] [0, 1] (zk (M3.blk (k := 10) rfl) (zk (M3.blk (k := 11) rfl) dnil)) [g2, g3] F20 fun _ F21 => ?_
 by_cases h22 : m.a = m2.a
 rotate_left
 ·refine ze (w' := w3) (zb rfl rfl rfl (F21.get rfl)) rfl F21 rfl (.bool false) (y_eqA _ _ _ _ rfl (F21.get rfl) (F21.get rfl) (by kernel_rfl) (eqn_diff ho.a ho2.a h22 _)) fun _ F70 => ?_
  refine zB 54 [(4, .bool false)] [] dnil [] F70 fun _ F71 => ?_
  refine hK5 _ _ (wp_ret ?_)
  try simp only [Exit.then, Exit.inBlock, Exit.jump]
  exact bodyPost_ret (res1 rfl (F71.get rfl)) F71.defers ⟨by rw [show eqM m m2 = false from by unfold eqM; simp [h7, h10, h13, h16, h19, h22]], M3.below⟩
 refine ze (w' := w3) (zb rfl rfl rfl (F21.get rfl)) rfl F21 rfl (.bool true) (y_eqA _ _ _ _ rfl (F21.get rfl) (F21.get rfl) (by kernel_rfl) (by rw [h22]; exact eqn_same _ _)) fun _ F23 => ?_
 refine zB 6 [(2, .pointer (some ⟨g2, 0, none⟩)), (3, .pointer (some ⟨g3, 0, none⟩)), (4, .bool false), (45, .bool true), (47, numV m.b), (49, numV m2.b)] [0, 1] (zk (M3.blk (k := 10) rfl) (zk (M3.blk (k := 11) rfl) dnil)) [g2, g3] F23 fun _ F24 => ?_
 by_cases h25 : m.b = m2.b
 rotate_left
 ·refine ze (w' := w3) (zb rfl rfl rfl (F24.get rfl)) rfl F24 rfl (.bool false) (y_eqA _ _ _ _ rfl (F24.get rfl) (F24.get rfl) (by kernel_rfl) (eqn_diff ho.b ho2.b h25 _)) fun _ F68 => ?_
  refine zB 47 [(4, .bool false)] [] dnil [] F68 fun _ F69 => ?_
  refine hK5 _ _ (wp_ret ?_)
  try simp only [Exit.then, Exit.inBlock, Exit.jump]
  exact bodyPost_ret (res1 rfl (F69.get rfl)) F69.defers ⟨by rw [show eqM m m2 = false from by unfold eqM; simp [h7, h10, h13, h16, h19, h22, h25]], M3.below⟩
 refine ze (w' := w3) (zb rfl rfl rfl (F24.get rfl)) rfl F24 rfl (.bool true) (y_eqA _ _ _ _ rfl (F24.get rfl) (F24.get rfl) (by kernel_rfl) (by rw [h25]; exact eqn_same _ _)) fun _ F26 => ?_
 refine zB 4 [(2, .pointer (some ⟨g2, 0, none⟩)), (3, .pointer (some ⟨g3, 0, none⟩)), (4, .bool false), (52, .bool true), (54, V.v5)] [0] (zk (M3.blk (k := 10) rfl) dnil) [g2] F26 fun _ F27 => ?_
 refine ze (w' := w3) (zb rfl rfl rfl (F27.get rfl)) rfl F27 rfl (.string (⟨(m.l5).toArray⟩)) (y_str _ rfl (F27.get rfl) (M3.isb (k := 0) rfl)) fun _ F28 => ?_
 refine zA 2 [(56, .pointer (some ⟨g3, 21, none⟩)), (57, V2.v5)] [0] (zk (M3.blk (k := 11) rfl) dnil) [g3] F28 fun _ F29 => ?_
 refine ze (w' := w3) (zb rfl rfl rfl (F29.get rfl)) rfl F29 rfl (.string (⟨(m2.l5).toArray⟩)) (y_str _ rfl (F29.get rfl) (M3.isb (k := 5) rfl)) fun _ F30 => ?_
 by_cases h31 : m.l5 = m2.l5
 rotate_left
 ·refine ze (w' := w3) (zb rfl rfl rfl (F30.get rfl)) rfl F30 rfl (.bool false) (y_eqS _ _ _ rfl (F30.get rfl) (F30.get rfl) (str_ne h31)) fun _ F66 => ?_
  refine zB 38 [(4, .bool false)] [] dnil [] F66 fun _ F67 => ?_
  refine hK5 _ _ (wp_ret ?_)
  try simp only [Exit.then, Exit.inBlock, Exit.jump]
  exact bodyPost_ret (res1 rfl (F67.get rfl)) F67.defers ⟨by rw [show eqM m m2 = false from by unfold eqM; simp [h7, h10, h13, h16, h19, h22, h25, h31]], M3.below⟩
 refine ze (w' := w3) (zb rfl rfl rfl (F30.get rfl)) rfl F30 rfl (.bool true) (y_eqS _ _ _ rfl (F30.get rfl) (F30.get rfl) (str_eq h31)) fun _ F32 => ?_
 refine zB 4 [(2, .pointer (some ⟨g2, 0, none⟩)), (3, .pointer (some ⟨g3, 0, none⟩)), (4, .bool false), (61, .bool true), (63, V.v6)] [0] (zk (M3.blk (k := 10) rfl) dnil) [g2] F32 fun _ F33 => ?_
 refine ze (w' := w3) (zb rfl rfl rfl (F33.get rfl)) rfl F33 rfl (.string (⟨(m.l6).toArray⟩)) (y_str _ rfl (F33.get rfl) (M3.isb (k := 1) rfl)) fun _ F34 => ?_
 refine zA 2 [(65, .pointer (some ⟨g3, 22, none⟩)), (66, V2.v6)] [0] (zk (M3.blk (k := 11) rfl) dnil) [g3] F34 fun _ F35 => ?_
 refine ze (w' := w3) (zb rfl rfl rfl (F35.get rfl)) rfl F35 rfl (.string (⟨(m2.l6).toArray⟩)) (y_str _ rfl (F35.get rfl) (M3.isb (k := 6) rfl)) fun _ F36 => ?_
 by_cases h37 : m.l6 = m2.l6
 rotate_left
 ·refine ze (w' := w3) (zb rfl rfl rfl (F36.get rfl)) rfl F36 rfl (.bool false) (y_eqS _ _ _ rfl (F36.get rfl) (F36.get rfl) (str_ne h37)) fun _ F64 => ?_
  refine zB 29 [(4, .bool false)] [] dnil [] F64 fun _ F65 => ?_
  refine hK5 _ _ (wp_ret ?_)
  try simp only [Exit.then, Exit.inBlock, Exit.jump]
  exact bodyPost_ret (res1 rfl (F65.get rfl)) F65.defers ⟨by rw [show eqM m m2 = false from by unfold eqM; simp [h7, h10, h13, h16, h19, h22, h25, h31, h37]], M3.below⟩
 refine ze (w' := w3) (zb rfl rfl rfl (F36.get rfl)) rfl F36 rfl (.bool true) (y_eqS _ _ _ rfl (F36.get rfl) (F36.get rfl) (str_eq h37)) fun _ F38 => ?_
 refine zB 4 [(2, .pointer (some ⟨g2, 0, none⟩)), (3, .pointer (some ⟨g3, 0, none⟩)), (4, .bool false), (70, .bool true), (72, V.v7)] [0] (zk (M3.blk (k := 10) rfl) dnil) [g2] F38 fun _ F39 => ?_
 refine ze (w' := w3) (zb rfl rfl rfl (F39.get rfl)) rfl F39 rfl (.string (⟨(m.l7).toArray⟩)) (y_str _ rfl (F39.get rfl) (M3.isb (k := 2) rfl)) fun _ F40 => ?_
 refine zA 2 [(74, .pointer (some ⟨g3, 23, none⟩)), (75, V2.v7)] [0] (zk (M3.blk (k := 11) rfl) dnil) [g3] F40 fun _ F41 => ?_
 refine ze (w' := w3) (zb rfl rfl rfl (F41.get rfl)) rfl F41 rfl (.string (⟨(m2.l7).toArray⟩)) (y_str _ rfl (F41.get rfl) (M3.isb (k := 7) rfl)) fun _ F42 => ?_
 by_cases h43 : m.l7 = m2.l7
 rotate_left
 ·refine ze (w' := w3) (zb rfl rfl rfl (F42.get rfl)) rfl F42 rfl (.bool false) (y_eqS _ _ _ rfl (F42.get rfl) (F42.get rfl) (str_ne h43)) fun _ F62 => ?_
  refine zB 20 [(4, .bool false)] [] dnil [] F62 fun _ F63 => ?_
  refine hK5 _ _ (wp_ret ?_)
  try simp only [Exit.then, Exit.inBlock, Exit.jump]
  exact bodyPost_ret (res1 rfl (F63.get rfl)) F63.defers ⟨by rw [show eqM m m2 = false from by unfold eqM; simp [h7, h10, h13, h16, h19, h22, h25, h31, h37, h43]], M3.below⟩
 refine ze (w' := w3) (zb rfl rfl rfl (F42.get rfl)) rfl F42 rfl (.bool true) (y_eqS _ _ _ rfl (F42.get rfl) (F42.get rfl) (str_eq h43)) fun _ F44 => ?_
 refine zB 4 [(2, .pointer (some ⟨g2, 0, none⟩)), (3, .pointer (some ⟨g3, 0, none⟩)), (4, .bool false), (79, .bool true), (81, V.v8)] [0] (zk (M3.blk (k := 10) rfl) dnil) [g2] F44 fun _ F45 => ?_
 refine ze (w' := w3) (zb rfl rfl rfl (F45.get rfl)) rfl F45 rfl (.string (⟨(m.l8).toArray⟩)) (y_str _ rfl (F45.get rfl) (M3.isb (k := 3) rfl)) fun _ F46 => ?_
 refine zA 2 [(83, .pointer (some ⟨g3, 24, none⟩)), (84, V2.v8)] [0] (zk (M3.blk (k := 11) rfl) dnil) [g3] F46 fun _ F47 => ?_
 refine ze (w' := w3) (zb rfl rfl rfl (F47.get rfl)) rfl F47 rfl (.string (⟨(m2.l8).toArray⟩)) (y_str _ rfl (F47.get rfl) (M3.isb (k := 8) rfl)) fun _ F48 => ?_
 by_cases h49 : m.l8 = m2.l8
 rotate_left
 ·refine ze (w' := w3) (zb rfl rfl rfl (F48.get rfl)) rfl F48 rfl (.bool false) (y_eqS _ _ _ rfl (F48.get rfl) (F48.get rfl) (str_ne h49)) fun _ F60 => ?_
  refine zB 11 [(4, .bool false)] [] dnil [] F60 fun _ F61 => ?_
  refine hK5 _ _ (wp_ret ?_)
  try simp only [Exit.then, Exit.inBlock, Exit.jump]
  exact bodyPost_ret (res1 rfl (F61.get rfl)) F61.defers ⟨by rw [show eqM m m2 = false from by unfold eqM; simp [h7, h10, h13, h16, h19, h22, h25, h31, h37, h43, h49]], M3.below⟩
 refine ze (w' := w3) (zb rfl rfl rfl (F48.get rfl)) rfl F48 rfl (.bool true) (y_eqS _ _ _ rfl (F48.get rfl) (F48.get rfl) (str_eq h49)) fun _ F50 => ?_
 refine zB 4 [(3, .pointer (some ⟨g3, 0, none⟩)), (4, .bool false), (88, .bool true), (90, V.v9)] [0] (zk (M3.blk (k := 10) rfl) dnil) [g2] F50 fun _ F51 => ?_
 refine ze (w' := w3) (zb rfl rfl rfl (F51.get rfl)) rfl F51 rfl (.string (⟨(m.l9).toArray⟩)) (y_str _ rfl (F51.get rfl) (M3.isb (k := 4) rfl)) fun _ F52 => ?_
 refine zB 2 [(4, .bool false), (88, .bool true), (91, .string (⟨(m.l9).toArray⟩)), (93, V2.v9)] [0] (zk (M3.blk (k := 11) rfl) dnil) [g3] F52 fun _ F53 => ?_
 refine ze (w' := w3) (zb rfl rfl rfl (F53.get rfl)) rfl F53 rfl (.string (⟨(m2.l9).toArray⟩)) (y_str _ rfl (F53.get rfl) (M3.isb (k := 9) rfl)) fun _ F54 => ?_
 by_cases h55 : m.l9 = m2.l9
 ·refine ze (w' := w3) (zb rfl rfl rfl (F54.get rfl)) rfl F54 rfl (.bool true) (y_eqS _ _ _ rfl (F54.get rfl) (F54.get rfl) (str_eq h55)) fun _ F56 => ?_
  refine zB 2 [(4, .bool true)] [] dnil [] F56 fun _ F57 => ?_
  refine hK5 _ _ (wp_ret ?_)
  try simp only [Exit.then, Exit.inBlock, Exit.jump]
  exact bodyPost_ret (res1 rfl (F57.get rfl)) F57.defers ⟨by rw [show eqM m m2 = true from by unfold eqM; simp [h7, h10, h13, h16, h19, h22, h25, h31, h37, h43, h49, h55]], M3.below⟩
 refine ze (w' := w3) (zb rfl rfl rfl (F54.get rfl)) rfl F54 rfl (.bool false) (y_eqS _ _ _ rfl (F54.get rfl) (F54.get rfl) (str_ne h55)) fun _ F58 => ?_
 refine zB 2 [(4, .bool false)] [] dnil [] F58 fun _ F59 => ?_
 refine hK5 _ _ (wp_ret ?_)
 try simp only [Exit.then, Exit.inBlock, Exit.jump]
 exact bodyPost_ret (res1 rfl (F59.get rfl)) F59.defers ⟨by rw [show eqM m m2 = false from by unfold eqM; simp [h7, h10, h13, h16, h19, h22, h25, h31, h37, h43, h49, h55]], M3.below⟩
noncomputable def eqR (r r2 : RecN) : Bool := decide (r.p = r2.p) && @decide (r.s = r2.s) (Classical.propDecidable _) && decide (r.l2 = r2.l2) && decide (r.a = r2.a) && decide (r.b = r2.b) && decide (r.l5 = r2.l5) && decide (r.t = r2.t) && decide (r.c = r2.c) && decide (r.z = r2.z)
theorem eqR_iff (r r2 : RecN) : eqR r r2 = true ↔ r = r2 := by
  unfold eqR
  simp only [Bool.and_eq_true, decide_eq_true_eq]
  constructor
  · rintro ⟨⟨⟨⟨⟨⟨⟨⟨h1, h2⟩, h3⟩, h4⟩, h5⟩, h6⟩, h7⟩, h8⟩, h9⟩
    cases r; cases r2
    simp_all
  · rintro rfl; simp
theorem eqR_self (r : RecN) : eqR r r = true := (eqR_iff r r).2 rfl
theorem recs_any (r r2 : RecN) (V V2 : RecV) (ho : RecOk r) (ho2 : RecOk r2) (w : World) (hm : RecIs w r V) (hm2 : RecIs w r2 V2) :
  Calls Try.prog 38 #[.agg (recA r V), .agg (recA r2 V2)] w fun e w' => e = .returned (.bool (eqR r r2)) ∧ Below w.heap.size w w' := by
 refine zi (args := [.agg (recA r V), .agg (recA r2 V2)]) 70 Try.func38 rfl rfl rfl ?_
 intro fa F
 have M := Mx.start w
 replace M := M.argB 0 hm.h2 (fun g e => by cases e)
 replace M := M.argB 1 hm.h5 (fun g e => by cases e)
 replace M := M.argB 2 hm2.h2 (fun g e => by cases e)
 replace M := M.argB 3 hm2.h5 (fun g e => by cases e)
 refine zT fun _ hK1 => ?_
 refine zg (za rfl) rfl F rfl M 4 (t := 54) (c := recA r V) (by unfold execOp; simp only [(F.get (t := 0) rfl)]; kernel_rfl) ?_
 intro g2 a2 w2 F2 M2
 clear F M
 refine zg (za rfl) rfl F2 rfl M2 5 (t := 54) (c := recA r2 V2) (by unfold execOp; simp only [(F2.get (t := 1) rfl)]; kernel_rfl) ?_
 intro g3 a3 w3 F3 M3
 clear F2 M2
 refine rm rfl F3 fun _ F4 => ?_
 refine hK1 _ _ (zS fun _ hK5 => ?_)
 simp only [List.append_eq, List.cons_append, List.nil_append]
 refine zR ?_
 refine zB 4 [(2, .pointer (some ⟨g2, 0, none⟩)), (3, .pointer (some ⟨g3, 0, none⟩)), (4, .bool false), (6, .int .i64 r.p), (8, .int .i64 r2.p)] [0, 1] (zk (M3.blk (k := 4) rfl) (zk (M3.blk (k := 5) rfl) dnil)) [g2, g3] F4 fun _ F6 => ?_
 by_cases h7 : r.p = r2.p
 rotate_left
 ·refine rn rfl rfl F6 rfl (.bool false) (zp _ _ _ _ rfl (F6.get rfl) (F6.get rfl) Try.underlying3 (zq h7)) fun _ F56 => ?_
  refine zB 61 [(4, .bool false)] [] dnil [] F56 fun _ F57 => ?_
  refine hK5 _ _ (wp_ret ?_)
  try simp only [Exit.then, Exit.inBlock, Exit.jump]
  exact bodyPost_ret (res1 rfl (F57.get rfl)) F57.defers ⟨by rw [show eqR r r2 = false from by unfold eqR; simp [h7]], M3.below⟩
 refine rn rfl rfl F6 rfl (.bool true) (zp _ _ _ _ rfl (F6.get rfl) (F6.get rfl) Try.underlying3 (zma h7)) fun _ F8 => ?_
 refine zB 5 [(2, .pointer (some ⟨g2, 0, none⟩)), (3, .pointer (some ⟨g3, 0, none⟩)), (4, .bool false), (10, .bool true), (12, .string r.s), (14, .string r2.s)] [0, 1] (zk (M3.blk (k := 4) rfl) (zk (M3.blk (k := 5) rfl) dnil)) [g2, g3] F8 fun _ F9 => ?_
 by_cases h10 : r.s = r2.s
 rotate_left
 ·refine ze (w' := w3) (zb rfl rfl rfl (F9.get rfl)) rfl F9 rfl (.bool false) (y_eqS _ _ _ rfl (F9.get rfl) (F9.get rfl) (str_eqsF h10)) fun _ F54 => ?_
  refine zB 55 [(4, .bool false)] [] dnil [] F54 fun _ F55 => ?_
  refine hK5 _ _ (wp_ret ?_)
  try simp only [Exit.then, Exit.inBlock, Exit.jump]
  exact bodyPost_ret (res1 rfl (F55.get rfl)) F55.defers ⟨by rw [show eqR r r2 = false from by unfold eqR; simp [h7, h10]], M3.below⟩
 refine ze (w' := w3) (zb rfl rfl rfl (F9.get rfl)) rfl F9 rfl (.bool true) (y_eqS _ _ _ rfl (F9.get rfl) (F9.get rfl) (str_eqsT h10)) fun _ F11 => ?_
 refine zB 4 [(2, .pointer (some ⟨g2, 0, none⟩)), (3, .pointer (some ⟨g3, 0, none⟩)), (4, .bool false), (17, .bool true), (19, V.v2)] [0] (zk (M3.blk (k := 4) rfl) dnil) [g2] F11 fun _ F12 => ?_
 refine ze (w' := w3) (zb rfl rfl rfl (F12.get rfl)) rfl F12 rfl (.string (⟨(r.l2).toArray⟩)) (y_str _ rfl (F12.get rfl) (M3.isb (k := 0) rfl)) fun _ F13 => ?_
 refine zA 2 [(21, .pointer (some ⟨g3, 2, none⟩)), (22, V2.v2)] [0] (zk (M3.blk (k := 5) rfl) dnil) [g3] F13 fun _ F14 => ?_
 refine ze (w' := w3) (zb rfl rfl rfl (F14.get rfl)) rfl F14 rfl (.string (⟨(r2.l2).toArray⟩)) (y_str _ rfl (F14.get rfl) (M3.isb (k := 2) rfl)) fun _ F15 => ?_
 by_cases h16 : r.l2 = r2.l2
 rotate_left
 ·refine ze (w' := w3) (zb rfl rfl rfl (F15.get rfl)) rfl F15 rfl (.bool false) (y_eqS _ _ _ rfl (F15.get rfl) (F15.get rfl) (str_ne h16)) fun _ F52 => ?_
  refine zB 46 [(4, .bool false)] [] dnil [] F52 fun _ F53 => ?_
  refine hK5 _ _ (wp_ret ?_)
  try simp only [Exit.then, Exit.inBlock, Exit.jump]
  exact bodyPost_ret (res1 rfl (F53.get rfl)) F53.defers ⟨by rw [show eqR r r2 = false from by unfold eqR; simp [h7, h10, h16]], M3.below⟩
 refine ze (w' := w3) (zb rfl rfl rfl (F15.get rfl)) rfl F15 rfl (.bool true) (y_eqS _ _ _ rfl (F15.get rfl) (F15.get rfl) (str_eq h16)) fun _ F17 => ?_
 refine zB 6 [(2, .pointer (some ⟨g2, 0, none⟩)), (3, .pointer (some ⟨g3, 0, none⟩)), (4, .bool false), (26, .bool true), (28, numV r.a), (30, numV r2.a)] [0, 1] (zk (M3.blk (k := 4) rfl) (zk (M3.blk (k := 5) rfl) dnil)) [g2, g3] F17 fun _ F18 => ?_
 by_cases h19 : r.a = r2.a
 rotate_left
 ·refine ze (w' := w3) (zb rfl rfl rfl (F18.get rfl)) rfl F18 rfl (.bool false) (y_eqA _ _ _ _ rfl (F18.get rfl) (F18.get rfl) (by kernel_rfl) (eqn_diff ho.a ho2.a h19 _)) fun _ F50 => ?_
  refine zB 39 [(4, .bool false)] [] dnil [] F50 fun _ F51 => ?_
  refine hK5 _ _ (wp_ret ?_)
  try simp only [Exit.then, Exit.inBlock, Exit.jump]
  exact bodyPost_ret (res1 rfl (F51.get rfl)) F51.defers ⟨by rw [show eqR r r2 = false from by unfold eqR; simp [h7, h10, h16, h19]], M3.below⟩
 refine ze (w' := w3) (zb rfl rfl rfl (F18.get rfl)) rfl F18 rfl (.bool true) (y_eqA _ _ _ _ rfl (F18.get rfl) (F18.get rfl) (by kernel_rfl) (by rw [h19]; exact eqn_same _ _)) fun _ F20 => ?_
 refine zB 6 [(2, .pointer (some ⟨g2, 0, none⟩)), (3, .pointer (some ⟨g3, 0, none⟩)), (4, .bool false), (33, .bool true), (35, numV r.b), (37, numV r2.b)] [0, 1] (zk (M3.blk (k := 4) rfl) (zk (M3.blk (k := 5) rfl) dnil)) [g2, g3] F20 fun _ F21 => ?_
 by_cases h22 : r.b = r2.b
 rotate_left
 ·refine ze (w' := w3) (zb rfl rfl rfl (F21.get rfl)) rfl F21 rfl (.bool false) (y_eqA _ _ _ _ rfl (F21.get rfl) (F21.get rfl) (by kernel_rfl) (eqn_diff ho.b ho2.b h22 _)) fun _ F48 => ?_
  refine zB 32 [(4, .bool false)] [] dnil [] F48 fun _ F49 => ?_
  refine hK5 _ _ (wp_ret ?_)
  try simp only [Exit.then, Exit.inBlock, Exit.jump]
  exact bodyPost_ret (res1 rfl (F49.get rfl)) F49.defers ⟨by rw [show eqR r r2 = false from by unfold eqR; simp [h7, h10, h16, h19, h22]], M3.below⟩
 refine ze (w' := w3) (zb rfl rfl rfl (F21.get rfl)) rfl F21 rfl (.bool true) (y_eqA _ _ _ _ rfl (F21.get rfl) (F21.get rfl) (by kernel_rfl) (by rw [h22]; exact eqn_same _ _)) fun _ F23 => ?_
 refine zB 4 [(2, .pointer (some ⟨g2, 0, none⟩)), (3, .pointer (some ⟨g3, 0, none⟩)), (4, .bool false), (40, .bool true), (42, V.v5)] [0] (zk (M3.blk (k := 4) rfl) dnil) [g2] F23 fun _ F24 => ?_
 refine ze (w' := w3) (zb rfl rfl rfl (F24.get rfl)) rfl F24 rfl (.string (⟨(r.l5).toArray⟩)) (y_str _ rfl (F24.get rfl) (M3.isb (k := 1) rfl)) fun _ F25 => ?_
 refine zA 2 [(44, .pointer (some ⟨g3, 19, none⟩)), (45, V2.v5)] [0] (zk (M3.blk (k := 5) rfl) dnil) [g3] F25 fun _ F26 => ?_
 refine ze (w' := w3) (zb rfl rfl rfl (F26.get rfl)) rfl F26 rfl (.string (⟨(r2.l5).toArray⟩)) (y_str _ rfl (F26.get rfl) (M3.isb (k := 3) rfl)) fun _ F27 => ?_
 by_cases h28 : r.l5 = r2.l5
 rotate_left
 ·refine ze (w' := w3) (zb rfl rfl rfl (F27.get rfl)) rfl F27 rfl (.bool false) (y_eqS _ _ _ rfl (F27.get rfl) (F27.get rfl) (str_ne h28)) fun _ F46 => ?_
  refine zB 23 [(4, .bool false)] [] dnil [] F46 fun _ F47 => ?_
  refine hK5 _ _ (wp_ret ?_)
  try simp only [Exit.then, Exit.inBlock, Exit.jump]
  exact bodyPost_ret (res1 rfl (F47.get rfl)) F47.defers ⟨by rw [show eqR r r2 = false from by unfold eqR; simp [h7, h10, h16, h19, h22, h28]], M3.below⟩
 refine ze (w' := w3) (zb rfl rfl rfl (F27.get rfl)) rfl F27 rfl (.bool true) (y_eqS _ _ _ rfl (F27.get rfl) (F27.get rfl) (str_eq h28)) fun _ F29 => ?_
 refine zB 6 [(2, .pointer (some ⟨g2, 0, none⟩)), (3, .pointer (some ⟨g3, 0, none⟩)), (4, .bool false), (49, .bool true), (51, .int .i64 r.t), (53, .int .i64 r2.t)] [0, 1] (zk (M3.blk (k := 4) rfl) (zk (M3.blk (k := 5) rfl) dnil)) [g2, g3] F29 fun _ F30 => ?_
 by_cases h31 : r.t = r2.t
 rotate_left
 ·refine ze (w' := w3) (zb rfl rfl rfl (F30.get rfl)) rfl F30 rfl (.bool false) (zp _ _ _ _ rfl (F30.get rfl) (F30.get rfl) Try.underlying3 (zq h31)) fun _ F44 => ?_
  refine zB 16 [(4, .bool false)] [] dnil [] F44 fun _ F45 => ?_
  refine hK5 _ _ (wp_ret ?_)
  try simp only [Exit.then, Exit.inBlock, Exit.jump]
  exact bodyPost_ret (res1 rfl (F45.get rfl)) F45.defers ⟨by rw [show eqR r r2 = false from by unfold eqR; simp [h7, h10, h16, h19, h22, h28, h31]], M3.below⟩
 refine ze (w' := w3) (zb rfl rfl rfl (F30.get rfl)) rfl F30 rfl (.bool true) (zp _ _ _ _ rfl (F30.get rfl) (F30.get rfl) Try.underlying3 (zma h31)) fun _ F32 => ?_
 refine zB 6 [(2, .pointer (some ⟨g2, 0, none⟩)), (3, .pointer (some ⟨g3, 0, none⟩)), (4, .bool false), (56, .bool true), (58, .int .i64 r.c), (60, .int .i64 r2.c)] [0, 1] (zk (M3.blk (k := 4) rfl) (zk (M3.blk (k := 5) rfl) dnil)) [g2, g3] F32 fun _ F33 => ?_
 by_cases h34 : r.c = r2.c
 rotate_left
 ·refine ze (w' := w3) (zb rfl rfl rfl (F33.get rfl)) rfl F33 rfl (.bool false) (zp _ _ _ _ rfl (F33.get rfl) (F33.get rfl) Try.underlying3 (zq h34)) fun _ F42 => ?_
  refine zB 9 [(4, .bool false)] [] dnil [] F42 fun _ F43 => ?_
  refine hK5 _ _ (wp_ret ?_)
  try simp only [Exit.then, Exit.inBlock, Exit.jump]
  exact bodyPost_ret (res1 rfl (F43.get rfl)) F43.defers ⟨by rw [show eqR r r2 = false from by unfold eqR; simp [h7, h10, h16, h19, h22, h28, h31, h34]], M3.below⟩
 refine ze (w' := w3) (zb rfl rfl rfl (F33.get rfl)) rfl F33 rfl (.bool true) (zp _ _ _ _ rfl (F33.get rfl) (F33.get rfl) Try.underlying3 (zma h34)) fun _ F35 => ?_
 refine zB 6 [(4, .bool false), (63, .bool true), (65, .int .i64 r.z), (67, .int .i64 r2.z)] [0, 1] (zk (M3.blk (k := 4) rfl) (zk (M3.blk (k := 5) rfl) dnil)) [g2, g3] F35 fun _ F36 => ?_
 by_cases h37 : r.z = r2.z
 ·refine ze (w' := w3) (zb rfl rfl rfl (F36.get rfl)) rfl F36 rfl (.bool true) (zp _ _ _ _ rfl (F36.get rfl) (F36.get rfl) Try.underlying3 (zma h37)) fun _ F38 => ?_
  refine zB 2 [(4, .bool true)] [] dnil [] F38 fun _ F39 => ?_
  refine hK5 _ _ (wp_ret ?_)
  try simp only [Exit.then, Exit.inBlock, Exit.jump]
  exact bodyPost_ret (res1 rfl (F39.get rfl)) F39.defers ⟨by rw [show eqR r r2 = true from by unfold eqR; simp [h7, h10, h16, h19, h22, h28, h31, h34, h37]], M3.below⟩
 refine ze (w' := w3) (zb rfl rfl rfl (F36.get rfl)) rfl F36 rfl (.bool false) (zp _ _ _ _ rfl (F36.get rfl) (F36.get rfl) Try.underlying3 (zq h37)) fun _ F40 => ?_
 refine zB 2 [(4, .bool false)] [] dnil [] F40 fun _ F41 => ?_
 refine hK5 _ _ (wp_ret ?_)
 try simp only [Exit.then, Exit.inBlock, Exit.jump]
 exact bodyPost_ret (res1 rfl (F41.get rfl)) F41.defers ⟨by rw [show eqR r r2 = false from by unfold eqR; simp [h7, h10, h16, h19, h22, h28, h31, h34, h37]], M3.below⟩
end Go.Proofs.Ytlbkogdmojlpmaa
namespace Go.Proofs.Ytlbkogdmojlpmaa
open Go.ChangeShapes Go.WideShapes Go.ChangeAt Go.RowKit
theorem enc_is (m : MsgN) (V : MsgV) (ho : MsgOk m) (hs : m.s.size ≤ 1000) (ok : Bool) (l : List UInt8) (h1 : encOk m = ok) (h2 : encL m = l) (w : World) (hm : MsgIs w m V) : Calls Try.prog 17 #[.agg (msgA m V)] w fun e w' => ∃ t, e = .returned t ∧ ∃ v, t = .tuple #[v, .bool ok] ∧ Byt w' w.heap.size v l ∧ Below w.heap.size w w' := by
  subst h1 h2; exact encode_ex m V ho hs w hm
theorem dec_is (b : List UInt8) (bv : Value) (hl : b.length ≤ 100000) (ok : Bool) (m : MsgN) (h1 : decOk b = ok) (h2 : decR b = m) (w : World) (hb : IsB w b bv) : Calls Try.prog 20 #[bv] w fun e w' => ∃ t, e = .returned t ∧ ∃ V, t = .tuple #[.agg (msgA m V), .bool ok] ∧ MsgIs w' m V ∧ (∀ q, zna V q → w.heap.size ≤ q) ∧ Below w.heap.size w w' := by
  subst h1 h2; exact decode_ex b bv hl w hb
theorem msgs_is (m m2 : MsgN) (V V2 : MsgV) (ho : MsgOk m) (ho2 : MsgOk m2) (ok : Bool) (h1 : eqM m m2 = ok) (w : World) (hm : MsgIs w m V) (hm2 : MsgIs w m2 V2) : Calls Try.prog 21 #[.agg (msgA m V), .agg (msgA m2 V2)] w fun e w' => e = .returned (.bool ok) ∧ Below w.heap.size w w' := by
  subst h1; exact msgs_any m m2 V V2 ho ho2 w hm hm2
theorem rec_is (r : RecN) (V : RecV) (ho : RecOk r) (ok : Bool) (l : List UInt8) (h1 : zqa r = ok) (h2 : recE r = l) (w : World) (hm : RecIs w r V) : Calls Try.prog 35 #[.agg (recA r V)] w fun e w' => ∃ t, e = .returned t ∧ ∃ v, t = .tuple #[v, .bool ok] ∧ Byt w' w.heap.size v l ∧ Below w.heap.size w w' := by
  subst h1 h2; exact record_ex r V ho w hm
theorem rd_is (b : List UInt8) (bv : Value) (hl : b.length ≤ 100000) (ok : Bool) (r : RecN) (h1 : rdOk b = ok) (h2 : rdR b = r) (w : World) (hb : IsB w b bv) : Calls Try.prog 37 #[bv] w fun e w' => ∃ t, e = .returned t ∧ ∃ V, t = .tuple #[.agg (recA r V), .bool ok] ∧ RecIs w' r V ∧ (∀ q, bfp V.v2 q ∨ bfp V.v5 q → w.heap.size ≤ q) ∧ Below w.heap.size w w' := by
  subst h1 h2; exact (readrec_any b bv hl w hb).mono fun e w' ⟨V, k1, k2, k3, k4⟩ => ⟨_, k1, V, rfl, k2, k3, k4⟩
theorem recs_is (r r2 : RecN) (V V2 : RecV) (ho : RecOk r) (ho2 : RecOk r2) (ok : Bool) (h1 : eqR r r2 = ok) (w : World) (hm : RecIs w r V) (hm2 : RecIs w r2 V2) : Calls Try.prog 38 #[.agg (recA r V), .agg (recA r2 V2)] w fun e w' => e = .returned (.bool ok) ∧ Below w.heap.size w w' := by
  subst h1; exact recs_any r r2 V V2 ho ho2 w hm hm2
theorem make_is (kind n : Int) (s : ByteArray) (b : List UInt8) (v : Value) (hkd : -9223372036854775808 ≤ kind ∧ kind < 9223372036854775808) (hN : -9223372036854775808 ≤ n ∧ n < 9223372036854775808) (hs : s.size ≤ 40) (m : MsgN) (hm : mkM kind n s b = m) (w : World) (hv : IsB w b v) : Calls Try.prog 16 #[.int .i64 kind, .int .i64 n, .string s, v] w fun e w' => ∃ t, e = .returned t ∧ ∃ V, t = .agg (msgA m V) ∧ MsgIs w' m V ∧ (∀ g, zna V g → w.heap.size ≤ g) ∧ Below w.heap.size w w' := by
  subst hm; exact make_msg kind n s b v hkd hN hs w hv
theorem maker_is (n : Int) (s : ByteArray) (b : List UInt8) (v : Value) (hN : -9223372036854775808 ≤ n ∧ n < 9223372036854775808) (hs : s.size ≤ 40) (hbl : b.length ≤ 1000) (r : RecN) (hr : mkR n s b = r) (w : World) (hv : IsB w b v) : Calls Try.prog 34 #[.int .i64 n, .string s, v] w fun e w' => ∃ t, e = .returned t ∧ ∃ V, t = .agg (recA r V) ∧ RecIs w' r V ∧ (∀ g, bfp V.v2 g ∨ bfp V.v5 g → w.heap.size ≤ g) ∧ Below w.heap.size w w' := by
  subst hr; exact make_rec n s b v hN hs hbl w hv
section
variable {G : Option Nat} {w0 w : World} {R : List (Nat × Res)}
theorem Mx.nilT (M : Mx G w0 w R) (i : Nat) : Mx G w0 w ((i, tlR [] (zN)) :: R) :=
  M.cons i _ (show Tl w (zN) [] from .inl ⟨rfl, rfl⟩) tlR_dep (fun g hg => by cases hg) (fun _ g hg => by cases hg) fun _ _ _ _ _ g hg => by cases hg
theorem Mx.newRec {w' : World} (M : Mx G w0 w R) (h : Below w.heap.size w w') {r : RecN} {V : RecV} (hm : RecIs w' r V) (hlo : ∀ q, bfp V.v2 q ∨ bfp V.v5 q → w.heap.size ≤ q) (a b : Nat) : Mx G w0 w' ((b, bytR r.l5 V.v5) :: (a, bytR r.l2 V.v2) :: R) := by
  obtain ⟨M1, n1⟩ := (M.step h).roB2 (N := w.heap.size) (fun k s e _ g hg => M.lt k s e g hg) a hm.h2 (fun g hg => hlo g (.inl hg))
  exact (M1.roB2 n1 b hm.h5 (fun g hg => hlo g (.inr hg))).1
theorem next_is (M0 : Mx G w0 w R) (k q g : Nat) (l : List UInt8) (u : Value) (n : Int) (b : Bool) (hk : look R k = some (blkR g 94 #[u, .int .i64 n, .bool b])) (hq : look R q = some (tlR l u)) (hne : k ≠ q) (hl : l.length ≤ 1000000) (k5 k6 k7 k8 k9 : Nat) (m : MsgN) (ok bad : Bool) (l2 : List UInt8) (h1 : nxM l = m) (h2 : nxOk l = ok) (h3 : (b || nxBad l) = bad) (h4 : nxL l = l2) :
    Calls Try.prog 30 #[.pointer (some ⟨g, 0, none⟩)] w fun e w' => ∃ t, e = .returned t ∧ ∃ u' V, Mx G w0 w' ((k9, bytR m.l9 V.v9) :: (k8, bytR m.l8 V.v8) :: (k7, bytR m.l7 V.v7) :: (k6, bytR m.l6 V.v6) :: (k5, bytR m.l5 V.v5) :: (k, blkR g 94 #[u', .int .i64 n, .bool bad]) :: (q, tlR l2 u') :: R) ∧ t = .tuple #[.agg (msgA m V), .bool ok] := by
  subst h1 h2 h3 h4; exact next_any M0 k q g l u n b hk hq hne hl k5 k6 k7 k8 k9
end
end Go.Proofs.Ytlbkogdmojlpmaa
namespace Go.Proofs.Ytlbkogdmojlpmaa
open Go.ChangeShapes Go.WideShapes Go.ChangeAt Go.RowKit
def m7 : MsgN := ⟨7, 0, 0, 0, "".toUTF8, 0, 0, [], [], [], [], []⟩
def rA : RecN := ⟨1, ⟨#[97]⟩, [], 0, 0, [], 0, 0, 0⟩
theorem m7_ok : MsgOk m7 := ⟨by decide, by decide, by decide, by decide, by decide, by decide, by decide⟩
theorem rA_ok : RecOk rA := ⟨by decide, by decide, by decide, by decide, by decide, by decide, by decide⟩
theorem m7_right : zza m7 = true := by
  unfold zza
  rw [show wantOk m7.k m7.p = true from rfl, show decide (hasB m7 = wantN m7.k m7.p) = true from by decide]
  unfold zz
  rw [show nilB m7.s = true from decide_eq_true rfl, show topI m7.a 8 = 0 from topI_none 8, show topI m7.b 8 = 0 from topI_none 8]
  simp [m7]
theorem enc7 : encOk m7 = true ∧ encL m7 = [0, 1, 7] := by
  have h : encOk m7 = true := by
    unfold encOk
    rw [m7_right]
    decide
  exact ⟨h, by rw [encL_ok h]; decide⟩
theorem rA_name : NameOk rA.s := by
  refine ⟨by decide, by decide, fun i h => ?_⟩
  have : i = 0 := by have h1 : rA.s.size = 1 := rfl; omega
  subst this
  exact (show (33 : Int) ≤ ((97 : UInt8).toNat : Int) ∧ ((97 : UInt8).toNat : Int) ≤ 126 by decide)
theorem rA_keep : zqa rA = true := by
  unfold zqa
  rw [show nameB rA.s = true from @decide_eq_true _ (Classical.propDecidable _) rA_name, show topI rA.a 8 = 0 from topI_none 8, show topI rA.b 8 = 0 from topI_none 8]
  decide
theorem known_1 : wrN true 0 (([0, 1, 7] : List UInt8).take 1) = 1 ∧ nxM (([0, 1, 7] : List UInt8).take 1) = mZero ∧ nxOk (([0, 1, 7] : List UInt8).take 1) = false ∧ (false || nxBad (([0, 1, 7] : List UInt8).take 1)) = false ∧ nxL (([0, 1, 7] : List UInt8).take 1) = ([0, 1, 7] : List UInt8).take 1 := by
  obtain ⟨h1, h2⟩ := nx_short (l := ([0, 1, 7] : List UInt8).take 1) (by decide)
  refine ⟨rfl, by rw [nxM, h1]; rfl, h1, by rw [h2]; rfl, by rw [nxL, h1, h2]; rfl⟩
theorem known_2 : wrL true (([0, 1, 7] : List UInt8).take 1) (([0, 1, 7] : List UInt8).drop 1) = [0, 1, 7] ∧ wrN true 1 (([0, 1, 7] : List UInt8).drop 1) = 3 ∧ nxM ([0, 1, 7] : List UInt8) = m7 ∧ nxOk ([0, 1, 7] : List UInt8) = true ∧ (false || nxBad ([0, 1, 7] : List UInt8)) = false ∧ nxL ([0, 1, 7] : List UInt8) = [] := by
  obtain ⟨e1, e2⟩ := enc7
  obtain ⟨d1, d2⟩ := decOk_enc m7_ok e1
  rw [e2] at d1 d2
  have hF : nxF ([0, 1, 7] : List UInt8) = 1 := rfl
  have hT : ([0, 1, 7] : List UInt8).take (2 + nxF ([0, 1, 7] : List UInt8)) = [0, 1, 7] := rfl
  obtain ⟨h1, h2⟩ := nx_whole (l := ([0, 1, 7] : List UInt8)) (by decide) (by rw [hF]; decide) (by rw [hF]; decide)
  rw [hT, d1] at h1 h2
  exact ⟨rfl, rfl, by rw [nxM, h1, hT, d2]; rfl, h1, by rw [h2]; rfl, by rw [nxL, h1]; rfl⟩
theorem y_eqPN {a : Act} {w : World} {o : Oper} (ty tz : TypeId) (hu : Try.prog.underlying ty = some (.pointer (Try.prog.pointee ty))) (hgt : Try.prog.eqGuardType Try.prog.depth ty = false) (x : Operand) {p : Addr} (ho : o.op = .binOp .eql ty x (.const (.pointer none)) tz) (hx : a.eval x = .pointer (some p)) : (execOp a.eval o).run Try.prog w = .ok (.value (.bool false)) w :=
  y_eqV ty tz x _ ho hx (v := .pointer none) rfl (by simp [eqGuard, go_sem, hgt]) (by rw [run_eql_pointer_nil (h := hu)]; rfl)
theorem lknown_any  (w : World) :
  Calls Try.prog 15 #[] w fun e w' => e = .returned (.bool true) ∧ Below w.heap.size w w' := by
 obtain ⟨L, hL⟩ : ∃ L, L = ([0, 1, 7] : List UInt8) := ⟨_, rfl⟩
 obtain ⟨RB, hRB⟩ : ∃ l, recE rA = l := ⟨_, rfl⟩
 have hRl : RB.length ≤ 100000 := by rw [← hRB, show recE rA = recL rA from if_pos rA_keep]; decide
 have k1 := known_1
 have k2 := known_2
 have hL3 : L.length = 3 := by rw [hL]; rfl
 rw [← hL] at k1 k2
 obtain ⟨e1, e2⟩ := enc7
 rw [← hL] at e2
 obtain ⟨y1, y2⟩ := rd_rec rA_ok rA_keep
 rw [hRB] at y1 y2
 refine zi (args := []) 100 Try.func15 rfl rfl rfl ?_
 intro fa F
 have M := Mx.start w
 refine zT fun _ hK21 => ?_
 refine rm rfl F fun _ F22 => ?_
 refine hK21 _ _ (zS fun _ hK23 => ?_)
 refine zR ?_
 refine rn rfl rfl F22 rfl (.agg (msgA ⟨7, 0, 0, 0, "".toUTF8, 0, 0, [], [], [], [], []⟩ ⟨zN, zN, zN, zN, zN⟩)) (by unfold execOp; simp only [List.map_toArray, List.map_cons, List.map_nil, ]; kernel_rfl) fun _ F24 => ?_
 refine zd (za rfl) rfl F24 rfl rfl (zE Try.func17 rfl) #[.agg (msgA ⟨7, 0, 0, 0, "".toUTF8, 0, 0, [], [], [], [], []⟩ ⟨zN, zN, zN, zN, zN⟩)] (zw (F24.get rfl)) (enc_is m7 vZero m7_ok (by decide) true L e1 e2 w ⟨zc _, zc _, zc _, zc _, zc _⟩) ?_
 rintro _ w25 a25 ⟨v25, rfl, hv25, b25⟩ F25
 have M25 := M.newO b25 0 hv25
 clear M b25 hv25
 obtain ⟨A25, c25, rfl⟩ := (M25.isO (k := 0) rfl).shape
 refine zB 5 [(0, .bool false), (1, .slice A25 (L).length c25), (2, .bool true)] [] dnil [] F25 fun _ F26 => ?_
 refine hK23 _ _ (zS fun _ hK27 => ?_)
 refine zR ?_
 refine zd (za rfl) rfl F26 rfl rfl (zE Try.func26 rfl) #[] (args0) (new_any w25) ?_
 rintro _ w28 a28 ⟨g28, rfl, hg28, hc28, b28⟩ F28
 have M28 := (M25.newb b28 1 hg28 hc28).nilT 2
 clear M25 b28 hg28 hc28
 refine rm rfl F28 fun _ F29 => ?_
 refine hK27 _ _ (zS fun _ hK30 => ?_)
 refine zT fun _ hK31 => ?_
 refine rm rfl F29 fun _ F32 => ?_
 refine rn rfl rfl F32 rfl (.bool false) (y_eqPN 46 _ Try.underlying46 (by kernel_rfl) _ rfl (F32.get rfl)) fun _ F33 => ?_
 refine hK31 _ _ (wp_cond_false (F33.get rfl) ?_)
 refine wp_skip ?_
 refine hK30 _ _ (zS fun _ hK34 => ?_)
 refine zR ?_
 refine rm rfl F33 fun _ F35 => ?_
 refine rm rfl F35 fun _ F36 => ?_
 refine rm rfl F36 fun _ F37 => ?_
 refine rn rfl rfl F37 rfl (.int .i64 3) (zda _ rfl (F37.get rfl) (M28.isO (k := 0) rfl) (by rw [hL3]; rfl)) fun _ F38 => ?_
 refine rn rfl rfl F38 rfl (.int .i64 1) (y_min _ _ rfl rfl (F38.get rfl) (by decide)) fun _ F39 => ?_
 refine wl_runE (za rfl) rfl F39 rfl (y_slTo _ _ rfl (F39.get rfl) (M28.isO (k := 0) rfl) (F39.get rfl) (j := 1) rfl (by omega)) ?_
 intro v40 a40 h40 F40
 have og41 := M28.owns (k := 0) rfl
 have M41 := M28.tame (k := 0) rfl
 clear M28
 have M40 := M41.partB 3 (k := 0) rfl h40.1 h40.2
 clear M41
 obtain ⟨A40, c40, rfl⟩ := (M40.isb (k := 3) rfl).shape
 refine zd (za rfl) rfl F40 rfl rfl (zE Try.func28 rfl) #[.pointer (some ⟨g28, 0, none⟩), .slice A40 ((L.take 1)).length c40] (z4 (F40.get rfl) (F40.get rfl)) (swrite_any M40 1 2 3 g28 [] (L.take 1) (zN) (.slice A40 ((L.take 1)).length c40) 0 false rfl rfl rfl (by decide) (by decide) (by simp only [List.length_nil, List.length_take]; omega) (by decide) true rfl) ?_
 rintro _ w42 a42 ⟨u42, N42, rfl⟩ F42
 rw [(show wrL true [] (L.take 1) = L.take 1 from rfl)] at N42
 rw [k1.1] at N42
 clear M40
 replace N42 : Mx _ _ _ ((1, blkR g28 94 #[u42, .int .i64 1, .bool false]) :: _) := N42
 refine hK34 _ _ (zS fun _ hK43 => ?_)
 refine zR ?_
 refine rm rfl F42 fun _ F44 => ?_
 refine zd (za rfl) rfl F44 rfl rfl (zE Try.func30 rfl) #[.pointer (some ⟨g28, 0, none⟩)] (zw (F44.get rfl)) (next_is N42 1 2 g28 (L.take 1) u42 1 false rfl rfl (by decide) (by rw [List.length_take]; omega) 4 5 6 7 8 mZero false false (L.take 1) k1.2.1 k1.2.2.1 k1.2.2.2.1 k1.2.2.2.2) ?_
 rintro _ w45 a45 ⟨u45, V45, N45, rfl⟩ F45
 clear N42
 refine zB 3 [(0, .bool false), (1, .slice A25 (L).length c25), (2, .bool true), (3, .pointer (some ⟨g28, 0, none⟩)), (30, .agg (msgA mZero V45)), (31, .bool false)] [] dnil [] F45 fun _ F46 => ?_
 refine zg (za rfl) rfl F46 rfl N45 9 (t := 29) (c := msgA ⟨0, 0, 0, 0, "".toUTF8, 0, 0, [], [], [], [], []⟩ ⟨zN, zN, zN, zN, zN⟩) (by unfold execOp; kernel_rfl) ?_
 intro g47 a47 w47 F47 M47
 clear F46 N45
 refine zl (za rfl) rfl F47 M47 (k := 9) rfl _ _ _ rfl (F47.get rfl) (F47.get rfl) (msgA mZero V45) _ rfl (Nat.le_of_ble_eq_true rfl) (z0 (w := w47) ⟨(M47.isb (k := 4) rfl), (M47.isb (k := 5) rfl), (M47.isb (k := 6) rfl), (M47.isb (k := 7) rfl), (M47.isb (k := 8) rfl)⟩) (zu rfl) (by kernel_rfl) ?_
 intro w48 M48
 clear M47
 refine rm rfl F47 fun _ F49 => ?_
 refine hK43 _ _ (zS fun _ hK50 => ?_)
 refine zR ?_
 refine rm rfl F49 fun _ F51 => ?_
 refine rm rfl F51 fun _ F52 => ?_
 refine rm rfl F52 fun _ F53 => ?_
 refine rn rfl rfl F53 rfl (.int .i64 3) (zda _ rfl (F53.get rfl) (M48.isb (k := 0) rfl) (by rw [hL3]; rfl)) fun _ F54 => ?_
 refine rn rfl rfl F54 rfl (.int .i64 1) (y_min _ _ rfl rfl (F54.get rfl) (by decide)) fun _ F55 => ?_
 refine wl_runE (za rfl) rfl F55 rfl (y_slFrom _ _ rfl (F55.get rfl) (M48.isb (k := 0) rfl) (F55.get rfl) (i := 1) rfl (by omega)) ?_
 intro v56 a56 h56 F56
 have M56 := M48.partB 10 (k := 0) rfl h56.1 h56.2
 clear M48
 obtain ⟨A56, c56, rfl⟩ := (M56.isb (k := 10) rfl).shape
 refine zd (za rfl) rfl F56 rfl rfl (zE Try.func28 rfl) #[.pointer (some ⟨g28, 0, none⟩), .slice A56 ((L.drop 1)).length c56] (z4 (F56.get rfl) (F56.get rfl)) (swrite_any M56 1 2 10 g28 (L.take 1) (L.drop 1) u45 (.slice A56 ((L.drop 1)).length c56) 1 false rfl rfl rfl (by decide) (by decide) (by simp only [List.length_take, List.length_drop]; omega) (by decide) true (by decide)) ?_
 rintro _ w57 a57 ⟨u57, N57, rfl⟩ F57
 rw [k2.1] at N57
 rw [k2.2.1] at N57
 clear M56
 replace N57 : Mx _ _ _ ((1, blkR g28 94 #[u57, .int .i64 3, .bool false]) :: _) := N57
 refine hK50 _ _ (zS fun _ hK58 => ?_)
 refine zR ?_
 refine rm rfl F57 fun _ F59 => ?_
 refine zd (za rfl) rfl F59 rfl rfl (zE Try.func30 rfl) #[.pointer (some ⟨g28, 0, none⟩)] (zw (F59.get rfl)) (next_is N57 1 2 g28 L u57 3 false rfl rfl (by decide) (by omega) 11 12 13 14 15 m7 true false ([] : List UInt8) k2.2.2.1 k2.2.2.2.1 k2.2.2.2.2.1 k2.2.2.2.2.2) ?_
 rintro _ w60 a60 ⟨u60, V60, N60, rfl⟩ F60
 clear N57
 refine zA 3 [(39, .tuple #[.agg (msgA m7 V60), .bool true]), (42, .agg (msgA m7 V60)), (43, .bool true)] [] dnil [] F60 fun _ F61 => ?_
 refine zg (za rfl) rfl F61 rfl N60 16 (t := 29) (c := msgA ⟨0, 0, 0, 0, "".toUTF8, 0, 0, [], [], [], [], []⟩ ⟨zN, zN, zN, zN, zN⟩) (by unfold execOp; kernel_rfl) ?_
 intro g62 a62 w62 F62 M62
 clear F61 N60
 refine zl (za rfl) rfl F62 M62 (k := 16) rfl _ _ _ rfl (F62.get rfl) (F62.get rfl) (msgA m7 V60) _ rfl (Nat.le_of_ble_eq_true rfl) (z0 (w := w62) ⟨(M62.isb (k := 11) rfl), (M62.isb (k := 12) rfl), (M62.isb (k := 13) rfl), (M62.isb (k := 14) rfl), (M62.isb (k := 15) rfl)⟩) (zu rfl) (by kernel_rfl) ?_
 intro w63 M63
 clear M62
 refine rm rfl F62 fun _ F64 => ?_
 refine hK58 _ _ (zS fun _ hK65 => ?_)
 refine zR ?_
 refine rn rfl rfl F64 rfl (.agg (recA ⟨1, ({ data := #[97] }), [], 0, 0, [], 0, 0, 0⟩ ⟨zN, zN⟩)) (by unfold execOp; simp only [List.map_toArray, List.map_cons, List.map_nil, ]; kernel_rfl) fun _ F66 => ?_
 refine zd (za rfl) rfl F66 rfl rfl (zE Try.func35 rfl) #[.agg (recA ⟨1, ({ data := #[97] }), [], 0, 0, [], 0, 0, 0⟩ ⟨zN, zN⟩)] (zw (F66.get rfl)) (rec_is rA rvZero rA_ok true RB rA_keep hRB w63 ⟨zc _, zc _⟩) ?_
 rintro _ w67 a67 ⟨v67, rfl, hv67, b67⟩ F67
 have M67 := M63.newO b67 17 hv67
 clear M63 b67 hv67
 obtain ⟨A67, c67, rfl⟩ := (M67.isO (k := 17) rfl).shape
 refine zA 5 [(44, .tuple #[.slice A67 (RB).length c67, .bool true]), (47, .slice A67 (RB).length c67), (48, .bool true), (8, .slice A67 (RB).length c67), (9, .bool true)] [] dnil [] F67 fun _ F68 => ?_
 refine hK65 _ _ (zS fun _ hK69 => ?_)
 refine zR ?_
 refine rm rfl F68 fun _ F70 => ?_
 refine zd (za rfl) rfl F70 rfl rfl (zE Try.func37 rfl) #[.slice A67 (RB).length c67] (zw (F70.get rfl)) (rd_is RB (.slice A67 (RB).length c67) hRl true rA y1 y2 w67 (M67.isO (k := 17) rfl)) ?_
 rintro _ w71 a71 ⟨V71, rfl, is71, lo71, b71⟩ F71
 have M71 := M67.newRec b71 is71 lo71 18 19
 clear M67 b71 lo71
 refine zA 3 [(49, .tuple #[.agg (recA rA V71), .bool true]), (52, .agg (recA rA V71)), (53, .bool true)] [] dnil [] F71 fun _ F72 => ?_
 refine zg (za rfl) rfl F72 rfl M71 20 (t := 54) (c := recA ⟨0, "".toUTF8, [], 0, 0, [], 0, 0, 0⟩ ⟨zN, zN⟩) (by unfold execOp; kernel_rfl) ?_
 intro g73 a73 w73 F73 M73
 clear F72 M71
 refine zl (za rfl) rfl F73 M73 (k := 20) rfl _ _ _ rfl (F73.get rfl) (F73.get rfl) (recA rA V71) _ rfl (Nat.le_of_ble_eq_true rfl) (zmb (w := w73) ⟨(M73.isb (k := 18) rfl), (M73.isb (k := 19) rfl)⟩) (zu rfl) (by kernel_rfl) ?_
 intro w74 M74
 clear M73
 refine rm rfl F73 fun _ F75 => ?_
 refine hK69 _ _ (zS fun _ hK76 => ?_)
 refine zR ?_
 refine rm rfl F75 fun _ F77 => ?_
 refine rm rfl F77 fun _ F78 => ?_
 refine rm rfl F78 fun _ F79 => ?_
 refine ze (w' := w74) (zb rfl rfl rfl (F79.get rfl)) rfl F79 rfl (.int .i64 3) (zda _ rfl (F79.get rfl) (M74.isb (k := 0) rfl) (by rw [hL3]; rfl)) fun _ F80 => ?_
 refine zA 4 [(58, .bool true), (59, .bool true), (60, .bool true), (61, .slice A25 (L).length c25)] [] dnil [] F80 fun _ F81 => ?_
 refine ze (w' := w74) (zb rfl rfl rfl (F81.get rfl)) rfl F81 rfl ((ixV (.slice A25 (L).length c25) 1)) (y_ixB _ _ rfl (F81.get rfl) (M74.isb (k := 0) rfl) rfl rfl (by omega)) fun _ F82 => ?_
 refine ze (w' := w74) (zb rfl rfl rfl (F82.get rfl)) rfl F82 rfl (.int .u8 (((1 : UInt8).toNat : Nat) : Int)) (y_ldB _ rfl (F82.get rfl) (M74.isb (k := 0) rfl) (by rw [hL]; rfl) rfl) fun _ F83 => ?_
 refine ze (w' := w74) (zb rfl rfl rfl (F83.get rfl)) rfl F83 rfl (.bool true) (zp _ _ _ _ rfl (F83.get rfl) rfl Try.underlying5 (zma (by decide))) fun _ F84 => ?_
 refine zA 3 [(65, .bool true), (66, .bool true), (67, .slice A25 (L).length c25)] [] dnil [] F84 fun _ F85 => ?_
 refine ze (w' := w74) (zb rfl rfl rfl (F85.get rfl)) rfl F85 rfl ((ixV (.slice A25 (L).length c25) 2)) (y_ixB _ _ rfl (F85.get rfl) (M74.isb (k := 0) rfl) rfl rfl (by omega)) fun _ F86 => ?_
 refine ze (w' := w74) (zb rfl rfl rfl (F86.get rfl)) rfl F86 rfl (.int .u8 (((7 : UInt8).toNat : Nat) : Int)) (y_ldB _ rfl (F86.get rfl) (M74.isb (k := 0) rfl) (by rw [hL]; rfl) rfl) fun _ F87 => ?_
 refine ze (w' := w74) (zb rfl rfl rfl (F87.get rfl)) rfl F87 rfl (.bool true) (zp _ _ _ _ rfl (F87.get rfl) rfl Try.underlying5 (zma (by decide))) fun _ F88 => ?_
 refine zB 11 [(0, .bool false), (3, .pointer (some ⟨g28, 0, none⟩)), (9, .bool true), (10, .pointer (some ⟨g73, 0, none⟩)), (11, .bool true), (79, .bool true), (81, .int .i64 m7.k)] [0] (zk (M74.blk (k := 16) rfl) dnil) [g62] F88 fun _ F89 => ?_
 refine ze (w' := w74) (zb rfl rfl rfl (F89.get rfl)) rfl F89 rfl (.bool true) (zp _ _ _ _ rfl (F89.get rfl) rfl Try.underlying3 (zma (show m7.k = 7 from rfl))) fun _ F90 => ?_
 refine zA 3 [(83, .bool true), (84, .bool true), (85, .pointer (some ⟨g28, 0, none⟩))] [] dnil [] F90 fun _ F91 => ?_
 refine zd (zb rfl rfl rfl (F91.get rfl)) rfl F91 rfl rfl (zE Try.func32 rfl) #[.pointer (some ⟨g28, 0, none⟩)] (zw (F91.get rfl)) (zf ((bad_any g28 u60 3 false w74 (M74.blk (k := 1) rfl)))) ?_
 rintro _ w92 a92 ⟨rfl, b92⟩ F92
 have M92 := M74.step b92
 refine zB 11 [(0, .bool false), (95, .bool true), (97, .string rA.s)] [0] (zk (M92.blk (k := 20) rfl) dnil) [g73] F92 fun _ F93 => ?_
 refine ze (w' := w92) (zb rfl rfl rfl (F93.get rfl)) rfl F93 rfl (.bool true) (y_eqS _ _ _ rfl (F93.get rfl) rfl (decide_eq_true rfl)) fun _ F94 => ?_
 refine zB 2 [(0, .bool true)] [] dnil [] F94 fun _ F95 => ?_
 refine hK76 _ _ (wp_ret ?_)
 try simp only [Exit.then, Exit.inBlock, Exit.jump]
 exact bodyPost_ret (res1 rfl (F95.get rfl)) F95.defers ⟨rfl, M92.below⟩
end Go.Proofs.Ytlbkogdmojlpmaa
namespace Go.Proofs.Ytlbkogdmojlpmaa
open Go.ChangeShapes Go.WideShapes Go.ChangeAt Go.RowKit
theorem Rd.isB' {w : World} {A : Option Addr} {l : List UInt8} {n c : Nat} (h : Rd w A l) (hn : l.length = n) (hc : n ≤ c) (hm : c ≤ maxLen) (hz : A = none → c = 0) : IsB w l (.slice A n c) := by
  subst hn
  exact ⟨A, c, rfl, hc, hm, hz, h⟩
theorem top_small {a : Nat} (h : a < 4294967296) : topI a 8 ≤ 32 := by
  by_cases h0 : a = 0
  · subst h0; rw [topI_none]; decide
  · have ha : a < 4294967296 ^ 8 := Nat.lt_trans h (by decide)
    have h1 := Nat.log2_self_le h0
    have h2 : a < 2 ^ (Nat.log2 a + 1) := Nat.lt_log2_self
    have h3 : a / 2 ^ (Nat.log2 a) = 1 := by
      apply Nat.div_eq_of_lt_le
      · omega
      · rw [Nat.pow_succ] at h2; omega
    rw [top_one ha h3]
    have h4 : Nat.log2 a < 32 := by
      refine Classical.byContradiction fun hn => ?_
      have : 2 ^ 32 ≤ 2 ^ Nat.log2 a := Nat.pow_le_pow_right (by omega) (by omega)
      omega
    omega
theorem nmB_ne (s : ByteArray) : sBy (nmB s) ≠ [] := by
  by_cases h : (sBy s).length = 0
  · rw [nmB_nil h]; simp [sBy]
  · rw [nmB_some h]
    simp only [sBy, List.toList_toArray]
    intro e
    have := congrArg List.length e
    rw [List.length_take] at this
    have h2 := nmL_len (sBy s)
    unfold sBy at h h2
    simp only [List.length_nil] at this
    omega
theorem nmB_size (s : ByteArray) : 0 < (nmB s).size ∧ (nmB s).size ≤ 16 := by
  have h := nmB_ne s
  have e : (sBy (nmB s)).length = (nmB s).size := sBy_len _
  refine ⟨by have := List.length_pos_iff.2 h; omega, ?_⟩
  by_cases h0 : (sBy s).length = 0
  · rw [nmB_nil h0]; decide
  · rw [← e, nmB_some h0]
    simp only [sBy, List.toList_toArray, List.length_take]
    omega
theorem name_of {B : ByteArray} (h1 : 0 < B.size) (h2 : B.size ≤ 16) (h : ∀ x ∈ sBy B, 33 ≤ x.toNat ∧ x.toNat ≤ 126) : nameB B = true := by
  refine @decide_eq_true _ (Classical.propDecidable _) ⟨h1, h2, fun i hi => ?_⟩
  have hg : (sBy B)[i]? = some (B[i]'hi) := by
    unfold sBy
    rw [Array.getElem?_toList]
    exact Array.getElem?_eq_getElem hi
  have := h _ (List.mem_of_getElem? hg)
  omega
theorem nmB_ok (s : ByteArray) : nameB (nmB s) = true := by
  refine name_of (nmB_size s).1 (nmB_size s).2 fun x hx => ?_
  by_cases h0 : (sBy s).length = 0
  · rw [nmB_nil h0] at hx
    have : x = 117 := by simpa [sBy] using hx
    subst this; decide
  · rw [nmB_some h0] at hx
    simp only [sBy, List.toList_toArray] at hx
    obtain ⟨y, -, hy⟩ := List.mem_map.1 (List.mem_of_mem_take hx)
    rw [← hy]
    exact nmC_in y
theorem kn (n : Int) {k : Int} (hk : 0 < k) : 0 < (1 + n % k).toNat ∧ (1 + n % k).toNat ≤ k.toNat := by
  have h1 := Int.emod_nonneg n (show k ≠ 0 by omega)
  have h2 := Int.emod_lt_of_pos n hk
  omega
theorem mkM_ok (kind n : Int) (s : ByteArray) (b : List UInt8) : MsgOk (mkM kind n s b) ∧ (mkM kind n s b).s.size ≤ 1000 := by
  have h2 := Int.emod_two_eq n
  have hA := kn n (show (0 : Int) < 4294967295 by decide)
  have hC := kn (n.tdiv 3) (show (0 : Int) < 70000 by decide)
  have h11 := Int.emod_nonneg n (show (11 : Int) ≠ 0 by decide)
  have h11' := Int.emod_lt_of_pos n (show (0 : Int) < 11 by decide)
  have h40 := Int.emod_nonneg n (show (1099511627776 : Int) ≠ 0 by decide)
  have h40' := Int.emod_lt_of_pos n (show (0 : Int) < 1099511627776 by decide)
  have hs := nmB_size s
  have e1 : ("".toUTF8).size ≤ 1000000 := by decide
  have e2 : ("".toUTF8).size ≤ 1000 := by decide
  unfold mkM
  by_cases k0 : kind % 12 = 0
  · rw [if_pos k0]
    by_cases q : n % 2 = 0
    · rw [if_pos q]; exact ⟨⟨(by dsimp only; omega), (by dsimp only; omega), (by dsimp only; omega), (by dsimp only; omega), (by dsimp only; first | exact e1 | omega), Nat.lt_trans (m := 4294967296) (by dsimp only; omega) (by decide), Nat.lt_trans (m := 4294967296) (by dsimp only; omega) (by decide)⟩, (by dsimp only; first | exact e2 | omega)⟩
    · rw [if_neg q]; exact ⟨⟨(by dsimp only; omega), (by dsimp only; omega), (by dsimp only; omega), (by dsimp only; omega), (by dsimp only; first | exact e1 | omega), Nat.lt_trans (m := 4294967296) (by dsimp only; omega) (by decide), Nat.lt_trans (m := 4294967296) (by dsimp only; omega) (by decide)⟩, (by dsimp only; first | exact e2 | omega)⟩
  rw [if_neg k0]
  by_cases k1 : kind % 12 = 1
  · rw [if_pos k1]
    by_cases q : n % 2 = 0
    · rw [if_pos q]; exact ⟨⟨(by dsimp only; omega), (by dsimp only; omega), (by dsimp only; omega), (by dsimp only; omega), (by dsimp only; first | exact e1 | omega), Nat.lt_trans (m := 4294967296) (by dsimp only; omega) (by decide), Nat.lt_trans (m := 4294967296) (by dsimp only; omega) (by decide)⟩, (by dsimp only; first | exact e2 | omega)⟩
    · rw [if_neg q]; exact ⟨⟨(by dsimp only; omega), (by dsimp only; omega), (by dsimp only; omega), (by dsimp only; omega), (by dsimp only; first | exact e1 | omega), Nat.lt_trans (m := 4294967296) (by dsimp only; omega) (by decide), Nat.lt_trans (m := 4294967296) (by dsimp only; omega) (by decide)⟩, (by dsimp only; first | exact e2 | omega)⟩
  rw [if_neg k1]
  by_cases k2 : kind % 12 = 2
  · rw [if_pos k2]
    exact ⟨⟨(by dsimp only; omega), (by dsimp only; omega), (by dsimp only; omega), (by dsimp only; omega), (by dsimp only; first | exact e1 | omega), Nat.lt_trans (m := 4294967296) (by dsimp only; omega) (by decide), Nat.lt_trans (m := 4294967296) (by dsimp only; omega) (by decide)⟩, (by dsimp only; first | exact e2 | omega)⟩
  rw [if_neg k2]
  by_cases k3 : kind % 12 = 3
  · rw [if_pos k3]
    by_cases q : n.tdiv 2 % 2 = 0
    · rw [if_pos q]; exact ⟨⟨(by dsimp only; omega), (by dsimp only; omega), (by dsimp only; omega), (by dsimp only; omega), (by dsimp only; first | exact e1 | omega), Nat.lt_trans (m := 4294967296) (by dsimp only; omega) (by decide), Nat.lt_trans (m := 4294967296) (by dsimp only; omega) (by decide)⟩, (by dsimp only; first | exact e2 | omega)⟩
    · rw [if_neg q]; exact ⟨⟨(by dsimp only; omega), (by dsimp only; omega), (by dsimp only; omega), (by dsimp only; omega), (by dsimp only; first | exact e1 | omega), Nat.lt_trans (m := 4294967296) (by dsimp only; omega) (by decide), Nat.lt_trans (m := 4294967296) (by dsimp only; omega) (by decide)⟩, (by dsimp only; first | exact e2 | omega)⟩
  rw [if_neg k3]
  by_cases k4 : kind % 12 = 4
  · rw [if_pos k4]
    exact ⟨⟨(by dsimp only; omega), (by dsimp only; omega), (by dsimp only; omega), (by dsimp only; omega), (by dsimp only; first | exact e1 | omega), Nat.lt_trans (m := 4294967296) (by dsimp only; omega) (by decide), Nat.lt_trans (m := 4294967296) (by dsimp only; omega) (by decide)⟩, (by dsimp only; first | exact e2 | omega)⟩
  rw [if_neg k4]
  by_cases k5 : kind % 12 = 5
  · rw [if_pos k5]
    exact ⟨⟨(by dsimp only; omega), (by dsimp only; omega), (by dsimp only; omega), (by dsimp only; omega), (by dsimp only; first | exact e1 | omega), Nat.lt_trans (m := 4294967296) (by dsimp only; omega) (by decide), Nat.lt_trans (m := 4294967296) (by dsimp only; omega) (by decide)⟩, (by dsimp only; first | exact e2 | omega)⟩
  rw [if_neg k5]
  by_cases k6 : kind % 12 = 6
  · rw [if_pos k6]
    exact ⟨⟨(by dsimp only; omega), (by dsimp only; omega), (by dsimp only; omega), (by dsimp only; omega), (by dsimp only; first | exact e1 | omega), Nat.lt_trans (m := 4294967296) (by dsimp only; omega) (by decide), Nat.lt_trans (m := 4294967296) (by dsimp only; omega) (by decide)⟩, (by dsimp only; first | exact e2 | omega)⟩
  rw [if_neg k6]
  by_cases k7 : kind % 12 = 7
  · rw [if_pos k7]
    exact ⟨⟨(by dsimp only; omega), (by dsimp only; omega), (by dsimp only; omega), (by dsimp only; omega), (by dsimp only; first | exact e1 | omega), Nat.lt_trans (m := 4294967296) (by dsimp only; omega) (by decide), Nat.lt_trans (m := 4294967296) (by dsimp only; omega) (by decide)⟩, (by dsimp only; first | exact e2 | omega)⟩
  rw [if_neg k7]
  by_cases k8 : kind % 12 = 8
  · rw [if_pos k8]
    exact ⟨⟨(by dsimp only; omega), (by dsimp only; omega), (by dsimp only; omega), (by dsimp only; omega), (by dsimp only; first | exact e1 | omega), Nat.lt_trans (m := 4294967296) (by dsimp only; omega) (by decide), Nat.lt_trans (m := 4294967296) (by dsimp only; omega) (by decide)⟩, (by dsimp only; first | exact e2 | omega)⟩
  rw [if_neg k8]
  by_cases k9 : kind % 12 = 9
  · rw [if_pos k9]
    exact ⟨⟨(by dsimp only; omega), (by dsimp only; omega), (by dsimp only; omega), (by dsimp only; omega), (by dsimp only; first | exact e1 | omega), Nat.lt_trans (m := 4294967296) (by dsimp only; omega) (by decide), Nat.lt_trans (m := 4294967296) (by dsimp only; omega) (by decide)⟩, (by dsimp only; first | exact e2 | omega)⟩
  rw [if_neg k9]
  by_cases k10 : kind % 12 = 10
  · rw [if_pos k10]
    exact ⟨⟨(by dsimp only; omega), (by dsimp only; omega), (by dsimp only; omega), (by dsimp only; omega), (by dsimp only; first | exact e1 | omega), Nat.lt_trans (m := 4294967296) (by dsimp only; omega) (by decide), Nat.lt_trans (m := 4294967296) (by dsimp only; omega) (by decide)⟩, (by dsimp only; first | exact e2 | omega)⟩
  rw [if_neg k10]
  exact ⟨⟨(by dsimp only; omega), (by dsimp only; omega), (by dsimp only; omega), (by dsimp only; omega), (by dsimp only; first | exact e1 | omega), Nat.lt_trans (m := 4294967296) (by dsimp only; omega) (by decide), Nat.lt_trans (m := 4294967296) (by dsimp only; omega) (by decide)⟩, (by dsimp only; first | exact e2 | omega)⟩
theorem mkR_ok (n : Int) (s : ByteArray) (b : List UInt8) : RecOk (mkR n s b) := by
  have h2 := Int.emod_two_eq n
  have hs := nmB_size s
  have h6 := Int.emod_nonneg (n.tdiv 11) (show (6 : Int) ≠ 0 by decide)
  have h6' := Int.emod_lt_of_pos (n.tdiv 11) (show (0 : Int) < 6 by decide)
  have h7 := Int.emod_nonneg (n.tdiv 13) (show (1000 : Int) ≠ 0 by decide)
  have h7' := Int.emod_lt_of_pos (n.tdiv 13) (show (0 : Int) < 1000 by decide)
  have h8 := Int.emod_nonneg (n.tdiv 17) (show (1099511627776 : Int) ≠ 0 by decide)
  have h8' := Int.emod_lt_of_pos (n.tdiv 17) (show (0 : Int) < 1099511627776 by decide)
  have h9 := Int.emod_nonneg (n.tdiv 2) (show (4294967296 : Int) ≠ 0 by decide)
  have h9' := Int.emod_lt_of_pos (n.tdiv 2) (show (0 : Int) < 4294967296 by decide)
  have hA := Int.emod_nonneg (n.tdiv 7) (show (4294967296 : Int) ≠ 0 by decide)
  have hA' := Int.emod_lt_of_pos (n.tdiv 7) (show (0 : Int) < 4294967296 by decide)
  unfold mkR
  exact ⟨(by dsimp only; omega), (by dsimp only; omega), (by dsimp only; omega), (by dsimp only; omega), (by dsimp only; omega), Nat.lt_trans (m := 4294967296) (by dsimp only; omega) (by decide), Nat.lt_trans (m := 4294967296) (by dsimp only; omega) (by decide)⟩
theorem mkR_keep (n : Int) (s : ByteArray) (b : List UInt8) : zqa (mkR n s b) = true := by
  have h2 := Int.emod_two_eq n
  have h6 := Int.emod_nonneg (n.tdiv 11) (show (6 : Int) ≠ 0 by decide)
  have h6' := Int.emod_lt_of_pos (n.tdiv 11) (show (0 : Int) < 6 by decide)
  have h7 := Int.emod_nonneg (n.tdiv 13) (show (1000 : Int) ≠ 0 by decide)
  have h8 := Int.emod_nonneg (n.tdiv 17) (show (1099511627776 : Int) ≠ 0 by decide)
  have h9 := Int.emod_nonneg (n.tdiv 2) (show (4294967296 : Int) ≠ 0 by decide)
  have h9' := Int.emod_lt_of_pos (n.tdiv 2) (show (0 : Int) < 4294967296 by decide)
  have hA := Int.emod_nonneg (n.tdiv 7) (show (4294967296 : Int) ≠ 0 by decide)
  have hA' := Int.emod_lt_of_pos (n.tdiv 7) (show (0 : Int) < 4294967296 by decide)
  have t1 := top_small (a := ((n.tdiv 2) % 4294967296).toNat) (by omega)
  have t2 := top_small (a := ((n.tdiv 7) % 4294967296).toNat) (by omega)
  have q2 := Int.emod_nonneg n (show ((min b.length 16 + 1 : Nat) : Int) ≠ 0 by omega)
  have q2' := Int.emod_lt_of_pos n (show (0 : Int) < ((min b.length 16 + 1 : Nat) : Int) by omega)
  have q5 := Int.emod_nonneg (n.tdiv 3) (show ((min b.length 48 + 1 : Nat) : Int) ≠ 0 by omega)
  have q5' := Int.emod_lt_of_pos (n.tdiv 3) (show (0 : Int) < ((min b.length 48 + 1 : Nat) : Int) by omega)
  unfold zqa mkR
  simp only [Bool.and_eq_true, decide_eq_true_eq]
  refine ⟨⟨⟨⟨⟨⟨⟨⟨⟨?_, nmB_ok s⟩, ?_⟩, ?_⟩, t1⟩, t2⟩, by omega⟩, by omega⟩, by omega⟩, by omega⟩
  · exact decide_eq_true (by omega)
  · rw [List.length_take]; omega
  · rw [List.length_take]; omega
end Go.Proofs.Ytlbkogdmojlpmaa
namespace Go.Proofs.Ytlbkogdmojlpmaa
open Go.ChangeShapes Go.WideShapes Go.ChangeAt Go.RowKit Go.Shelf
def unfz (fp : Nat → Prop) (w : World) : Prop := ∀ g, fp g → ∃ c : Array Value, w.heap[g]? = some (.cells c 5 (0, 0))
def uzR (fp : Nat → Prop) : Res := ⟨false, fp, unfz fp⟩
theorem uz_dep {fp : Nat → Prop} : ∀ u u', Same (uzR fp).fp u u' → (uzR fp).F u → (uzR fp).F u' := fun u u' hs h g hg => by
  obtain ⟨c, hc⟩ := h g hg
  exact ⟨c, hs.at_ g _ hg hc⟩
theorem Byt.uz {w : World} {b : Nat} {l : List UInt8} {v : Value} (h : Byt w b v l) : unfz (ofp v) w := fun g hg => by
  rcases h.2 with ⟨e, _⟩ | ⟨g', c, cur, e, _, hc, _⟩
  · rw [e] at hg; cases hg
  · rw [e] at hg
    obtain rfl : g' = g := by simpa [ofp, Value.ownBlock] using hg
    exact ⟨cur, hc⟩
section
variable {G : Option Nat} {w0 w : World} {R : List (Nat × Res)} {i k : Nat} {l : List UInt8} {v : Value} {fp fp' : Nat → Prop} {a : Act} {o : Oper}
theorem Mx.uz0 (M : Mx G w0 w R) (i : Nat) (h : ∀ g, ¬ fp g) : Mx G w0 w ((i, uzR fp) :: R) :=
  M.cons i _ (fun g hg => absurd hg (h g)) uz_dep (fun g hg => absurd hg (h g)) (fun e => by cases e) fun _ _ _ _ _ g hg => absurd hg (h g)
theorem Mx.uzF (M : Mx G w0 w R) (h : look R k = some (uzR fp)) : unfz fp w := M.at_ k _ h
theorem Mx.uzTame (M : Mx G w0 w R) (h : look R i = some (uzR fp)) (hk : look R k = some (ownR l v)) (hs : ∀ g, fp' g → fp g ∨ bfp v g) : Mx G w0 w ((i, uzR fp') :: (k, bytR l v) :: R) := by
  have hik : ¬ k = i := fun e => by subst e; rw [h] at hk; cases hk
  have f1 : unfz fp w := M.at_ i _ h
  have f2 : unfz (ofp v) w := Byt.uz (M.at_ k _ hk)
  refine (M.tame hk).cons i _ (fun g hg => ?_) uz_dep (fun g hg => ?_) (fun e => by cases e) fun j s e hij hw g hg hg2 => ?_
  · rcases hs g hg with hg | hg
    · exact f1 g hg
    · exact f2 g (zfa hg)
  · rcases hs g hg with hg | hg
    · exact M.lt i _ h g hg
    · exact M.lt k _ hk g (zfa hg)
  · rcases hw with hw | hw
    · cases hw
    rw [look_cons] at e
    split at e
    · cases e; cases hw
    · rename_i hkj
      rcases hs g hg with hg | hg
      · exact M.dis j i s _ e h (fun e2 => hij e2.symm) hw g hg2 hg
      · exact M.dis j k s _ e hk (fun e2 => hkj e2.symm) hw g hg2 (zfa hg)
def blobR (fp : Nat → Prop) (Vs : List (Value × Nat)) : Res := ⟨true, fp, fun w => unfz fp w ∧ ∀ p, p ∈ Vs → (∀ g, bfp p.1 g → fp g) ∧ ∃ l : List UInt8, l.length = p.2 ∧ IsB w l p.1⟩
theorem blob_dep {fp : Nat → Prop} {Vs : List (Value × Nat)} : ∀ u u', Same (blobR fp Vs).fp u u' → (blobR fp Vs).F u → (blobR fp Vs).F u' := fun u u' hs h =>
  ⟨uz_dep u u' hs h.1, fun p hp => by
    obtain ⟨h1, l, h2, h3⟩ := h.2 p hp
    exact ⟨h1, l, h2, h3.same ⟨fun g o hg ho => hs.at_ g o (h1 g hg) ho, hs.size⟩⟩⟩
theorem Mx.blob {w' : World} (M : Mx G w0 w R) (h : Below w.heap.size w w') (i : Nat) {Vs : List (Value × Nat)} (hu : unfz fp w') (hv : ∀ p, p ∈ Vs → (∀ g, bfp p.1 g → fp g) ∧ ∃ l : List UInt8, l.length = p.2 ∧ IsB w' l p.1) (hlo : ∀ g, fp g → w.heap.size ≤ g) : Mx G w0 w' ((i, blobR fp Vs) :: R) :=
  M.fresh h i _ ⟨hu, hv⟩ blob_dep fun g hg => ⟨hlo g hg, by obtain ⟨c, hc⟩ := hu g hg; exact heap_lt hc⟩
theorem Mx.blobAt (M : Mx G w0 w R) {Vs : List (Value × Nat)} (h : look R k = some (blobR fp Vs)) {p : Value × Nat} (hp : p ∈ Vs) : ∃ l : List UInt8, l.length = p.2 ∧ IsB w l p.1 := ((show unfz fp w ∧ ∀ p, p ∈ Vs → (∀ g, bfp p.1 g → fp g) ∧ ∃ l : List UInt8, l.length = p.2 ∧ IsB w l p.1 from M.at_ k _ h).2 p hp).2
theorem isb_put {u u' : World} {g j : Nat} {cur : Array Value} {b : UInt8} (hg : u.heap[g]? = some (.cells cur 5 (0, 0))) (hg' : u'.heap[g]? = some (.cells (cur.toList.take j ++ [bv b] ++ cur.toList.drop (j + 1)).toArray 5 (0, 0))) (hj : j < cur.size) (ho : ∀ q, q ≠ g → ∀ o, u.heap[q]? = some o → u'.heap[q]? = some o) (hsz : u.heap.size ≤ u'.heap.size) {l : List UInt8} {v : Value} (h : IsB u l v) : ∃ l', l'.length = l.length ∧ IsB u' l' v := by
  obtain ⟨A, c, rfl, h1, h2, h3, h4⟩ := h
  by_cases hl : 0 < l.length
  · obtain ⟨a0, q, rfl, hb, hc⟩ := h4.at hl
    by_cases hag : a0 = g
    · subst hag
      refine ⟨(List.range l.length).map fun k => if q + k = j then b else l.getD k 0, by simp, ?_⟩
      refine ⟨some ⟨a0, q, none⟩, c, by simp, by simpa using h1, h2, h3, fun _ => ⟨⟨a0, q, none⟩, rfl, by exact Nat.lt_of_lt_of_le hb hsz, fun k x hx => ?_⟩⟩
      have hk : k < l.length := by have := (List.getElem?_eq_some_iff.1 hx).1; simpa using this
      have hx' : (if q + k = j then b else l.getD k 0) = x := by
        rw [List.getElem?_map, List.getElem?_range hk] at hx
        exact Option.some.inj hx
      have old := hc k (l.getD k 0) (by rw [List.getD_eq_getElem?_getD, List.getElem?_eq_getElem hk]; rfl)
      rw [zta]
      have hcell : u.cell? ⟨a0, q + k, none⟩ = cur[q + k]? := by simp [World.cell?, hg]
      rw [hcell] at old
      have hnew : u'.cell? ⟨a0, q + k, none⟩ = (cur.toList.take j ++ [bv b] ++ cur.toList.drop (j + 1))[q + k]? := by simp [World.cell?, hg']
      rw [hnew]
      have h5 : (cur.toList.take j).length = j := by rw [List.length_take, Array.length_toList]; omega
      by_cases hq : q + k = j
      · rw [if_pos hq] at hx'
        subst hx'
        rw [hq, List.append_assoc, List.getElem?_append_right (by omega), h5, Nat.sub_self]
        rfl
      · rw [if_neg hq] at hx'
        subst hx'
        rw [← Array.getElem?_toList] at old
        by_cases hlt : q + k < j
        · rw [List.append_assoc, List.getElem?_append_left (by omega), List.getElem?_take, if_pos hlt]; exact old
        · rw [List.getElem?_append_right (by rw [List.length_append, h5]; simp; omega), List.length_append, h5, List.getElem?_drop]
          simp only [List.length_cons, List.length_nil]
          rw [show j + 1 + (q + k - (j + (0 + 1))) = q + k by omega]; exact old
    · refine ⟨l, rfl, some ⟨a0, q, none⟩, c, rfl, h1, h2, h3, fun _ => ⟨⟨a0, q, none⟩, rfl, by exact Nat.lt_of_lt_of_le hb hsz, fun k x hx => ?_⟩⟩
      have old := hc k x hx
      rw [zta]
      have hbo := ho a0 hag _ (Array.getElem?_eq_getElem hb)
      simp only [World.cell?, hbo, Array.getElem?_eq_getElem hb] at old ⊢
      exact old
  · exact ⟨l, rfl, A, c, rfl, h1, h2, h3, fun h => absurd h hl⟩
theorem run_setW (M : Mx G w0 w R) {Vs : List (Value × Nat)} (hk : look R k = some (blobR fp Vs)) {p : Value × Nat} (hp : p ∈ Vs) (x y : Operand) (ho : o.op = .store 5 x y) {j : Nat} (hx : a.eval x = ixV p.1 j) {z : Int} (b : UInt8) (hy : a.eval y = .int .u8 z) (hz : z = (b.toNat : Int)) (hj : j < p.2) :
    ∃ w', (execOp a.eval o).run Try.prog w = .ok .skip w' ∧ Mx G w0 w' ((k, blobR fp Vs) :: R) := by
  subst hz
  obtain ⟨hu, hv⟩ := (show unfz fp w ∧ ∀ p, p ∈ Vs → (∀ g, bfp p.1 g → fp g) ∧ ∃ l : List UInt8, l.length = p.2 ∧ IsB w l p.1 from M.at_ k _ hk)
  obtain ⟨hf, l, hl, hB⟩ := hv p hp
  obtain ⟨A, c, e, h1, h2, h3, h4⟩ := hB
  obtain ⟨g, q, rfl, hb, hc⟩ := h4.at (by omega)
  have hbf : bfp p.1 g := by rw [e]; exact ⟨q, none, l.length, c, rfl, by omega⟩
  obtain ⟨cur, hg⟩ := hu g (hf g hbf)
  have hcell := hc j (l.getD j 0) (by rw [List.getD_eq_getElem?_getD, List.getElem?_eq_getElem (show j < l.length by omega)]; rfl)
  have hjs : q + j < cur.size := by
    simp [World.cell?, hg] at hcell
    exact (Array.getElem?_eq_some_iff.1 hcell).1
  have hi : (Try.prog.info? 5).map (·.size) = some 1 := by kernel_rfl
  have hw' := setRow_heap w g cur (cur.toList.take (q + j) ++ [bv b] ++ cur.toList.drop (q + j + 1)).toArray 5 (0, 0) hg
  have hgr : w.grownBy (w.setRow g (cur.toList.take (q + j) ++ [bv b] ++ cur.toList.drop (q + j + 1)).toArray) (some g) := zqb _ _ _
  refine ⟨w.setRow g (cur.toList.take (q + j) ++ [bv b] ++ cur.toList.drop (q + j + 1)).toArray, ?_, ?_⟩
  · refine y_st 5 x y ho (g := g) (k := q + j) (by rw [hx, e]; simp [ixV, zta]) hy hg #[.int .u8 (b.toNat : Int)] _ (by rfl) (by simp; omega) (by simp [Value.oneCell']) ?_ hi
    simp [bv]
  · refine M.write hk rfl hgr (fun q e => by cases e; exact hf g hbf) _ ⟨fun q hq => ?_, fun r hr => ?_⟩ blob_dep fun q hq => ?_
    · by_cases hqg : q = g
      · subst hqg; exact ⟨_, hw'⟩
      · obtain ⟨c2, hc2⟩ := hu q hq
        exact ⟨c2, (hgr.block q (Array.getElem?_eq_some_iff.1 hc2).1 (fun e => hqg (by cases e; rfl))).trans hc2⟩
    · obtain ⟨hfr, lr, hlr, hBr⟩ := hv r hr
      obtain ⟨l', e1, e2⟩ := isb_put hg hw' hjs (fun q hq o ho => (hgr.block q (Array.getElem?_eq_some_iff.1 ho).1 (fun e => hq (by cases e; rfl))).trans ho) hgr.size hBr
      exact ⟨hfr, l', e1.trans hlr, e2⟩
    · obtain ⟨c2, hc2⟩ := hu q hq
      exact ⟨Nat.lt_of_lt_of_le (Array.getElem?_eq_some_iff.1 hc2).1 hgr.size, .inl hq⟩
end
end Go.Proofs.Ytlbkogdmojlpmaa
namespace Go.Proofs.Ytlbkogdmojlpmaa
open Go.ChangeShapes Go.WideShapes Go.ChangeAt Go.RowKit
theorem setV_sub {V : MsgV} {v : Value} (n : Nat) : ∀ q, zna (setV V n v) q → zna V q ∨ bfp v q := by
  intro q hq
  unfold setV at hq
  split at hq <;> first
    | exact .inl hq
    | (rcases hq with hq | hq | hq | hq | hq <;> first
        | exact .inr hq
        | exact .inl (.inl hq)
        | exact .inl (.inr (.inl hq))
        | exact .inl (.inr (.inr (.inl hq)))
        | exact .inl (.inr (.inr (.inr (.inl hq))))
        | exact .inl (.inr (.inr (.inr (.inr hq)))))
theorem sub_in {V V' : MsgV} (h : ∀ g, subV V' V g) {q : Nat} (hq : zna V' q) : zna V q := by
  obtain ⟨h5, h6, h7, h8, h9⟩ := h q
  rcases hq with hq | hq | hq | hq | hq
  · exact .inl (h5 hq)
  · exact .inr (.inl (h6 hq))
  · exact .inr (.inr (.inl (h7 hq)))
  · exact .inr (.inr (.inr (.inl (h8 hq))))
  · exact .inr (.inr (.inr (.inr (h9 hq))))
theorem decodeW_any (b : List UInt8) (bv : Value) (hl : b.length ≤ 100000) (w : World) (hb : IsB w b bv) :
  Calls Try.prog 20 #[bv] w fun e w' => ∃ V, e = .returned (.tuple #[.agg (msgA (decR b) V), .bool (decOk b)]) ∧ MsgIs w' (decR b) V ∧ (∀ q, zna V q → w.heap.size ≤ q) ∧ unfz (zna V) w' ∧ Below w.heap.size w w' := by
 obtain ⟨A0, c0, rfl⟩ := hb.shape
 refine zi (args := [.slice A0 b.length c0]) 25 Try.func20 rfl rfl rfl ?_
 intro fa F
 have M := Mx.start w
 replace M := M.argB 0 hb (fun g e => by cases e)
 refine zT fun _ hK1 => ?_
 refine zg (za rfl) rfl F rfl M 1 (t := 29) (c := msgA ⟨0, 0, 0, 0, "".toUTF8, 0, 0, [], [], [], [], []⟩ ⟨zN, zN, zN, zN, zN⟩) (by unfold execOp; kernel_rfl) ?_
 intro g2 a2 w2 F2 M2
 clear F M
 refine rm rfl F2 fun _ F3 => ?_
 refine hK1 _ _ (zS fun _ hK4 => ?_)
 refine zR ?_
 refine rm rfl F3 fun _ F5 => ?_
 refine rn rfl rfl F5 rfl (.agg (#[.slice A0 b.length c0])) (by unfold execOp; simp only [List.map_toArray, List.map_cons, List.map_nil, (F5.get (t := 7) rfl)]; kernel_rfl) fun _ F6 => ?_
 refine zg (za rfl) rfl F6 rfl M2 2 (t := 83) (c := #[zN]) (by unfold execOp; kernel_rfl) ?_
 intro g7 a7 w7 F7 M7
 clear F6 M2
 refine zl (za rfl) rfl F7 M7 (k := 2) rfl _ _ _ rfl (F7.get rfl) (F7.get rfl) (#[.slice A0 b.length c0]) _ rfl (Nat.le_of_ble_eq_true rfl) (by first | rfl | simp [Value.oneCell']) (zu rfl) (by kernel_rfl) ?_
 intro w8 M8
 clear M7
 refine hK4 _ _ (zS fun _ hK9 => ?_)
 refine zR ?_
 refine zd (za rfl) rfl F7 rfl rfl (zE Try.func52 rfl) #[.pointer (some ⟨g7, 0, none⟩), .int .i64 2] (z4 (F7.get rfl) rfl) (take_any g7 b (.slice A0 b.length c0) 2 hl (by omega) w8 (M8.blk (k := 2) rfl) (M8.isb (k := 0) rfl) (fun hb => M8.dis 2 0 _ _ rfl rfl (by decide) rfl g7 rfl hb)) ?_
 rintro v10 w10 a10 ⟨u10, hv10, hu10, hs10, hc10, hg10⟩ F10
 have M10 := M8.took (k := 2) (ku := 0) rfl hg10 hc10 4 3 hv10 hu10 hs10 rfl rfl
 clear M8 hg10 hc10
 obtain ⟨A10u, c10u, rfl⟩ := hu10.shape
 clear hu10
 clear hv10
 obtain ⟨A10, c10, rfl⟩ := (M10.isO (k := 4) rfl).shape
 refine hK9 _ _ (zS fun _ hK11 => ?_)
 refine zR ?_
 refine zd (za rfl) rfl F10 rfl rfl (zE Try.func53 rfl) #[.pointer (some ⟨g7, 0, none⟩)] (zw (F10.get rfl)) (zhb g7 (b.drop 2) (.slice A10u ((b.drop 2)).length c10u) (by simp only [List.length_drop]; omega) w10 (M10.blk (k := 2) rfl) (M10.isb (k := 3) rfl) (fun hb => M10.dis 2 3 _ _ rfl rfl (by decide) rfl g7 rfl hb)) ?_
 rintro _ w12 a12 ⟨rfl, u12, hu12, hs12, hc12, hg12⟩ F12
 have M12 := M10.took0 (k := 2) (ku := 3) rfl hg12 hc12 5 hu12 hs12 rfl
 clear M10 hg12 hc12
 obtain ⟨A12u, c12u, rfl⟩ := hu12.shape
 clear hu12
 refine rn rfl rfl F12 rfl (.agg (msgA ⟨((zh ((b.drop 2).take 1) : Nat) : Int), 0, 0, 0, "".toUTF8, 0, 0, [], [], [], [], []⟩ ⟨zN, zN, zN, zN, zN⟩)) (by unfold execOp; simp only [List.map_toArray, List.map_cons, List.map_nil, (F12.get (t := 10) rfl)]; kernel_rfl) fun _ F13 => ?_
 refine zg (za rfl) rfl F13 rfl M12 6 (t := 29) (c := msgA ⟨0, 0, 0, 0, "".toUTF8, 0, 0, [], [], [], [], []⟩ ⟨zN, zN, zN, zN, zN⟩) (by unfold execOp; kernel_rfl) ?_
 intro g14 a14 w14 F14 M14
 clear F13 M12
 refine zl (za rfl) rfl F14 M14 (k := 6) rfl _ _ _ rfl (F14.get rfl) (F14.get rfl) (msgA ⟨((zh ((b.drop 2).take 1) : Nat) : Int), 0, 0, 0, "".toUTF8, 0, 0, [], [], [], [], []⟩ ⟨zN, zN, zN, zN, zN⟩) _ rfl (Nat.le_of_ble_eq_true rfl) (z0 (w := w) ⟨zc _, zc _, zc _, zc _, zc _⟩) (zu rfl) (by kernel_rfl) ?_
 intro w15 M15
 clear M14
 refine hK11 _ _ (zS fun _ hK16 => ?_)
 refine wp_block ?_
 have M17 := M15.uz0 (fp := zna vZero) 7 (fun g h => vZero_fp g h)
 clear M15
 have M18 := M17.nilB 8
 clear M17
 have M19 := M18.nilB 9
 clear M18
 have M20 := M19.nilB 10
 clear M19
 have M21 := M20.nilB 11
 clear M20
 have M22 := M21.nilB 12
 clear M21
 refine loop_fx (α := Nat × List UInt8 × MsgN × MsgV × Value) (n := 25) (G := none) (w0 := w) (fun x => [(0, .slice A0 b.length c0), (2, .pointer (some ⟨g2, 0, none⟩)), (3, .bool false), (7, .slice A0 b.length c0), (8, .agg (#[.slice A0 b.length c0])), (4, .pointer (some ⟨g7, 0, none⟩)), (9, .slice A10 ((b.take 2)).length c10), (10, .int .i64 ((zh ((b.drop 2).take 1) : Nat) : Int)), (11, .agg (msgA ⟨((zh ((b.drop 2).take 1) : Nat) : Int), 0, 0, 0, "".toUTF8, 0, 0, [], [], [], [], []⟩ ⟨zN, zN, zN, zN, zN⟩)), (5, .pointer (some ⟨g14, 0, none⟩))]) (fun x => [(7, uzR (zna x.2.2.2.1)), (0, bytR b (.slice A0 b.length c0)), (2, blkR g7 83 (#[x.2.2.2.2])), (5, bytR x.2.1 x.2.2.2.2), (6, blkR g14 29 (msgA x.2.2.1 x.2.2.2.1)), (1, blkR g2 29 (msgA ⟨0, 0, 0, 0, "".toUTF8, 0, 0, [], [], [], [], []⟩ ⟨zN, zN, zN, zN, zN⟩)), (8, bytR x.2.2.1.l5 x.2.2.2.1.v5), (9, bytR x.2.2.1.l6 x.2.2.2.1.v6), (10, bytR x.2.2.1.l7 x.2.2.2.1.v7), (11, bytR x.2.2.1.l8 x.2.2.2.1.v8), (12, bytR x.2.2.1.l9 x.2.2.2.1.v9)]) (fun k x => k = (x.1 + 1) ∧ (x.2.1.length ≤ x.1 ∧ readM x.1 x.2.1 x.2.2.1 = decM b ∧ MsgOk x.2.2.1 ∧ x.2.2.1.s.size ≤ 1000 ∧ x.2.1.length ≤ 100000 ∧ (∀ q, zna x.2.2.2.1 q → w.heap.size ≤ q))) _ ⟨((b.drop 2).drop 1).length, ((b.drop 2).drop 1), (MsgN.mk ((zh ((b.drop 2).take 1) : Nat) : Int) 0 0 0 ("".toUTF8) 0 0 [] [] [] [] []), vZero, (.slice A12u (((b.drop 2).drop 1)).length c12u)⟩ ⟨rfl, ⟨Nat.le_refl _, rfl, dec0_ok _, (show ("".toUTF8 : ByteArray).size ≤ 1000 by decide), (by simp only [List.length_drop]; omega), fun q h => (vZero_fp q h).elim⟩⟩ (F14.sub ⟨rfl, rfl, rfl, rfl, rfl, rfl, rfl, rfl, rfl, rfl, trivial⟩) (M22.sub ⟨rfl, rfl, rfl, rfl, rfl, rfl, rfl, rfl, rfl, rfl, rfl, trivial⟩) ?_
 clear F14 M22
 rintro k23 ⟨K, l, m, V, u⟩ a23 w23 K23 ⟨ek23, I23⟩ F23 M23 hK23
 replace F23 : Fx 25 a23 [(0, .slice A0 b.length c0), (2, .pointer (some ⟨g2, 0, none⟩)), (3, .bool false), (7, .slice A0 b.length c0), (8, .agg (#[.slice A0 b.length c0])), (4, .pointer (some ⟨g7, 0, none⟩)), (9, .slice A10 ((b.take 2)).length c10), (10, .int .i64 ((zh ((b.drop 2).take 1) : Nat) : Int)), (11, .agg (msgA ⟨((zh ((b.drop 2).take 1) : Nat) : Int), 0, 0, 0, "".toUTF8, 0, 0, [], [], [], [], []⟩ ⟨zN, zN, zN, zN, zN⟩)), (5, .pointer (some ⟨g14, 0, none⟩))] := F23
 replace M23 : Mx _ _ w23 [(7, uzR (zna V)), (0, bytR b (.slice A0 b.length c0)), (2, blkR g7 83 (#[u])), (5, bytR l u), (6, blkR g14 29 (msgA m V)), (1, blkR g2 29 (msgA ⟨0, 0, 0, 0, "".toUTF8, 0, 0, [], [], [], [], []⟩ ⟨zN, zN, zN, zN, zN⟩)), (8, bytR m.l5 V.v5), (9, bytR m.l6 V.v6), (10, bytR m.l7 V.v7), (11, bytR m.l8 V.v8), (12, bytR m.l9 V.v9)] := M23
 replace I23 : l.length ≤ K ∧ readM K l m = decM b ∧ MsgOk m ∧ m.s.size ≤ 1000 ∧ l.length ≤ 100000 ∧ (∀ q, zna V q → w.heap.size ≤ q) := I23
 replace ek23 : k23 = (K + 1) := ek23
 obtain ⟨hk, hM, hok, hsz, hll, hfp⟩ := I23
 by_cases hnil : l = []
 ·subst hnil
  have hMF := readM_nil hM
  refine zS fun _ hK24 => zS fun _ hK25 => ?_
  refine zR ?_
  refine zA 2 [(12, .pointer (some ⟨g7, 0, none⟩)), (13, u)] [0] (zk (M23.blk (k := 2) rfl) dnil) [g7] F23 fun _ F26 => ?_
  refine rn rfl rfl F26 rfl (.int .i64 0) (zda _ rfl (F26.get rfl) (M23.isb (k := 5) rfl) rfl) fun _ F27 => ?_
  refine rn rfl rfl F27 rfl (.bool false) (y_gtr _ _ _ _ rfl (F27.get rfl) rfl (decide_eq_false (by decide))) fun _ F28 => ?_
  refine hK25 _ _ (wp_cond_false (F28.get rfl) ?_)
  refine wp_exit ?_
  simp only [Exit.then, Exit.inBlock, ↓reduceIte, Nat.reduceEqDiff]
  refine hK16 _ _ (zS fun _ hK29 => ?_)
  refine zR ?_
  refine rn rfl rfl F28 rfl _ (zja _ _ rfl (F28.get rfl) (M23.blk (k := 6) rfl) (msgA m V) (zla rfl) Try.underlying29 rfl (by kernel_rfl)) fun _ F30 => ?_
  refine rm rfl F30 fun _ F31 => ?_
  refine zd (za rfl) rfl F31 rfl rfl (zE Try.func56 rfl) #[.agg (msgA m V), .func (.func 17) #[] #[], .slice A0 b.length c0] (args3 (F31.get rfl) rfl (F31.get rfl)) (proven_ex m V b (.slice A0 b.length c0) hok hsz w23 ⟨M23.isb (k := 8) rfl, M23.isb (k := 9) rfl, M23.isb (k := 10) rfl, M23.isb (k := 11) rfl, M23.isb (k := 12) rfl⟩ (M23.isb (k := 0) rfl)) ?_
  rintro _ w32 a32 ⟨V32, rfl, is32, lo32, b32⟩ F32
  have M32 := M23.step b32
  replace M32 := M32.part 13 _ is32.h5 zga rfl (k := 8) rfl rfl (fun g => (lo32 g).1)
  replace M32 := M32.part 14 _ is32.h6 zga rfl (k := 9) rfl rfl (fun g => (lo32 g).2.1)
  replace M32 := M32.part 15 _ is32.h7 zga rfl (k := 10) rfl rfl (fun g => (lo32 g).2.2.1)
  replace M32 := M32.part 16 _ is32.h8 zga rfl (k := 11) rfl rfl (fun g => (lo32 g).2.2.2.1)
  replace M32 := M32.part 17 _ is32.h9 zga rfl (k := 12) rfl rfl (fun g => (lo32 g).2.2.2.2)
  refine zA 2 [(23, .agg (msgA (provM m b) V32)), (24, .bool (zbb m b))] [] dnil [] F32 fun _ F33 => ?_
  refine zl (za rfl) rfl F33 M32 (k := 1) rfl _ _ _ rfl (F33.get rfl) (F33.get rfl) (msgA (provM m b) V32) _ rfl (Nat.le_of_ble_eq_true rfl) (z0 is32) (zu rfl) (by kernel_rfl) ?_
  intro w34 M34
  clear M32
  refine rm rfl F33 fun _ F35 => ?_
  refine hK29 _ _ (wp_ret ?_)
  try simp only [Exit.then, Exit.inBlock, Exit.jump]
  exact bodyPost_ret (resCT rfl (F35.get rfl) (M34.blk (k := 1) rfl) (F35.get rfl) Try.underlying29 rfl (by kernel_rfl)) F35.defers ⟨V32, (by rw [decR_prov hMF, decM_prov hMF] <;> rfl), by rw [decR_prov hMF]; exact ⟨M34.isb (k := 13) rfl, M34.isb (k := 14) rfl, M34.isb (k := 15) rfl, M34.isb (k := 16) rfl, M34.isb (k := 17) rfl⟩, sub_fp lo32 hfp, (fun g h => M34.uzF (k := 7) rfl g (sub_in lo32 h)), M34.below⟩
 have hlp := List.length_pos_iff.2 hnil
 have hr1 := readN_one (l.drop 1)
 refine zS fun _ hK36 => zS fun _ hK37 => ?_
 refine zR ?_
 refine zA 2 [(12, .pointer (some ⟨g7, 0, none⟩)), (13, u)] [0] (zk (M23.blk (k := 2) rfl) dnil) [g7] F23 fun _ F38 => ?_
 refine rn rfl rfl F38 rfl (.int .i64 (l.length : Int)) (zda _ rfl (F38.get rfl) (M23.isb (k := 5) rfl) rfl) fun _ F39 => ?_
 refine rn rfl rfl F39 rfl (.bool true) (y_gtr _ _ _ _ rfl (F39.get rfl) rfl (decide_eq_true (by have := List.length_pos_iff.2 hnil; omega))) fun _ F40 => ?_
 refine hK37 _ _ (wp_cond_true (F40.get rfl) ?_)
 refine wp_skip ?_
 refine hK36 _ _ (wp_block ?_)
 refine zT fun _ hK41 => ?_
 refine zd (za rfl) rfl F40 rfl rfl (zE Try.func53 rfl) #[.pointer (some ⟨g7, 0, none⟩)] (zw (F40.get rfl)) (zhb g7 l (u) hll w23 (M23.blk (k := 2) rfl) (M23.isb (k := 5) rfl) (fun hb => M23.dis 2 5 _ _ rfl rfl (by decide) rfl g7 rfl hb)) ?_
 rintro _ w42 a42 ⟨rfl, u42, hu42, hs42, hc42, hg42⟩ F42
 have M42 := M23.took0 (k := 2) (ku := 5) rfl hg42 hc42 13 hu42 hs42 rfl
 clear M23 hg42 hc42
 obtain ⟨A42u, c42u, rfl⟩ := hu42.shape
 clear hu42
 refine rm rfl F42 fun _ F43 => ?_
 refine hK41 _ _ (zR ?_)
 refine rm rfl F43 fun _ F44 => ?_
 refine zd (za rfl) rfl F44 rfl rfl (zE Try.func55 rfl) #[.pointer (some ⟨g7, 0, none⟩)] (zw (F44.get rfl)) (rcounted_any g7 (l.drop 1) (.slice A42u ((l.drop 1)).length c42u) (by simp only [List.length_drop]; omega) w42 (M42.blk (k := 2) rfl) (M42.isb (k := 13) rfl) (fun hb => M42.dis 2 13 _ _ rfl rfl (by decide) rfl g7 rfl hb)) ?_
 rintro v45 w45 a45 ⟨u45, hv45, hu45, hs45, hc45, hg45⟩ F45
 have M45 := M42.took (k := 2) (ku := 13) rfl hg45 hc45 15 14 hv45 hu45 hs45 rfl rfl
 clear M42 hg45 hc45
 obtain ⟨A45u, c45u, rfl⟩ := hu45.shape
 clear hu45
 clear hv45
 obtain ⟨A45, c45, rfl⟩ := (M45.isO (k := 15) rfl).shape
 refine zd (za rfl) rfl F45 rfl rfl (zE Try.func54 rfl) #[.pointer (some ⟨g14, 0, none⟩), .int .i64 ((zh (l.take 1) : Nat) : Int), .slice A45 ((((l.drop 1).drop 1).take (zh ((l.drop 1).take 1)))).length c45] (args3 (F45.get rfl) (F45.get rfl) (F45.get rfl)) (set_ex g14 m V (((l.drop 1).drop 1).take (zh ((l.drop 1).take 1))) (.slice A45 ((((l.drop 1).drop 1).take (zh ((l.drop 1).take 1)))).length c45) (by simp only [List.length_take, List.length_drop]; omega) (zh (l.take 1)) w45 (M45.blk (k := 6) rfl) (M45.isO (k := 15) rfl) (fun hb => M45.dis 15 6 _ _ rfl rfl (by decide) rfl g14 (zfa hb) rfl)) ?_
 rintro _ w46 a46 ⟨rfl, hc46, hg46⟩ F46
 have og46 := M45.owns (k := 15) rfl
 have M46 := (M45.put (k := 6) rfl hg46 hc46).uzTame (i := 7) (k := 15) rfl rfl (setV_sub (V := V) (v := .slice A45 ((((l.drop 1).drop 1).take (zh ((l.drop 1).take 1)))).length c45) (zh (l.take 1)))
 clear M45 hg46 hc46
 have Mz47 : Mx none w _ [(7, uzR (zna (setV V (zh (l.take 1)) (.slice A45 ((((l.drop 1).drop 1).take (zh ((l.drop 1).take 1)))).length c45)))), (0, bytR b (.slice A0 b.length c0)), (2, blkR g7 83 (#[.slice A45u ((((l.drop 1).drop 1).drop (zh ((l.drop 1).take 1)))).length c45u])), (5, bytR (((l.drop 1).drop 1).drop (zh ((l.drop 1).take 1))) (.slice A45u ((((l.drop 1).drop 1).drop (zh ((l.drop 1).take 1)))).length c45u)), (6, blkR g14 29 (msgA (setM m (zh (l.take 1)) (((l.drop 1).drop 1).take (zh ((l.drop 1).take 1)))) (setV V (zh (l.take 1)) (.slice A45 ((((l.drop 1).drop 1).take (zh ((l.drop 1).take 1)))).length c45)))), (1, blkR g2 29 (msgA ⟨0, 0, 0, 0, "".toUTF8, 0, 0, [], [], [], [], []⟩ ⟨zN, zN, zN, zN, zN⟩)), (8, bytR ((setM m (zh (l.take 1)) (((l.drop 1).drop 1).take (zh ((l.drop 1).take 1)))).l5) ((setV V (zh (l.take 1)) (.slice A45 ((((l.drop 1).drop 1).take (zh ((l.drop 1).take 1)))).length c45)).v5)), (9, bytR ((setM m (zh (l.take 1)) (((l.drop 1).drop 1).take (zh ((l.drop 1).take 1)))).l6) ((setV V (zh (l.take 1)) (.slice A45 ((((l.drop 1).drop 1).take (zh ((l.drop 1).take 1)))).length c45)).v6)), (10, bytR ((setM m (zh (l.take 1)) (((l.drop 1).drop 1).take (zh ((l.drop 1).take 1)))).l7) ((setV V (zh (l.take 1)) (.slice A45 ((((l.drop 1).drop 1).take (zh ((l.drop 1).take 1)))).length c45)).v7)), (11, bytR ((setM m (zh (l.take 1)) (((l.drop 1).drop 1).take (zh ((l.drop 1).take 1)))).l8) ((setV V (zh (l.take 1)) (.slice A45 ((((l.drop 1).drop 1).take (zh ((l.drop 1).take 1)))).length c45)).v8)), (12, bytR ((setM m (zh (l.take 1)) (((l.drop 1).drop 1).take (zh ((l.drop 1).take 1)))).l9) ((setV V (zh (l.take 1)) (.slice A45 ((((l.drop 1).drop 1).take (zh ((l.drop 1).take 1)))).length c45)).v9))] := M46.re ⟨⟨7, rfl, fun _ => rfl⟩, ⟨0, rfl, fun _ => rfl⟩, ⟨2, rfl, fun _ => rfl⟩, ⟨14, rfl, fun e => by cases e⟩, ⟨6, rfl, fun _ => rfl⟩, ⟨1, rfl, fun _ => rfl⟩, set_l5 (k := 8) (iv := 15) rfl rfl (zh (l.take 1)), set_l6 (k := 9) (iv := 15) rfl rfl (zh (l.take 1)), set_l7 (k := 10) (iv := 15) rfl rfl (zh (l.take 1)), set_l8 (k := 11) (iv := 15) rfl rfl (zh (l.take 1)), set_l9 (k := 12) (iv := 15) rfl rfl (zh (l.take 1)), trivial⟩
 subst ek23
 exact hK23 _ ⟨(K - 1), (((l.drop 1).drop 1).drop (zh ((l.drop 1).take 1))), (setM m (zh (l.take 1)) (((l.drop 1).drop 1).take (zh ((l.drop 1).take 1)))), (setV V (zh (l.take 1)) (.slice A45 ((((l.drop 1).drop 1).take (zh ((l.drop 1).take 1)))).length c45)), (.slice A45u ((((l.drop 1).drop 1).drop (zh ((l.drop 1).take 1)))).length c45u)⟩ _ _ (by omega) ⟨rfl, ⟨(by simp only [List.length_drop]; omega), (by rw [← hM]; exact (readM_cons hnil (by omega)).symm), (setM_ok hok hsz (by rw [List.length_take]; omega) (zh (l.take 1))).1, (setM_ok hok hsz (by rw [List.length_take]; omega) (zh (l.take 1))).2, (by simp only [List.length_drop]; omega), setV_fp hfp (fun q h => og46 q (zfa h)) (zh (l.take 1))⟩⟩ (F46.sub ⟨rfl, rfl, rfl, rfl, rfl, rfl, rfl, rfl, rfl, rfl, trivial⟩) (Mz47.sub ⟨rfl, rfl, rfl, rfl, rfl, rfl, rfl, rfl, rfl, rfl, rfl, trivial⟩)
end Go.Proofs.Ytlbkogdmojlpmaa
