/- What WireApart stands on, part 10. -/
import Derived.Deep.CutRange
import Derived.Test.YtlbkogdmojlpmaaWireApartP1
import Derived.Test.YtlbkogdmojlpmaaWireApartP2
import Derived.Test.YtlbkogdmojlpmaaWireApartP3
import Derived.Test.YtlbkogdmojlpmaaWireApartP4
import Derived.Test.YtlbkogdmojlpmaaWireApartP5
import Derived.Test.YtlbkogdmojlpmaaWireApartP6
import Derived.Test.YtlbkogdmojlpmaaWireApartP7
import Derived.Test.YtlbkogdmojlpmaaWireApartP8
import Derived.Test.YtlbkogdmojlpmaaWireApartP9
namespace Go.Proofs.Ytlbkogdmojlpmaa
set_option linter.unusedVariables false
set_option maxRecDepth 20000
set_option linter.unusedSimpArgs false
open Go.ChangeShapes Go.WideShapes Go.ChangeAt Go.RowKit
def mkR (n : Int) (s : ByteArray) (b : List UInt8) : RecN :=
  ⟨1 + n % 2, nmB s, b.take (n % ((min b.length 16 + 1 : Nat) : Int)).toNat, ((n.tdiv 2) % 4294967296).toNat, ((n.tdiv 7) % 4294967296).toNat, b.take ((n.tdiv 3) % ((min b.length 48 + 1 : Nat) : Int)).toNat, (n.tdiv 11) % 6, (n.tdiv 13) % 1000, (n.tdiv 17) % 1099511627776⟩
set_option maxRecDepth 100000 in
set_option maxHeartbeats 8000000 in
theorem make_rec (n : Int) (s : ByteArray) (b : List UInt8) (v : Value) (hN : -9223372036854775808 ≤ n ∧ n < 9223372036854775808) (hs : s.size ≤ 40) (hbl : b.length ≤ 1000) (w : World) (hv : IsB w b v) :
    Calls Try.prog 34 #[.int .i64 n, .string s, v] w fun e w' => ∃ t, e = .returned t ∧ ∃ V, t = .agg (recA (mkR n s b) V) ∧ RecIs w' (mkR n s b) V ∧ (∀ g, bfp V.v2 g ∨ bfp V.v5 g → w.heap.size ≤ g) ∧ Below w.heap.size w w' := by
  obtain ⟨K2, hK2⟩ : ∃ K : Nat, n % ((min b.length 16 + 1 : Nat) : Int) = (K : Int) := ⟨(n % ((min b.length 16 + 1 : Nat) : Int)).toNat, (Int.toNat_of_nonneg (Int.emod_nonneg _ (by omega))).symm⟩
  obtain ⟨K5, hK5⟩ : ∃ K : Nat, (n.tdiv 3) % ((min b.length 48 + 1 : Nat) : Int) = (K : Int) := ⟨((n.tdiv 3) % ((min b.length 48 + 1 : Nat) : Int)).toNat, (Int.toNat_of_nonneg (Int.emod_nonneg _ (by omega))).symm⟩
  have hK2l := Int.emod_lt_of_pos n (show 0 < ((min b.length 16 + 1 : Nat) : Int) by omega)
  have hK5l := Int.emod_lt_of_pos (n.tdiv 3) (show 0 < ((min b.length 48 + 1 : Nat) : Int) by omega)
  have hK2b : K2 ≤ b.length := by omega
  have hK5b : K5 ≤ b.length := by omega
  refine calls_fx (args := [.int .i64 n, .string s, v]) 57 Try.func34 rfl rfl rfl ?_
  intro fa F
  have M := Mx.start w
  replace M := M.argB 0 hv (fun g e => by cases e)
  refine wp_seq_k fun K1 hK1 => wp_region_lit ?_
  refine wl_alloc (wanted_none rfl) rfl F rfl M 1 (t := 54) (c := recA ⟨0, "".toUTF8, [], 0, 0, [], 0, 0, 0⟩ ⟨.slice none 0 0, .slice none 0 0⟩) (by unfold execOp; kernel_rfl) ?_
  intro g2 a2 w2 F2 M2
  clear F M
  refine hK1 _ _ (wp_seq_k fun K3 hK3 => ?_)
  refine wp_region_lit ?_
  refine rm rfl F2 fun a4 F4 => ?_
  refine wl_call (wanted_none rfl) rfl F4 rfl rfl (enters_of Try.func22 (by kernel_rfl) rfl) #[.int .i64 n, .int .i64 2] (args2 (F4.get rfl) rfl) (call_ex ((within5_any n 2 (by omega) (by omega) hN.1 hN.2 w2))) ?_
  rintro _ w5 a5 ⟨rfl, rfl⟩ F5
  refine rn rfl rfl F5 rfl (.int .i64 (1 + (n % 2))) (y_addI _ _ _ _ rfl rfl (F5.get rfl) rfl (by omega)) fun a6 F6 => ?_
  refine rm rfl F6 fun a7 F7 => ?_
  refine wl_call (wanted_none rfl) rfl F7 rfl rfl (enters_of Try.func42 (by kernel_rfl) rfl) #[.string s] (args1 (F7.get rfl)) (call_ex ((lname_any s hs w2))) ?_
  rintro _ w8 a8 ⟨rfl, b8⟩ F8
  have M8 := M2.step b8
  refine rm rfl F8 fun a9 F9 => ?_
  refine rn rfl rfl F9 rfl (.int .i64 (n.tdiv 2)) (y_quoT _ _ _ _ rfl (F9.get rfl) rfl hN (by decide) rfl) fun a10 F10 => ?_
  refine wl_call (wanted_none rfl) rfl F10 rfl rfl (enters_of Try.func22 (by kernel_rfl) rfl) #[.int .i64 (n.tdiv 2), .int .i64 4294967296] (args2 (F10.get rfl) rfl) (call_ex ((within5_any (n.tdiv 2) 4294967296 (by omega) (by omega) (tdiv_bnd hN (show (0 : Int) < 2 by decide)).1 (tdiv_bnd hN (show (0 : Int) < 2 by decide)).2 w8))) ?_
  rintro _ w11 a11 ⟨rfl, rfl⟩ F11
  refine wl_call (wanted_none rfl) rfl F11 rfl rfl (enters_of Try.func24 (by kernel_rfl) rfl) #[.int .i64 ((n.tdiv 2) % 4294967296)] (args1 (F11.get rfl)) (call_ex ((from_ref ((n.tdiv 2) % 4294967296) (by omega) (by omega) w8))) ?_
  rintro _ w12 a12 ⟨rfl, b12⟩ F12
  have M12 := M8.step b12
  refine rm rfl F12 fun a13 F13 => ?_
  refine rn rfl rfl F13 rfl (.int .i64 (n.tdiv 7)) (y_quoT _ _ _ _ rfl (F13.get rfl) rfl hN (by decide) rfl) fun a14 F14 => ?_
  refine wl_call (wanted_none rfl) rfl F14 rfl rfl (enters_of Try.func22 (by kernel_rfl) rfl) #[.int .i64 (n.tdiv 7), .int .i64 4294967296] (args2 (F14.get rfl) rfl) (call_ex ((within5_any (n.tdiv 7) 4294967296 (by omega) (by omega) (tdiv_bnd hN (show (0 : Int) < 7 by decide)).1 (tdiv_bnd hN (show (0 : Int) < 7 by decide)).2 w12))) ?_
  rintro _ w15 a15 ⟨rfl, rfl⟩ F15
  refine wl_call (wanted_none rfl) rfl F15 rfl rfl (enters_of Try.func24 (by kernel_rfl) rfl) #[.int .i64 ((n.tdiv 7) % 4294967296)] (args1 (F15.get rfl)) (call_ex ((from_ref ((n.tdiv 7) % 4294967296) (by omega) (by omega) w12))) ?_
  rintro _ w16 a16 ⟨rfl, b16⟩ F16
  have M16 := M12.step b16
  refine rm rfl F16 fun a17 F17 => ?_
  refine rn rfl rfl F17 rfl (.int .i64 (n.tdiv 11)) (y_quoT _ _ _ _ rfl (F17.get rfl) rfl hN (by decide) rfl) fun a18 F18 => ?_
  refine wl_call (wanted_none rfl) rfl F18 rfl rfl (enters_of Try.func22 (by kernel_rfl) rfl) #[.int .i64 (n.tdiv 11), .int .i64 6] (args2 (F18.get rfl) rfl) (call_ex ((within5_any (n.tdiv 11) 6 (by omega) (by omega) (tdiv_bnd hN (show (0 : Int) < 11 by decide)).1 (tdiv_bnd hN (show (0 : Int) < 11 by decide)).2 w16))) ?_
  rintro _ w19 a19 ⟨rfl, rfl⟩ F19
  refine rm rfl F19 fun a20 F20 => ?_
  refine rn rfl rfl F20 rfl (.int .i64 (n.tdiv 13)) (y_quoT _ _ _ _ rfl (F20.get rfl) rfl hN (by decide) rfl) fun a21 F21 => ?_
  refine wl_call (wanted_none rfl) rfl F21 rfl rfl (enters_of Try.func22 (by kernel_rfl) rfl) #[.int .i64 (n.tdiv 13), .int .i64 1000] (args2 (F21.get rfl) rfl) (call_ex ((within5_any (n.tdiv 13) 1000 (by omega) (by omega) (tdiv_bnd hN (show (0 : Int) < 13 by decide)).1 (tdiv_bnd hN (show (0 : Int) < 13 by decide)).2 w16))) ?_
  rintro _ w22 a22 ⟨rfl, rfl⟩ F22
  refine rm rfl F22 fun a23 F23 => ?_
  refine rn rfl rfl F23 rfl (.int .i64 (n.tdiv 17)) (y_quoT _ _ _ _ rfl (F23.get rfl) rfl hN (by decide) rfl) fun a24 F24 => ?_
  refine wl_call (wanted_none rfl) rfl F24 rfl rfl (enters_of Try.func22 (by kernel_rfl) rfl) #[.int .i64 (n.tdiv 17), .int .i64 1099511627776] (args2 (F24.get rfl) rfl) (call_ex ((within5_any (n.tdiv 17) 1099511627776 (by omega) (by omega) (tdiv_bnd hN (show (0 : Int) < 17 by decide)).1 (tdiv_bnd hN (show (0 : Int) < 17 by decide)).2 w16))) ?_
  rintro _ w25 a25 ⟨rfl, rfl⟩ F25
  refine rn rfl rfl F25 rfl (.agg (recA ⟨1 + (n % 2), (nmB s), [], (((n.tdiv 2) % 4294967296)).toNat, (((n.tdiv 7) % 4294967296)).toNat, [], ((n.tdiv 11) % 6), ((n.tdiv 13) % 1000), ((n.tdiv 17) % 1099511627776)⟩ ⟨.slice none 0 0, .slice none 0 0⟩)) (by unfold execOp; simp only [List.map_toArray, List.map_cons, List.map_nil, (F25.get (t := 10) rfl), (F25.get (t := 12) rfl), (F25.get (t := 16) rfl), (F25.get (t := 20) rfl), (F25.get (t := 23) rfl), (F25.get (t := 26) rfl), (F25.get (t := 29) rfl)]; kernel_rfl) fun a26 F26 => ?_
  refine wl_alloc (wanted_none rfl) rfl F26 rfl M16 2 (t := 54) (c := recA ⟨0, "".toUTF8, [], 0, 0, [], 0, 0, 0⟩ ⟨.slice none 0 0, .slice none 0 0⟩) (by unfold execOp; kernel_rfl) ?_
  intro g27 a27 w27 F27 M27
  clear F26 M16
  refine wl_st (wanted_none rfl) rfl F27 M27 (k := 2) rfl _ _ _ rfl (F27.get rfl) (F27.get rfl) (recA ⟨1 + (n % 2), (nmB s), [], (((n.tdiv 2) % 4294967296)).toNat, (((n.tdiv 7) % 4294967296)).toNat, [], ((n.tdiv 11) % 6), ((n.tdiv 13) % 1000), ((n.tdiv 17) % 1099511627776)⟩ ⟨.slice none 0 0, .slice none 0 0⟩) (recA ⟨1 + (n % 2), (nmB s), [], (((n.tdiv 2) % 4294967296)).toNat, (((n.tdiv 7) % 4294967296)).toNat, [], ((n.tdiv 11) % 6), ((n.tdiv 13) % 1000), ((n.tdiv 17) % 1099511627776)⟩ ⟨.slice none 0 0, .slice none 0 0⟩) rfl (Nat.le_of_ble_eq_true rfl) (recA_one (w := w27) ⟨(isb_nil _), (isb_nil _)⟩) (y_put0 rfl) (by kernel_rfl) ?_
  intro w28 M28
  clear M27
  refine hK3 _ _ (wp_seq_k fun K29 hK29 => ?_)
  refine region_fxM F27 [fun vE => vE = .pointer (some ⟨g27, 2, none⟩), fun vE => vE = .slice none 0 0, fun vE => vE = v, fun vE => vE = .int .i64 n, fun vE => vE = v, fun vE => vE = .int .i64 (b.length : Int), fun vE => vE = .int .i64 ((min b.length 16 : Nat) : Int), fun vE => vE = .int .i64 ((min b.length 16 + 1 : Nat) : Int), fun vE => vE = .int .i64 (K2 : Int), fun _ => True] (JM none w fun SV pV => [(0, bytR b v), (1, blkR g2 54 (recA ⟨0, "".toUTF8, [], 0, 0, [], 0, 0, 0⟩ ⟨.slice none 0 0, .slice none 0 0⟩)), (2, blkR g27 54 (recA ⟨1 + (n % 2), (nmB s), [], (((n.tdiv 2) % 4294967296)).toNat, (((n.tdiv 7) % 4294967296)).toNat, [], ((n.tdiv 11) % 6), ((n.tdiv 13) % 1000), ((n.tdiv 17) % 1099511627776)⟩ ⟨.slice none 0 0, .slice none 0 0⟩)), (3, condR (SV 9) (bytR (b.take K2) (pV 9)))]) 10 rfl (by kernel_rfl) rfl ⟨trivial, trivial, trivial, trivial, trivial, trivial, trivial, trivial, trivial, trivial, trivial⟩ (fun p => ((M28.step (step_drew _)).triv 3).sub ⟨rfl, rfl, rfl, rfl, trivial⟩) ⟨?_, ?_, ?_, ?_, ?_, ?_, ?_, ?_, ?_, ?_, trivial⟩ ?_
  · intro ua uw SV pV M0 hk hn hd
    have M : Mx none w uw _ := M0
    clear M0
    have e7 : ua.eval (.tmp 7) = .pointer (some ⟨g27, 0, none⟩) := (show ua.eval (.tmp 7) = _ from hd 7 (by decide)).trans (F27.get (t := 7) rfl)
    exact hopM_run (wanted_none rfl) (.pointer (some ⟨g27, 2, none⟩)) (y_fa (off := 2) rfl e7 (by kernel_rfl) rfl) rfl (M.sub ⟨rfl, rfl, rfl, rfl, trivial⟩)
  · intro ua uw SV pV M0 hk hn hd
    have M : Mx none w uw _ := M0
    clear M0
    obtain ⟨s0, f31, q31⟩ := (show SV 0 = true ∧ ua.eval (.tmp 31) = pV 0 ∧ stE _ 0 (pV 0) from hd 31 (by decide))
    have e31 : ua.eval (.tmp 31) = .pointer (some ⟨g27, 2, none⟩) := f31.trans q31
    exact hopM_run (wanted_none rfl) (.slice none 0 0) (y_ld1 _ _ rfl e31 (M.blk (k := 2) rfl) rfl Try.underlying22 rfl) rfl (M.sub ⟨rfl, rfl, rfl, rfl, trivial⟩)
  · intro ua uw SV pV M0 hk hn hd
    have M : Mx none w uw _ := M0
    clear M0
    have e2 : ua.eval (.tmp 2) = v := (show ua.eval (.tmp 2) = _ from hd 2 (by decide)).trans (F27.get (t := 2) rfl)
    exact hopM_run (wanted_none rfl) (v) (run_mv _ (.inl rfl) e2) rfl (M.sub ⟨rfl, rfl, rfl, rfl, trivial⟩)
  · intro ua uw SV pV M0 hk hn hd
    have M : Mx none w uw _ := M0
    clear M0
    have e0 : ua.eval (.tmp 0) = .int .i64 n := (show ua.eval (.tmp 0) = _ from hd 0 (by decide)).trans (F27.get (t := 0) rfl)
    exact hopM_run (wanted_none rfl) (.int .i64 n) (run_mv _ (.inl rfl) e0) rfl (M.sub ⟨rfl, rfl, rfl, rfl, trivial⟩)
  · intro ua uw SV pV M0 hk hn hd
    have M : Mx none w uw _ := M0
    clear M0
    have e2 : ua.eval (.tmp 2) = v := (show ua.eval (.tmp 2) = _ from hd 2 (by decide)).trans (F27.get (t := 2) rfl)
    exact hopM_run (wanted_none rfl) (v) (run_mv _ (.inl rfl) e2) rfl (M.sub ⟨rfl, rfl, rfl, rfl, trivial⟩)
  · intro ua uw SV pV M0 hk hn hd
    have M : Mx none w uw _ := M0
    clear M0
    obtain ⟨s4, f35, q35⟩ := (show SV 4 = true ∧ ua.eval (.tmp 35) = pV 4 ∧ stE _ 4 (pV 4) from hd 35 (by decide))
    have e35 : ua.eval (.tmp 35) = v := f35.trans q35
    exact hopM_run (wanted_none rfl) (.int .i64 (b.length : Int)) (y_len _ rfl e35 (M.isb (k := 0) rfl) rfl) rfl (M.sub ⟨rfl, rfl, rfl, rfl, trivial⟩)
  · intro ua uw SV pV M0 hk hn hd
    have M : Mx none w uw _ := M0
    clear M0
    obtain ⟨s5, f36, q36⟩ := (show SV 5 = true ∧ ua.eval (.tmp 36) = pV 5 ∧ stE _ 5 (pV 5) from hd 36 (by decide))
    have e36 : ua.eval (.tmp 36) = .int .i64 (b.length : Int) := f36.trans q36
    exact hopM_run (wanted_none rfl) (.int .i64 ((min b.length 16 : Nat) : Int)) (y_min _ _ rfl e36 rfl (by split <;> omega)) rfl (M.sub ⟨rfl, rfl, rfl, rfl, trivial⟩)
  · intro ua uw SV pV M0 hk hn hd
    have M : Mx none w uw _ := M0
    clear M0
    obtain ⟨s6, f37, q37⟩ := (show SV 6 = true ∧ ua.eval (.tmp 37) = pV 6 ∧ stE _ 6 (pV 6) from hd 37 (by decide))
    have e37 : ua.eval (.tmp 37) = .int .i64 ((min b.length 16 : Nat) : Int) := f37.trans q37
    exact hopM_run (wanted_none rfl) (.int .i64 ((min b.length 16 + 1 : Nat) : Int)) (y_addI _ _ _ _ rfl e37 rfl (by omega) (by omega)) rfl (M.sub ⟨rfl, rfl, rfl, rfl, trivial⟩)
  · intro ua uw SV pV M0 hk hn hd
    have M : Mx none w uw _ := M0
    clear M0
    obtain ⟨s3, f34, q34⟩ := (show SV 3 = true ∧ ua.eval (.tmp 34) = pV 3 ∧ stE _ 3 (pV 3) from hd 34 (by decide))
    have e34 : ua.eval (.tmp 34) = .int .i64 n := f34.trans q34
    obtain ⟨s7, f38, q38⟩ := (show SV 7 = true ∧ ua.eval (.tmp 38) = pV 7 ∧ stE _ 7 (pV 7) from hd 38 (by decide))
    have e38 : ua.eval (.tmp 38) = .int .i64 ((min b.length 16 + 1 : Nat) : Int) := f38.trans q38
    exact hopM_call (wanted_none rfl) rfl #[.int .i64 n, .int .i64 ((min b.length 16 + 1 : Nat) : Int)] (args2 e34 e38) (enters_of Try.func22 (by kernel_rfl) rfl) (((same_eq ((hK2 ▸ within5_any n ((min b.length 16 + 1 : Nat) : Int) (by omega) (by omega) hN.1 hN.2 uw)))).mono fun e w2 h => ⟨_, h.1, rfl, (M.step h.2).sub ⟨rfl, rfl, rfl, rfl, trivial⟩⟩)
  · intro ua uw SV pV M0 hk hn hd
    have M : Mx none w uw _ := M0
    clear M0
    obtain ⟨s2, f33, q33⟩ := (show SV 2 = true ∧ ua.eval (.tmp 33) = pV 2 ∧ stE _ 2 (pV 2) from hd 33 (by decide))
    have e33 : ua.eval (.tmp 33) = v := f33.trans q33
    obtain ⟨s8, f39, q39⟩ := (show SV 8 = true ∧ ua.eval (.tmp 39) = pV 8 ∧ stE _ 8 (pV 8) from hd 39 (by decide))
    have e39 : ua.eval (.tmp 39) = .int .i64 (K2 : Int) := f39.trans q39
    exact hopM_exE (wanted_none rfl) (y_slTo _ _ rfl e33 (M.isb (k := 0) rfl) e39 (j := K2) rfl hK2b) fun v h => ⟨trivial, (M.partB 3 (k := 0) rfl h.1 h.2).sub ⟨rfl, rfl, rfl, rfl, trivial⟩⟩
  intro p30 a30 w30 M30 G30 y30
  obtain ⟨-, q1, -, -, -, -, -, -, -, q9, -⟩ := y30
  have r1 : p30 1 = .slice none 0 0 := q1
  replace M30 : Mx _ _ w30 [(0, bytR b v), (1, blkR g2 54 (recA ⟨0, "".toUTF8, [], 0, 0, [], 0, 0, 0⟩ ⟨.slice none 0 0, .slice none 0 0⟩)), (2, blkR g27 54 (recA ⟨1 + (n % 2), (nmB s), [], (((n.tdiv 2) % 4294967296)).toNat, (((n.tdiv 7) % 4294967296)).toNat, [], ((n.tdiv 11) % 6), ((n.tdiv 13) % 1000), ((n.tdiv 17) % 1099511627776)⟩ ⟨.slice none 0 0, .slice none 0 0⟩)), (3, condR true (bytR (b.take K2) (p30 9)))] := M30
  simp only [List.take_succ_cons, List.take_zero, layV, Nat.zero_add, Nat.reduceAdd, r1] at G30
  obtain ⟨Ap30_3, cp30_3, hp30_3⟩ := (M30.isb (k := 3) rfl).shape
  rw [hp30_3] at M30
  try rw [hp30_3] at G30
  simp only [List.drop_succ_cons, List.drop_zero]
  have M31 := M30.nilO 4
  clear M30
  refine wl_runM (wanted_none rfl) rfl G30 rfl (run_app M31 (k := 4) rfl _ _ rfl (G30.get rfl) (G30.get rfl) (M31.isb (k := 3) rfl) (by simp only [List.length_nil, List.length_take]; omega)) ?_
  intro v32 a32 w32 F32 M32
  clear G30 M31
  obtain ⟨A32, c32, rfl⟩ := (M32.isO (k := 4) rfl).shape
  refine rn rfl rfl F32 rfl (.pointer (some ⟨g27, 2, none⟩)) (y_fa (off := 2) rfl (F32.get rfl) (by kernel_rfl) rfl) fun a33 F33 => ?_
  refine wl_st (wanted_none rfl) rfl F33 M32 (k := 2) rfl _ _ _ rfl (F33.get rfl) (F33.get rfl) (#[.slice A32 (([] ++ (b.take K2))).length c32]) (recA ⟨1 + (n % 2), (nmB s), ([] ++ (b.take K2)), (((n.tdiv 2) % 4294967296)).toNat, (((n.tdiv 7) % 4294967296)).toNat, [], ((n.tdiv 11) % 6), ((n.tdiv 13) % 1000), ((n.tdiv 17) % 1099511627776)⟩ ⟨.slice A32 (([] ++ (b.take K2))).length c32, .slice none 0 0⟩) rfl (Nat.le_of_ble_eq_true rfl) (one_slcB (M32.isO (k := 4) rfl)) (by kernel_rfl) (by kernel_rfl) ?_
  intro w34 M34
  clear M32
  refine hK29 _ _ (wp_seq_k fun K35 hK35 => ?_)
  refine region_fxM F33 [fun vE => vE = .pointer (some ⟨g27, 19, none⟩), fun vE => vE = .slice none 0 0, fun vE => vE = v, fun vE => vE = .int .i64 n, fun vE => vE = .int .i64 (n.tdiv 3), fun vE => vE = v, fun vE => vE = .int .i64 (b.length : Int), fun vE => vE = .int .i64 ((min b.length 48 : Nat) : Int), fun vE => vE = .int .i64 ((min b.length 48 + 1 : Nat) : Int), fun vE => vE = .int .i64 (K5 : Int), fun _ => True] (JM none w fun SV pV => [(0, bytR b v), (1, blkR g2 54 (recA ⟨0, "".toUTF8, [], 0, 0, [], 0, 0, 0⟩ ⟨.slice none 0 0, .slice none 0 0⟩)), (2, blkR g27 54 (recA ⟨1 + (n % 2), (nmB s), ([] ++ (b.take K2)), (((n.tdiv 2) % 4294967296)).toNat, (((n.tdiv 7) % 4294967296)).toNat, [], ((n.tdiv 11) % 6), ((n.tdiv 13) % 1000), ((n.tdiv 17) % 1099511627776)⟩ ⟨.slice A32 (([] ++ (b.take K2))).length c32, .slice none 0 0⟩)), (3, bytR (b.take K2) (.slice Ap30_3 ((b.take K2)).length cp30_3)), (4, ownR ([] ++ (b.take K2)) (.slice A32 (([] ++ (b.take K2))).length c32)), (5, condR (SV 10) (bytR (b.take K5) (pV 10)))]) 11 rfl (by kernel_rfl) rfl ⟨trivial, trivial, trivial, trivial, trivial, trivial, trivial, trivial, trivial, trivial, trivial, trivial⟩ (fun p => ((M34.step (step_drew _)).triv 5).sub ⟨rfl, rfl, rfl, rfl, rfl, rfl, trivial⟩) ⟨?_, ?_, ?_, ?_, ?_, ?_, ?_, ?_, ?_, ?_, ?_, trivial⟩ ?_
  · intro ua uw SV pV M0 hk hn hd
    have M : Mx none w uw _ := M0
    clear M0
    have e7 : ua.eval (.tmp 7) = .pointer (some ⟨g27, 0, none⟩) := (show ua.eval (.tmp 7) = _ from hd 7 (by decide)).trans (F33.get (t := 7) rfl)
    exact hopM_run (wanted_none rfl) (.pointer (some ⟨g27, 19, none⟩)) (y_fa (off := 19) rfl e7 (by kernel_rfl) rfl) rfl (M.sub ⟨rfl, rfl, rfl, rfl, rfl, rfl, trivial⟩)
  · intro ua uw SV pV M0 hk hn hd
    have M : Mx none w uw _ := M0
    clear M0
    obtain ⟨s0, f43, q43⟩ := (show SV 0 = true ∧ ua.eval (.tmp 43) = pV 0 ∧ stE _ 0 (pV 0) from hd 43 (by decide))
    have e43 : ua.eval (.tmp 43) = .pointer (some ⟨g27, 19, none⟩) := f43.trans q43
    exact hopM_run (wanted_none rfl) (.slice none 0 0) (y_ld1 _ _ rfl e43 (M.blk (k := 2) rfl) rfl Try.underlying22 rfl) rfl (M.sub ⟨rfl, rfl, rfl, rfl, rfl, rfl, trivial⟩)
  · intro ua uw SV pV M0 hk hn hd
    have M : Mx none w uw _ := M0
    clear M0
    have e2 : ua.eval (.tmp 2) = v := (show ua.eval (.tmp 2) = _ from hd 2 (by decide)).trans (F33.get (t := 2) rfl)
    exact hopM_run (wanted_none rfl) (v) (run_mv _ (.inl rfl) e2) rfl (M.sub ⟨rfl, rfl, rfl, rfl, rfl, rfl, trivial⟩)
  · intro ua uw SV pV M0 hk hn hd
    have M : Mx none w uw _ := M0
    clear M0
    have e0 : ua.eval (.tmp 0) = .int .i64 n := (show ua.eval (.tmp 0) = _ from hd 0 (by decide)).trans (F33.get (t := 0) rfl)
    exact hopM_run (wanted_none rfl) (.int .i64 n) (run_mv _ (.inl rfl) e0) rfl (M.sub ⟨rfl, rfl, rfl, rfl, rfl, rfl, trivial⟩)
  · intro ua uw SV pV M0 hk hn hd
    have M : Mx none w uw _ := M0
    clear M0
    obtain ⟨s3, f46, q46⟩ := (show SV 3 = true ∧ ua.eval (.tmp 46) = pV 3 ∧ stE _ 3 (pV 3) from hd 46 (by decide))
    have e46 : ua.eval (.tmp 46) = .int .i64 n := f46.trans q46
    exact hopM_run (wanted_none rfl) (.int .i64 (n.tdiv 3)) (y_quoT _ _ _ _ rfl e46 rfl hN (by decide) rfl) rfl (M.sub ⟨rfl, rfl, rfl, rfl, rfl, rfl, trivial⟩)
  · intro ua uw SV pV M0 hk hn hd
    have M : Mx none w uw _ := M0
    clear M0
    have e2 : ua.eval (.tmp 2) = v := (show ua.eval (.tmp 2) = _ from hd 2 (by decide)).trans (F33.get (t := 2) rfl)
    exact hopM_run (wanted_none rfl) (v) (run_mv _ (.inl rfl) e2) rfl (M.sub ⟨rfl, rfl, rfl, rfl, rfl, rfl, trivial⟩)
  · intro ua uw SV pV M0 hk hn hd
    have M : Mx none w uw _ := M0
    clear M0
    obtain ⟨s5, f48, q48⟩ := (show SV 5 = true ∧ ua.eval (.tmp 48) = pV 5 ∧ stE _ 5 (pV 5) from hd 48 (by decide))
    have e48 : ua.eval (.tmp 48) = v := f48.trans q48
    exact hopM_run (wanted_none rfl) (.int .i64 (b.length : Int)) (y_len _ rfl e48 (M.isb (k := 0) rfl) rfl) rfl (M.sub ⟨rfl, rfl, rfl, rfl, rfl, rfl, trivial⟩)
  · intro ua uw SV pV M0 hk hn hd
    have M : Mx none w uw _ := M0
    clear M0
    obtain ⟨s6, f49, q49⟩ := (show SV 6 = true ∧ ua.eval (.tmp 49) = pV 6 ∧ stE _ 6 (pV 6) from hd 49 (by decide))
    have e49 : ua.eval (.tmp 49) = .int .i64 (b.length : Int) := f49.trans q49
    exact hopM_run (wanted_none rfl) (.int .i64 ((min b.length 48 : Nat) : Int)) (y_min _ _ rfl e49 rfl (by split <;> omega)) rfl (M.sub ⟨rfl, rfl, rfl, rfl, rfl, rfl, trivial⟩)
  · intro ua uw SV pV M0 hk hn hd
    have M : Mx none w uw _ := M0
    clear M0
    obtain ⟨s7, f50, q50⟩ := (show SV 7 = true ∧ ua.eval (.tmp 50) = pV 7 ∧ stE _ 7 (pV 7) from hd 50 (by decide))
    have e50 : ua.eval (.tmp 50) = .int .i64 ((min b.length 48 : Nat) : Int) := f50.trans q50
    exact hopM_run (wanted_none rfl) (.int .i64 ((min b.length 48 + 1 : Nat) : Int)) (y_addI _ _ _ _ rfl e50 rfl (by omega) (by omega)) rfl (M.sub ⟨rfl, rfl, rfl, rfl, rfl, rfl, trivial⟩)
  · intro ua uw SV pV M0 hk hn hd
    have M : Mx none w uw _ := M0
    clear M0
    obtain ⟨s4, f47, q47⟩ := (show SV 4 = true ∧ ua.eval (.tmp 47) = pV 4 ∧ stE _ 4 (pV 4) from hd 47 (by decide))
    have e47 : ua.eval (.tmp 47) = .int .i64 (n.tdiv 3) := f47.trans q47
    obtain ⟨s8, f51, q51⟩ := (show SV 8 = true ∧ ua.eval (.tmp 51) = pV 8 ∧ stE _ 8 (pV 8) from hd 51 (by decide))
    have e51 : ua.eval (.tmp 51) = .int .i64 ((min b.length 48 + 1 : Nat) : Int) := f51.trans q51
    exact hopM_call (wanted_none rfl) rfl #[.int .i64 (n.tdiv 3), .int .i64 ((min b.length 48 + 1 : Nat) : Int)] (args2 e47 e51) (enters_of Try.func22 (by kernel_rfl) rfl) (((same_eq ((hK5 ▸ within5_any (n.tdiv 3) ((min b.length 48 + 1 : Nat) : Int) (by omega) (by omega) (tdiv_bnd hN (show (0 : Int) < 3 by decide)).1 (tdiv_bnd hN (show (0 : Int) < 3 by decide)).2 uw)))).mono fun e w2 h => ⟨_, h.1, rfl, (M.step h.2).sub ⟨rfl, rfl, rfl, rfl, rfl, rfl, trivial⟩⟩)
  · intro ua uw SV pV M0 hk hn hd
    have M : Mx none w uw _ := M0
    clear M0
    obtain ⟨s2, f45, q45⟩ := (show SV 2 = true ∧ ua.eval (.tmp 45) = pV 2 ∧ stE _ 2 (pV 2) from hd 45 (by decide))
    have e45 : ua.eval (.tmp 45) = v := f45.trans q45
    obtain ⟨s9, f52, q52⟩ := (show SV 9 = true ∧ ua.eval (.tmp 52) = pV 9 ∧ stE _ 9 (pV 9) from hd 52 (by decide))
    have e52 : ua.eval (.tmp 52) = .int .i64 (K5 : Int) := f52.trans q52
    exact hopM_exE (wanted_none rfl) (y_slTo _ _ rfl e45 (M.isb (k := 0) rfl) e52 (j := K5) rfl hK5b) fun v h => ⟨trivial, (M.partB 5 (k := 0) rfl h.1 h.2).sub ⟨rfl, rfl, rfl, rfl, rfl, rfl, trivial⟩⟩
  intro p36 a36 w36 M36 G36 y36
  obtain ⟨-, q1, -, -, -, -, -, -, -, -, q10, -⟩ := y36
  have r1 : p36 1 = .slice none 0 0 := q1
  replace M36 : Mx _ _ w36 [(0, bytR b v), (1, blkR g2 54 (recA ⟨0, "".toUTF8, [], 0, 0, [], 0, 0, 0⟩ ⟨.slice none 0 0, .slice none 0 0⟩)), (2, blkR g27 54 (recA ⟨1 + (n % 2), (nmB s), ([] ++ (b.take K2)), (((n.tdiv 2) % 4294967296)).toNat, (((n.tdiv 7) % 4294967296)).toNat, [], ((n.tdiv 11) % 6), ((n.tdiv 13) % 1000), ((n.tdiv 17) % 1099511627776)⟩ ⟨.slice A32 (([] ++ (b.take K2))).length c32, .slice none 0 0⟩)), (3, bytR (b.take K2) (.slice Ap30_3 ((b.take K2)).length cp30_3)), (4, ownR ([] ++ (b.take K2)) (.slice A32 (([] ++ (b.take K2))).length c32)), (5, condR true (bytR (b.take K5) (p36 10)))] := M36
  simp only [List.take_succ_cons, List.take_zero, layV, Nat.zero_add, Nat.reduceAdd, r1] at G36
  obtain ⟨Ap36_5, cp36_5, hp36_5⟩ := (M36.isb (k := 5) rfl).shape
  rw [hp36_5] at M36
  try rw [hp36_5] at G36
  simp only [List.drop_succ_cons, List.drop_zero]
  have M37 := M36.nilO 6
  clear M36
  refine wl_runM (wanted_none rfl) rfl G36 rfl (run_app M37 (k := 6) rfl _ _ rfl (G36.get rfl) (G36.get rfl) (M37.isb (k := 5) rfl) (by simp only [List.length_nil, List.length_take]; omega)) ?_
  intro v38 a38 w38 F38 M38
  clear G36 M37
  obtain ⟨A38, c38, rfl⟩ := (M38.isO (k := 6) rfl).shape
  refine rn rfl rfl F38 rfl (.pointer (some ⟨g27, 19, none⟩)) (y_fa (off := 19) rfl (F38.get rfl) (by kernel_rfl) rfl) fun a39 F39 => ?_
  refine wl_st (wanted_none rfl) rfl F39 M38 (k := 2) rfl _ _ _ rfl (F39.get rfl) (F39.get rfl) (#[.slice A38 (([] ++ (b.take K5))).length c38]) (recA ⟨1 + (n % 2), (nmB s), ([] ++ (b.take K2)), (((n.tdiv 2) % 4294967296)).toNat, (((n.tdiv 7) % 4294967296)).toNat, ([] ++ (b.take K5)), ((n.tdiv 11) % 6), ((n.tdiv 13) % 1000), ((n.tdiv 17) % 1099511627776)⟩ ⟨.slice A32 (([] ++ (b.take K2))).length c32, .slice A38 (([] ++ (b.take K5))).length c38⟩) rfl (Nat.le_of_ble_eq_true rfl) (one_slcB (M38.isO (k := 6) rfl)) (by kernel_rfl) (by kernel_rfl) ?_
  intro w40 M40
  clear M38
  refine hK35 _ _ (wp_seq_k fun K41 hK41 => ?_)
  refine wp_region_lit ?_
  refine rn rfl rfl F39 rfl (.agg (recA ⟨1 + (n % 2), (nmB s), ([] ++ (b.take K2)), (((n.tdiv 2) % 4294967296)).toNat, (((n.tdiv 7) % 4294967296)).toNat, ([] ++ (b.take K5)), ((n.tdiv 11) % 6), ((n.tdiv 13) % 1000), ((n.tdiv 17) % 1099511627776)⟩ ⟨.slice A32 (([] ++ (b.take K2))).length c32, .slice A38 (([] ++ (b.take K5))).length c38⟩)) (y_ldN _ _ rfl (F39.get rfl) (M40.blk (k := 2) rfl) (recA ⟨1 + (n % 2), (nmB s), ([] ++ (b.take K2)), (((n.tdiv 2) % 4294967296)).toNat, (((n.tdiv 7) % 4294967296)).toNat, ([] ++ (b.take K5)), ((n.tdiv 11) % 6), ((n.tdiv 13) % 1000), ((n.tdiv 17) % 1099511627776)⟩ ⟨.slice A32 (([] ++ (b.take K2))).length c32, .slice A38 (([] ++ (b.take K5))).length c38⟩) (y_all rfl) Try.underlying54 rfl (by kernel_rfl)) fun a42 F42 => ?_
  refine wl_st (wanted_none rfl) rfl F42 M40 (k := 1) rfl _ _ _ rfl (F42.get rfl) (F42.get rfl) (recA ⟨1 + (n % 2), (nmB s), ([] ++ (b.take K2)), (((n.tdiv 2) % 4294967296)).toNat, (((n.tdiv 7) % 4294967296)).toNat, ([] ++ (b.take K5)), ((n.tdiv 11) % 6), ((n.tdiv 13) % 1000), ((n.tdiv 17) % 1099511627776)⟩ ⟨.slice A32 (([] ++ (b.take K2))).length c32, .slice A38 (([] ++ (b.take K5))).length c38⟩) (recA ⟨1 + (n % 2), (nmB s), ([] ++ (b.take K2)), (((n.tdiv 2) % 4294967296)).toNat, (((n.tdiv 7) % 4294967296)).toNat, ([] ++ (b.take K5)), ((n.tdiv 11) % 6), ((n.tdiv 13) % 1000), ((n.tdiv 17) % 1099511627776)⟩ ⟨.slice A32 (([] ++ (b.take K2))).length c32, .slice A38 (([] ++ (b.take K5))).length c38⟩) rfl (Nat.le_of_ble_eq_true rfl) (recA_one (w := w40) ⟨(M40.isO (k := 4) rfl), (M40.isO (k := 6) rfl)⟩) (y_put0 rfl) (by kernel_rfl) ?_
  intro w43 M43
  clear M40
  refine hK41 _ _ (wp_ret ?_)
  try simp only [Exit.then, Exit.inBlock, Exit.jump]
  exact bodyPost_ret (results_cell_row rfl _ _ _ _ _ (0, 0) _ (F42.get (t := 6) rfl) (M43.blk (k := 1) rfl) Try.underlying54 rfl (by kernel_rfl)) F42.defers ⟨_, rfl, ⟨.slice A32 (([] ++ (b.take K2))).length c32, .slice A38 (([] ++ (b.take K5))).length c38⟩, (by rw [(show mkR n s b = (⟨1 + (n % 2), (nmB s), ((b.take K2)), (((n.tdiv 2) % 4294967296)).toNat, (((n.tdiv 7) % 4294967296)).toNat, ((b.take K5)), ((n.tdiv 11) % 6), ((n.tdiv 13) % 1000), ((n.tdiv 17) % 1099511627776)⟩ : RecN) from by unfold mkR; rw [hK2, hK5]; rfl)]; rfl), (by rw [(show mkR n s b = (⟨1 + (n % 2), (nmB s), ((b.take K2)), (((n.tdiv 2) % 4294967296)).toNat, (((n.tdiv 7) % 4294967296)).toNat, ((b.take K5)), ((n.tdiv 11) % 6), ((n.tdiv 13) % 1000), ((n.tdiv 17) % 1099511627776)⟩ : RecN) from by unfold mkR; rw [hK2, hK5]; rfl)]; exact ⟨M43.isO (k := 4) rfl, M43.isO (k := 6) rfl⟩), (fun g h => h.elim (fun h => M43.owns (k := 4) rfl g (bfp_ofp h)) (fun h => M43.owns (k := 6) rfl g (bfp_ofp h))), M43.below⟩
end Go.Proofs.Ytlbkogdmojlpmaa
namespace Go.Proofs.Ytlbkogdmojlpmaa
set_option linter.unusedVariables false
set_option maxRecDepth 20000
set_option linter.unusedSimpArgs false
open Go.ChangeShapes Go.WideShapes Go.ChangeAt Go.RowKit
theorem str_eqsT {s t : ByteArray} (h : s = t) : decide (s.toList = t.toList) = true := by subst h; exact decide_eq_true rfl
theorem str_eqsF {s t : ByteArray} (h : ¬ s = t) : decide (s.toList = t.toList) = false := decide_eq_false fun e => h (by
  rw [ByteArray.toList_eq, ByteArray.toList_eq] at e
  cases s; cases t
  congr 1
  exact Array.toList_inj.1 e)
noncomputable def eqM (m m2 : MsgN) : Bool := decide (m.k = m2.k) && decide (m.p = m2.p) && decide (m.c = m2.c) && decide (m.e = m2.e) && @decide (m.s = m2.s) (Classical.propDecidable _) && decide (m.a = m2.a) && decide (m.b = m2.b) && decide (m.l5 = m2.l5) && decide (m.l6 = m2.l6) && decide (m.l7 = m2.l7) && decide (m.l8 = m2.l8) && decide (m.l9 = m2.l9)
theorem eqM_iff (m m2 : MsgN) : eqM m m2 = true ↔ m = m2 := by
  unfold eqM
  simp only [Bool.and_eq_true, decide_eq_true_eq]
  constructor
  · rintro ⟨⟨⟨⟨⟨⟨⟨⟨⟨⟨⟨h1, h2⟩, h3⟩, h4⟩, h5⟩, h6⟩, h7⟩, h8⟩, h9⟩, h10⟩, h11⟩, h12⟩
    cases m; cases m2
    simp_all
  · rintro rfl; simp
set_option maxRecDepth 100000 in
set_option maxHeartbeats 8000000 in
theorem msgs_any (m m2 : MsgN) (V V2 : MsgV) (ho : MsgOk m) (ho2 : MsgOk m2) (w : World) (hm : MsgIs w m V) (hm2 : MsgIs w m2 V2) :
    Calls Try.prog 21 #[.agg (msgA m V), .agg (msgA m2 V2)] w fun e w' => e = .returned (.bool (eqM m m2)) ∧ Below w.heap.size w w' := by
  refine calls_fx (args := [.agg (msgA m V), .agg (msgA m2 V2)]) 97 Try.func21 rfl rfl rfl ?_
  intro fa F
  have M := Mx.start w
  replace M := M.argB 0 hm.h5 (fun g e => by cases e)
  replace M := M.argB 1 hm.h6 (fun g e => by cases e)
  replace M := M.argB 2 hm.h7 (fun g e => by cases e)
  replace M := M.argB 3 hm.h8 (fun g e => by cases e)
  replace M := M.argB 4 hm.h9 (fun g e => by cases e)
  replace M := M.argB 5 hm2.h5 (fun g e => by cases e)
  replace M := M.argB 6 hm2.h6 (fun g e => by cases e)
  replace M := M.argB 7 hm2.h7 (fun g e => by cases e)
  replace M := M.argB 8 hm2.h8 (fun g e => by cases e)
  replace M := M.argB 9 hm2.h9 (fun g e => by cases e)
  refine wp_seq_k fun K1 hK1 => wp_region_lit ?_
  refine wl_alloc (wanted_none rfl) rfl F rfl M 10 (t := 29) (c := msgA m V) (by unfold execOp; simp only [(F.get (t := 0) rfl)]; kernel_rfl) ?_
  intro g2 a2 w2 F2 M2
  clear F M
  refine wl_alloc (wanted_none rfl) rfl F2 rfl M2 11 (t := 29) (c := msgA m2 V2) (by unfold execOp; simp only [(F2.get (t := 1) rfl)]; kernel_rfl) ?_
  intro g3 a3 w3 F3 M3
  clear F2 M2
  refine rm rfl F3 fun a4 F4 => ?_
  refine hK1 _ _ (wp_seq_k fun K5 hK5 => ?_)
  simp only [List.append_eq, List.cons_append, List.nil_append]
  refine wp_region_lit ?_
  refine exS 4 [(2, .pointer (some ⟨g2, 0, none⟩)), (3, .pointer (some ⟨g3, 0, none⟩)), (4, .bool false), (6, .int .i64 m.k), (8, .int .i64 m2.k)] [0, 1] (dcons (M3.blk (k := 10) rfl) (dcons (M3.blk (k := 11) rfl) dnil)) [g2, g3] F4 (by kernel_rfl) fun a6 F6 => ?_
  simp only [List.drop_succ_cons, List.drop_zero]
  by_cases h7 : m.k = m2.k
  rotate_left
  · refine rn rfl rfl F6 rfl (.bool false) (y_eqI _ _ _ _ rfl (F6.get rfl) (F6.get rfl) Try.underlying3 (y_beqF h7)) fun a80 F80 => ?_
    refine exS 88 [(4, .bool false)] [] dnil [] F80 (by kernel_rfl) fun a81 F81 => ?_
    simp only [List.drop_succ_cons, List.drop_zero]
    refine hK5 _ _ (wp_ret ?_)
    try simp only [Exit.then, Exit.inBlock, Exit.jump]
    exact bodyPost_ret (res1 rfl (F81.get (t := 4) rfl)) F81.defers ⟨by rw [show eqM m m2 = false from by unfold eqM; simp [h7]], M3.below⟩
  refine rn rfl rfl F6 rfl (.bool true) (y_eqI _ _ _ _ rfl (F6.get rfl) (F6.get rfl) Try.underlying3 (y_beqT h7)) fun a8 F8 => ?_
  refine exS 5 [(2, .pointer (some ⟨g2, 0, none⟩)), (3, .pointer (some ⟨g3, 0, none⟩)), (4, .bool false), (10, .bool true), (12, .int .i64 m.p), (14, .int .i64 m2.p)] [0, 1] (dcons (M3.blk (k := 10) rfl) (dcons (M3.blk (k := 11) rfl) dnil)) [g2, g3] F8 (by kernel_rfl) fun a9 F9 => ?_
  simp only [List.drop_succ_cons, List.drop_zero]
  by_cases h10 : m.p = m2.p
  rotate_left
  · refine wl_run (w' := w3) (wanted_yes rfl rfl rfl (F9.get rfl)) rfl F9 rfl (.bool false) (y_eqI _ _ _ _ rfl (F9.get rfl) (F9.get rfl) Try.underlying3 (y_beqF h10)) fun a78 F78 => ?_
    refine exS 82 [(4, .bool false)] [] dnil [] F78 (by kernel_rfl) fun a79 F79 => ?_
    simp only [List.drop_succ_cons, List.drop_zero]
    refine hK5 _ _ (wp_ret ?_)
    try simp only [Exit.then, Exit.inBlock, Exit.jump]
    exact bodyPost_ret (res1 rfl (F79.get (t := 4) rfl)) F79.defers ⟨by rw [show eqM m m2 = false from by unfold eqM; simp [h7, h10]], M3.below⟩
  refine wl_run (w' := w3) (wanted_yes rfl rfl rfl (F9.get rfl)) rfl F9 rfl (.bool true) (y_eqI _ _ _ _ rfl (F9.get rfl) (F9.get rfl) Try.underlying3 (y_beqT h10)) fun a11 F11 => ?_
  refine exS 6 [(2, .pointer (some ⟨g2, 0, none⟩)), (3, .pointer (some ⟨g3, 0, none⟩)), (4, .bool false), (17, .bool true), (19, .int .i64 m.c), (21, .int .i64 m2.c)] [0, 1] (dcons (M3.blk (k := 10) rfl) (dcons (M3.blk (k := 11) rfl) dnil)) [g2, g3] F11 (by kernel_rfl) fun a12 F12 => ?_
  simp only [List.drop_succ_cons, List.drop_zero]
  by_cases h13 : m.c = m2.c
  rotate_left
  · refine wl_run (w' := w3) (wanted_yes rfl rfl rfl (F12.get rfl)) rfl F12 rfl (.bool false) (y_eqI _ _ _ _ rfl (F12.get rfl) (F12.get rfl) Try.underlying3 (y_beqF h13)) fun a76 F76 => ?_
    refine exS 75 [(4, .bool false)] [] dnil [] F76 (by kernel_rfl) fun a77 F77 => ?_
    simp only [List.drop_succ_cons, List.drop_zero]
    refine hK5 _ _ (wp_ret ?_)
    try simp only [Exit.then, Exit.inBlock, Exit.jump]
    exact bodyPost_ret (res1 rfl (F77.get (t := 4) rfl)) F77.defers ⟨by rw [show eqM m m2 = false from by unfold eqM; simp [h7, h10, h13]], M3.below⟩
  refine wl_run (w' := w3) (wanted_yes rfl rfl rfl (F12.get rfl)) rfl F12 rfl (.bool true) (y_eqI _ _ _ _ rfl (F12.get rfl) (F12.get rfl) Try.underlying3 (y_beqT h13)) fun a14 F14 => ?_
  refine exS 6 [(2, .pointer (some ⟨g2, 0, none⟩)), (3, .pointer (some ⟨g3, 0, none⟩)), (4, .bool false), (24, .bool true), (26, .int .i64 m.e), (28, .int .i64 m2.e)] [0, 1] (dcons (M3.blk (k := 10) rfl) (dcons (M3.blk (k := 11) rfl) dnil)) [g2, g3] F14 (by kernel_rfl) fun a15 F15 => ?_
  simp only [List.drop_succ_cons, List.drop_zero]
  by_cases h16 : m.e = m2.e
  rotate_left
  · refine wl_run (w' := w3) (wanted_yes rfl rfl rfl (F15.get rfl)) rfl F15 rfl (.bool false) (y_eqI _ _ _ _ rfl (F15.get rfl) (F15.get rfl) Try.underlying24 (y_beqF h16)) fun a74 F74 => ?_
    refine exS 68 [(4, .bool false)] [] dnil [] F74 (by kernel_rfl) fun a75 F75 => ?_
    simp only [List.drop_succ_cons, List.drop_zero]
    refine hK5 _ _ (wp_ret ?_)
    try simp only [Exit.then, Exit.inBlock, Exit.jump]
    exact bodyPost_ret (res1 rfl (F75.get (t := 4) rfl)) F75.defers ⟨by rw [show eqM m m2 = false from by unfold eqM; simp [h7, h10, h13, h16]], M3.below⟩
  refine wl_run (w' := w3) (wanted_yes rfl rfl rfl (F15.get rfl)) rfl F15 rfl (.bool true) (y_eqI _ _ _ _ rfl (F15.get rfl) (F15.get rfl) Try.underlying24 (y_beqT h16)) fun a17 F17 => ?_
  refine exS 6 [(2, .pointer (some ⟨g2, 0, none⟩)), (3, .pointer (some ⟨g3, 0, none⟩)), (4, .bool false), (31, .bool true), (33, .string m.s), (35, .string m2.s)] [0, 1] (dcons (M3.blk (k := 10) rfl) (dcons (M3.blk (k := 11) rfl) dnil)) [g2, g3] F17 (by kernel_rfl) fun a18 F18 => ?_
  simp only [List.drop_succ_cons, List.drop_zero]
  by_cases h19 : m.s = m2.s
  rotate_left
  · refine wl_run (w' := w3) (wanted_yes rfl rfl rfl (F18.get rfl)) rfl F18 rfl (.bool false) (y_eqS _ _ _ rfl (F18.get rfl) (F18.get rfl) (str_eqsF h19)) fun a72 F72 => ?_
    refine exS 61 [(4, .bool false)] [] dnil [] F72 (by kernel_rfl) fun a73 F73 => ?_
    simp only [List.drop_succ_cons, List.drop_zero]
    refine hK5 _ _ (wp_ret ?_)
    try simp only [Exit.then, Exit.inBlock, Exit.jump]
    exact bodyPost_ret (res1 rfl (F73.get (t := 4) rfl)) F73.defers ⟨by rw [show eqM m m2 = false from by unfold eqM; simp [h7, h10, h13, h16, h19]], M3.below⟩
  refine wl_run (w' := w3) (wanted_yes rfl rfl rfl (F18.get rfl)) rfl F18 rfl (.bool true) (y_eqS _ _ _ rfl (F18.get rfl) (F18.get rfl) (str_eqsT h19)) fun a20 F20 => ?_
  refine exS 6 [(2, .pointer (some ⟨g2, 0, none⟩)), (3, .pointer (some ⟨g3, 0, none⟩)), (4, .bool false), (38, .bool true), (40, numV m.a), (42, numV m2.a)] [0, 1] (dcons (M3.blk (k := 10) rfl) (dcons (M3.blk (k := 11) rfl) dnil)) [g2, g3] F20 (by kernel_rfl) fun a21 F21 => ?_
  simp only [List.drop_succ_cons, List.drop_zero]
  by_cases h22 : m.a = m2.a
  rotate_left
  · refine wl_run (w' := w3) (wanted_yes rfl rfl rfl (F21.get rfl)) rfl F21 rfl (.bool false) (y_eqA _ _ _ _ rfl (F21.get rfl) (F21.get rfl) (by kernel_rfl) (eqn_diff ho.a ho2.a h22 _)) fun a70 F70 => ?_
    refine exS 54 [(4, .bool false)] [] dnil [] F70 (by kernel_rfl) fun a71 F71 => ?_
    simp only [List.drop_succ_cons, List.drop_zero]
    refine hK5 _ _ (wp_ret ?_)
    try simp only [Exit.then, Exit.inBlock, Exit.jump]
    exact bodyPost_ret (res1 rfl (F71.get (t := 4) rfl)) F71.defers ⟨by rw [show eqM m m2 = false from by unfold eqM; simp [h7, h10, h13, h16, h19, h22]], M3.below⟩
  refine wl_run (w' := w3) (wanted_yes rfl rfl rfl (F21.get rfl)) rfl F21 rfl (.bool true) (y_eqA _ _ _ _ rfl (F21.get rfl) (F21.get rfl) (by kernel_rfl) (by rw [h22]; exact eqn_same _ _)) fun a23 F23 => ?_
  refine exS 6 [(2, .pointer (some ⟨g2, 0, none⟩)), (3, .pointer (some ⟨g3, 0, none⟩)), (4, .bool false), (45, .bool true), (47, numV m.b), (49, numV m2.b)] [0, 1] (dcons (M3.blk (k := 10) rfl) (dcons (M3.blk (k := 11) rfl) dnil)) [g2, g3] F23 (by kernel_rfl) fun a24 F24 => ?_
  simp only [List.drop_succ_cons, List.drop_zero]
  by_cases h25 : m.b = m2.b
  rotate_left
  · refine wl_run (w' := w3) (wanted_yes rfl rfl rfl (F24.get rfl)) rfl F24 rfl (.bool false) (y_eqA _ _ _ _ rfl (F24.get rfl) (F24.get rfl) (by kernel_rfl) (eqn_diff ho.b ho2.b h25 _)) fun a68 F68 => ?_
    refine exS 47 [(4, .bool false)] [] dnil [] F68 (by kernel_rfl) fun a69 F69 => ?_
    simp only [List.drop_succ_cons, List.drop_zero]
    refine hK5 _ _ (wp_ret ?_)
    try simp only [Exit.then, Exit.inBlock, Exit.jump]
    exact bodyPost_ret (res1 rfl (F69.get (t := 4) rfl)) F69.defers ⟨by rw [show eqM m m2 = false from by unfold eqM; simp [h7, h10, h13, h16, h19, h22, h25]], M3.below⟩
  refine wl_run (w' := w3) (wanted_yes rfl rfl rfl (F24.get rfl)) rfl F24 rfl (.bool true) (y_eqA _ _ _ _ rfl (F24.get rfl) (F24.get rfl) (by kernel_rfl) (by rw [h25]; exact eqn_same _ _)) fun a26 F26 => ?_
  refine exS 4 [(2, .pointer (some ⟨g2, 0, none⟩)), (3, .pointer (some ⟨g3, 0, none⟩)), (4, .bool false), (52, .bool true), (54, V.v5)] [0] (dcons (M3.blk (k := 10) rfl) dnil) [g2] F26 (by kernel_rfl) fun a27 F27 => ?_
  simp only [List.drop_succ_cons, List.drop_zero]
  refine wl_run (w' := w3) (wanted_yes rfl rfl rfl (F27.get rfl)) rfl F27 rfl (.string (⟨(m.l5).toArray⟩)) (y_str _ rfl (F27.get rfl) (M3.isb (k := 0) rfl)) fun a28 F28 => ?_
  refine exA 2 [(56, .pointer (some ⟨g3, 21, none⟩)), (57, V2.v5)] [0] (dcons (M3.blk (k := 11) rfl) dnil) [g3] F28 (by kernel_rfl) (by kernel_rfl) fun a29 F29 => ?_
  simp only [List.drop_succ_cons, List.drop_zero]
  refine wl_run (w' := w3) (wanted_yes rfl rfl rfl (F29.get rfl)) rfl F29 rfl (.string (⟨(m2.l5).toArray⟩)) (y_str _ rfl (F29.get rfl) (M3.isb (k := 5) rfl)) fun a30 F30 => ?_
  by_cases h31 : m.l5 = m2.l5
  rotate_left
  · refine wl_run (w' := w3) (wanted_yes rfl rfl rfl (F30.get rfl)) rfl F30 rfl (.bool false) (y_eqS _ _ _ rfl (F30.get rfl) (F30.get rfl) (str_ne h31)) fun a66 F66 => ?_
    refine exS 38 [(4, .bool false)] [] dnil [] F66 (by kernel_rfl) fun a67 F67 => ?_
    simp only [List.drop_succ_cons, List.drop_zero]
    refine hK5 _ _ (wp_ret ?_)
    try simp only [Exit.then, Exit.inBlock, Exit.jump]
    exact bodyPost_ret (res1 rfl (F67.get (t := 4) rfl)) F67.defers ⟨by rw [show eqM m m2 = false from by unfold eqM; simp [h7, h10, h13, h16, h19, h22, h25, h31]], M3.below⟩
  refine wl_run (w' := w3) (wanted_yes rfl rfl rfl (F30.get rfl)) rfl F30 rfl (.bool true) (y_eqS _ _ _ rfl (F30.get rfl) (F30.get rfl) (str_eq h31)) fun a32 F32 => ?_
  refine exS 4 [(2, .pointer (some ⟨g2, 0, none⟩)), (3, .pointer (some ⟨g3, 0, none⟩)), (4, .bool false), (61, .bool true), (63, V.v6)] [0] (dcons (M3.blk (k := 10) rfl) dnil) [g2] F32 (by kernel_rfl) fun a33 F33 => ?_
  simp only [List.drop_succ_cons, List.drop_zero]
  refine wl_run (w' := w3) (wanted_yes rfl rfl rfl (F33.get rfl)) rfl F33 rfl (.string (⟨(m.l6).toArray⟩)) (y_str _ rfl (F33.get rfl) (M3.isb (k := 1) rfl)) fun a34 F34 => ?_
  refine exA 2 [(65, .pointer (some ⟨g3, 22, none⟩)), (66, V2.v6)] [0] (dcons (M3.blk (k := 11) rfl) dnil) [g3] F34 (by kernel_rfl) (by kernel_rfl) fun a35 F35 => ?_
  simp only [List.drop_succ_cons, List.drop_zero]
  refine wl_run (w' := w3) (wanted_yes rfl rfl rfl (F35.get rfl)) rfl F35 rfl (.string (⟨(m2.l6).toArray⟩)) (y_str _ rfl (F35.get rfl) (M3.isb (k := 6) rfl)) fun a36 F36 => ?_
  by_cases h37 : m.l6 = m2.l6
  rotate_left
  · refine wl_run (w' := w3) (wanted_yes rfl rfl rfl (F36.get rfl)) rfl F36 rfl (.bool false) (y_eqS _ _ _ rfl (F36.get rfl) (F36.get rfl) (str_ne h37)) fun a64 F64 => ?_
    refine exS 29 [(4, .bool false)] [] dnil [] F64 (by kernel_rfl) fun a65 F65 => ?_
    simp only [List.drop_succ_cons, List.drop_zero]
    refine hK5 _ _ (wp_ret ?_)
    try simp only [Exit.then, Exit.inBlock, Exit.jump]
    exact bodyPost_ret (res1 rfl (F65.get (t := 4) rfl)) F65.defers ⟨by rw [show eqM m m2 = false from by unfold eqM; simp [h7, h10, h13, h16, h19, h22, h25, h31, h37]], M3.below⟩
  refine wl_run (w' := w3) (wanted_yes rfl rfl rfl (F36.get rfl)) rfl F36 rfl (.bool true) (y_eqS _ _ _ rfl (F36.get rfl) (F36.get rfl) (str_eq h37)) fun a38 F38 => ?_
  refine exS 4 [(2, .pointer (some ⟨g2, 0, none⟩)), (3, .pointer (some ⟨g3, 0, none⟩)), (4, .bool false), (70, .bool true), (72, V.v7)] [0] (dcons (M3.blk (k := 10) rfl) dnil) [g2] F38 (by kernel_rfl) fun a39 F39 => ?_
  simp only [List.drop_succ_cons, List.drop_zero]
  refine wl_run (w' := w3) (wanted_yes rfl rfl rfl (F39.get rfl)) rfl F39 rfl (.string (⟨(m.l7).toArray⟩)) (y_str _ rfl (F39.get rfl) (M3.isb (k := 2) rfl)) fun a40 F40 => ?_
  refine exA 2 [(74, .pointer (some ⟨g3, 23, none⟩)), (75, V2.v7)] [0] (dcons (M3.blk (k := 11) rfl) dnil) [g3] F40 (by kernel_rfl) (by kernel_rfl) fun a41 F41 => ?_
  simp only [List.drop_succ_cons, List.drop_zero]
  refine wl_run (w' := w3) (wanted_yes rfl rfl rfl (F41.get rfl)) rfl F41 rfl (.string (⟨(m2.l7).toArray⟩)) (y_str _ rfl (F41.get rfl) (M3.isb (k := 7) rfl)) fun a42 F42 => ?_
  by_cases h43 : m.l7 = m2.l7
  rotate_left
  · refine wl_run (w' := w3) (wanted_yes rfl rfl rfl (F42.get rfl)) rfl F42 rfl (.bool false) (y_eqS _ _ _ rfl (F42.get rfl) (F42.get rfl) (str_ne h43)) fun a62 F62 => ?_
    refine exS 20 [(4, .bool false)] [] dnil [] F62 (by kernel_rfl) fun a63 F63 => ?_
    simp only [List.drop_succ_cons, List.drop_zero]
    refine hK5 _ _ (wp_ret ?_)
    try simp only [Exit.then, Exit.inBlock, Exit.jump]
    exact bodyPost_ret (res1 rfl (F63.get (t := 4) rfl)) F63.defers ⟨by rw [show eqM m m2 = false from by unfold eqM; simp [h7, h10, h13, h16, h19, h22, h25, h31, h37, h43]], M3.below⟩
  refine wl_run (w' := w3) (wanted_yes rfl rfl rfl (F42.get rfl)) rfl F42 rfl (.bool true) (y_eqS _ _ _ rfl (F42.get rfl) (F42.get rfl) (str_eq h43)) fun a44 F44 => ?_
  refine exS 4 [(2, .pointer (some ⟨g2, 0, none⟩)), (3, .pointer (some ⟨g3, 0, none⟩)), (4, .bool false), (79, .bool true), (81, V.v8)] [0] (dcons (M3.blk (k := 10) rfl) dnil) [g2] F44 (by kernel_rfl) fun a45 F45 => ?_
  simp only [List.drop_succ_cons, List.drop_zero]
  refine wl_run (w' := w3) (wanted_yes rfl rfl rfl (F45.get rfl)) rfl F45 rfl (.string (⟨(m.l8).toArray⟩)) (y_str _ rfl (F45.get rfl) (M3.isb (k := 3) rfl)) fun a46 F46 => ?_
  refine exA 2 [(83, .pointer (some ⟨g3, 24, none⟩)), (84, V2.v8)] [0] (dcons (M3.blk (k := 11) rfl) dnil) [g3] F46 (by kernel_rfl) (by kernel_rfl) fun a47 F47 => ?_
  simp only [List.drop_succ_cons, List.drop_zero]
  refine wl_run (w' := w3) (wanted_yes rfl rfl rfl (F47.get rfl)) rfl F47 rfl (.string (⟨(m2.l8).toArray⟩)) (y_str _ rfl (F47.get rfl) (M3.isb (k := 8) rfl)) fun a48 F48 => ?_
  by_cases h49 : m.l8 = m2.l8
  rotate_left
  · refine wl_run (w' := w3) (wanted_yes rfl rfl rfl (F48.get rfl)) rfl F48 rfl (.bool false) (y_eqS _ _ _ rfl (F48.get rfl) (F48.get rfl) (str_ne h49)) fun a60 F60 => ?_
    refine exS 11 [(4, .bool false)] [] dnil [] F60 (by kernel_rfl) fun a61 F61 => ?_
    simp only [List.drop_succ_cons, List.drop_zero]
    refine hK5 _ _ (wp_ret ?_)
    try simp only [Exit.then, Exit.inBlock, Exit.jump]
    exact bodyPost_ret (res1 rfl (F61.get (t := 4) rfl)) F61.defers ⟨by rw [show eqM m m2 = false from by unfold eqM; simp [h7, h10, h13, h16, h19, h22, h25, h31, h37, h43, h49]], M3.below⟩
  refine wl_run (w' := w3) (wanted_yes rfl rfl rfl (F48.get rfl)) rfl F48 rfl (.bool true) (y_eqS _ _ _ rfl (F48.get rfl) (F48.get rfl) (str_eq h49)) fun a50 F50 => ?_
  refine exS 4 [(3, .pointer (some ⟨g3, 0, none⟩)), (4, .bool false), (88, .bool true), (90, V.v9)] [0] (dcons (M3.blk (k := 10) rfl) dnil) [g2] F50 (by kernel_rfl) fun a51 F51 => ?_
  simp only [List.drop_succ_cons, List.drop_zero]
  refine wl_run (w' := w3) (wanted_yes rfl rfl rfl (F51.get rfl)) rfl F51 rfl (.string (⟨(m.l9).toArray⟩)) (y_str _ rfl (F51.get rfl) (M3.isb (k := 4) rfl)) fun a52 F52 => ?_
  refine exS 2 [(4, .bool false), (88, .bool true), (91, .string (⟨(m.l9).toArray⟩)), (93, V2.v9)] [0] (dcons (M3.blk (k := 11) rfl) dnil) [g3] F52 (by kernel_rfl) fun a53 F53 => ?_
  simp only [List.drop_succ_cons, List.drop_zero]
  refine wl_run (w' := w3) (wanted_yes rfl rfl rfl (F53.get rfl)) rfl F53 rfl (.string (⟨(m2.l9).toArray⟩)) (y_str _ rfl (F53.get rfl) (M3.isb (k := 9) rfl)) fun a54 F54 => ?_
  by_cases h55 : m.l9 = m2.l9
  · refine wl_run (w' := w3) (wanted_yes rfl rfl rfl (F54.get rfl)) rfl F54 rfl (.bool true) (y_eqS _ _ _ rfl (F54.get rfl) (F54.get rfl) (str_eq h55)) fun a56 F56 => ?_
    refine exS 2 [(4, .bool true)] [] dnil [] F56 (by kernel_rfl) fun a57 F57 => ?_
    simp only [List.drop_succ_cons, List.drop_zero]
    refine hK5 _ _ (wp_ret ?_)
    try simp only [Exit.then, Exit.inBlock, Exit.jump]
    exact bodyPost_ret (res1 rfl (F57.get (t := 4) rfl)) F57.defers ⟨by rw [show eqM m m2 = true from by unfold eqM; simp [h7, h10, h13, h16, h19, h22, h25, h31, h37, h43, h49, h55]], M3.below⟩
  refine wl_run (w' := w3) (wanted_yes rfl rfl rfl (F54.get rfl)) rfl F54 rfl (.bool false) (y_eqS _ _ _ rfl (F54.get rfl) (F54.get rfl) (str_ne h55)) fun a58 F58 => ?_
  refine exS 2 [(4, .bool false)] [] dnil [] F58 (by kernel_rfl) fun a59 F59 => ?_
  simp only [List.drop_succ_cons, List.drop_zero]
  refine hK5 _ _ (wp_ret ?_)
  try simp only [Exit.then, Exit.inBlock, Exit.jump]
  exact bodyPost_ret (res1 rfl (F59.get (t := 4) rfl)) F59.defers ⟨by rw [show eqM m m2 = false from by unfold eqM; simp [h7, h10, h13, h16, h19, h22, h25, h31, h37, h43, h49, h55]], M3.below⟩
noncomputable def eqR (r r2 : RecN) : Bool := decide (r.p = r2.p) && @decide (r.s = r2.s) (Classical.propDecidable _) && decide (r.l2 = r2.l2) && decide (r.a = r2.a) && decide (r.b = r2.b) && decide (r.l5 = r2.l5) && decide (r.t = r2.t) && decide (r.c = r2.c) && decide (r.z = r2.z)
theorem eqR_iff (r r2 : RecN) : eqR r r2 = true ↔ r = r2 := by
  unfold eqR
  simp only [Bool.and_eq_true, decide_eq_true_eq]
  constructor
  · rintro ⟨⟨⟨⟨⟨⟨⟨⟨h1, h2⟩, h3⟩, h4⟩, h5⟩, h6⟩, h7⟩, h8⟩, h9⟩
    cases r; cases r2
    simp_all
  · rintro rfl; simp
set_option maxRecDepth 100000 in
set_option maxHeartbeats 8000000 in
theorem recs_any (r r2 : RecN) (V V2 : RecV) (ho : RecOk r) (ho2 : RecOk r2) (w : World) (hm : RecIs w r V) (hm2 : RecIs w r2 V2) :
    Calls Try.prog 38 #[.agg (recA r V), .agg (recA r2 V2)] w fun e w' => e = .returned (.bool (eqR r r2)) ∧ Below w.heap.size w w' := by
  refine calls_fx (args := [.agg (recA r V), .agg (recA r2 V2)]) 70 Try.func38 rfl rfl rfl ?_
  intro fa F
  have M := Mx.start w
  replace M := M.argB 0 hm.h2 (fun g e => by cases e)
  replace M := M.argB 1 hm.h5 (fun g e => by cases e)
  replace M := M.argB 2 hm2.h2 (fun g e => by cases e)
  replace M := M.argB 3 hm2.h5 (fun g e => by cases e)
  refine wp_seq_k fun K1 hK1 => wp_region_lit ?_
  refine wl_alloc (wanted_none rfl) rfl F rfl M 4 (t := 54) (c := recA r V) (by unfold execOp; simp only [(F.get (t := 0) rfl)]; kernel_rfl) ?_
  intro g2 a2 w2 F2 M2
  clear F M
  refine wl_alloc (wanted_none rfl) rfl F2 rfl M2 5 (t := 54) (c := recA r2 V2) (by unfold execOp; simp only [(F2.get (t := 1) rfl)]; kernel_rfl) ?_
  intro g3 a3 w3 F3 M3
  clear F2 M2
  refine rm rfl F3 fun a4 F4 => ?_
  refine hK1 _ _ (wp_seq_k fun K5 hK5 => ?_)
  simp only [List.append_eq, List.cons_append, List.nil_append]
  refine wp_region_lit ?_
  refine exS 4 [(2, .pointer (some ⟨g2, 0, none⟩)), (3, .pointer (some ⟨g3, 0, none⟩)), (4, .bool false), (6, .int .i64 r.p), (8, .int .i64 r2.p)] [0, 1] (dcons (M3.blk (k := 4) rfl) (dcons (M3.blk (k := 5) rfl) dnil)) [g2, g3] F4 (by kernel_rfl) fun a6 F6 => ?_
  simp only [List.drop_succ_cons, List.drop_zero]
  by_cases h7 : r.p = r2.p
  rotate_left
  · refine rn rfl rfl F6 rfl (.bool false) (y_eqI _ _ _ _ rfl (F6.get rfl) (F6.get rfl) Try.underlying3 (y_beqF h7)) fun a56 F56 => ?_
    refine exS 61 [(4, .bool false)] [] dnil [] F56 (by kernel_rfl) fun a57 F57 => ?_
    simp only [List.drop_succ_cons, List.drop_zero]
    refine hK5 _ _ (wp_ret ?_)
    try simp only [Exit.then, Exit.inBlock, Exit.jump]
    exact bodyPost_ret (res1 rfl (F57.get (t := 4) rfl)) F57.defers ⟨by rw [show eqR r r2 = false from by unfold eqR; simp [h7]], M3.below⟩
  refine rn rfl rfl F6 rfl (.bool true) (y_eqI _ _ _ _ rfl (F6.get rfl) (F6.get rfl) Try.underlying3 (y_beqT h7)) fun a8 F8 => ?_
  refine exS 5 [(2, .pointer (some ⟨g2, 0, none⟩)), (3, .pointer (some ⟨g3, 0, none⟩)), (4, .bool false), (10, .bool true), (12, .string r.s), (14, .string r2.s)] [0, 1] (dcons (M3.blk (k := 4) rfl) (dcons (M3.blk (k := 5) rfl) dnil)) [g2, g3] F8 (by kernel_rfl) fun a9 F9 => ?_
  simp only [List.drop_succ_cons, List.drop_zero]
  by_cases h10 : r.s = r2.s
  rotate_left
  · refine wl_run (w' := w3) (wanted_yes rfl rfl rfl (F9.get rfl)) rfl F9 rfl (.bool false) (y_eqS _ _ _ rfl (F9.get rfl) (F9.get rfl) (str_eqsF h10)) fun a54 F54 => ?_
    refine exS 55 [(4, .bool false)] [] dnil [] F54 (by kernel_rfl) fun a55 F55 => ?_
    simp only [List.drop_succ_cons, List.drop_zero]
    refine hK5 _ _ (wp_ret ?_)
    try simp only [Exit.then, Exit.inBlock, Exit.jump]
    exact bodyPost_ret (res1 rfl (F55.get (t := 4) rfl)) F55.defers ⟨by rw [show eqR r r2 = false from by unfold eqR; simp [h7, h10]], M3.below⟩
  refine wl_run (w' := w3) (wanted_yes rfl rfl rfl (F9.get rfl)) rfl F9 rfl (.bool true) (y_eqS _ _ _ rfl (F9.get rfl) (F9.get rfl) (str_eqsT h10)) fun a11 F11 => ?_
  refine exS 4 [(2, .pointer (some ⟨g2, 0, none⟩)), (3, .pointer (some ⟨g3, 0, none⟩)), (4, .bool false), (17, .bool true), (19, V.v2)] [0] (dcons (M3.blk (k := 4) rfl) dnil) [g2] F11 (by kernel_rfl) fun a12 F12 => ?_
  simp only [List.drop_succ_cons, List.drop_zero]
  refine wl_run (w' := w3) (wanted_yes rfl rfl rfl (F12.get rfl)) rfl F12 rfl (.string (⟨(r.l2).toArray⟩)) (y_str _ rfl (F12.get rfl) (M3.isb (k := 0) rfl)) fun a13 F13 => ?_
  refine exA 2 [(21, .pointer (some ⟨g3, 2, none⟩)), (22, V2.v2)] [0] (dcons (M3.blk (k := 5) rfl) dnil) [g3] F13 (by kernel_rfl) (by kernel_rfl) fun a14 F14 => ?_
  simp only [List.drop_succ_cons, List.drop_zero]
  refine wl_run (w' := w3) (wanted_yes rfl rfl rfl (F14.get rfl)) rfl F14 rfl (.string (⟨(r2.l2).toArray⟩)) (y_str _ rfl (F14.get rfl) (M3.isb (k := 2) rfl)) fun a15 F15 => ?_
  by_cases h16 : r.l2 = r2.l2
  rotate_left
  · refine wl_run (w' := w3) (wanted_yes rfl rfl rfl (F15.get rfl)) rfl F15 rfl (.bool false) (y_eqS _ _ _ rfl (F15.get rfl) (F15.get rfl) (str_ne h16)) fun a52 F52 => ?_
    refine exS 46 [(4, .bool false)] [] dnil [] F52 (by kernel_rfl) fun a53 F53 => ?_
    simp only [List.drop_succ_cons, List.drop_zero]
    refine hK5 _ _ (wp_ret ?_)
    try simp only [Exit.then, Exit.inBlock, Exit.jump]
    exact bodyPost_ret (res1 rfl (F53.get (t := 4) rfl)) F53.defers ⟨by rw [show eqR r r2 = false from by unfold eqR; simp [h7, h10, h16]], M3.below⟩
  refine wl_run (w' := w3) (wanted_yes rfl rfl rfl (F15.get rfl)) rfl F15 rfl (.bool true) (y_eqS _ _ _ rfl (F15.get rfl) (F15.get rfl) (str_eq h16)) fun a17 F17 => ?_
  refine exS 6 [(2, .pointer (some ⟨g2, 0, none⟩)), (3, .pointer (some ⟨g3, 0, none⟩)), (4, .bool false), (26, .bool true), (28, numV r.a), (30, numV r2.a)] [0, 1] (dcons (M3.blk (k := 4) rfl) (dcons (M3.blk (k := 5) rfl) dnil)) [g2, g3] F17 (by kernel_rfl) fun a18 F18 => ?_
  simp only [List.drop_succ_cons, List.drop_zero]
  by_cases h19 : r.a = r2.a
  rotate_left
  · refine wl_run (w' := w3) (wanted_yes rfl rfl rfl (F18.get rfl)) rfl F18 rfl (.bool false) (y_eqA _ _ _ _ rfl (F18.get rfl) (F18.get rfl) (by kernel_rfl) (eqn_diff ho.a ho2.a h19 _)) fun a50 F50 => ?_
    refine exS 39 [(4, .bool false)] [] dnil [] F50 (by kernel_rfl) fun a51 F51 => ?_
    simp only [List.drop_succ_cons, List.drop_zero]
    refine hK5 _ _ (wp_ret ?_)
    try simp only [Exit.then, Exit.inBlock, Exit.jump]
    exact bodyPost_ret (res1 rfl (F51.get (t := 4) rfl)) F51.defers ⟨by rw [show eqR r r2 = false from by unfold eqR; simp [h7, h10, h16, h19]], M3.below⟩
  refine wl_run (w' := w3) (wanted_yes rfl rfl rfl (F18.get rfl)) rfl F18 rfl (.bool true) (y_eqA _ _ _ _ rfl (F18.get rfl) (F18.get rfl) (by kernel_rfl) (by rw [h19]; exact eqn_same _ _)) fun a20 F20 => ?_
  refine exS 6 [(2, .pointer (some ⟨g2, 0, none⟩)), (3, .pointer (some ⟨g3, 0, none⟩)), (4, .bool false), (33, .bool true), (35, numV r.b), (37, numV r2.b)] [0, 1] (dcons (M3.blk (k := 4) rfl) (dcons (M3.blk (k := 5) rfl) dnil)) [g2, g3] F20 (by kernel_rfl) fun a21 F21 => ?_
  simp only [List.drop_succ_cons, List.drop_zero]
  by_cases h22 : r.b = r2.b
  rotate_left
  · refine wl_run (w' := w3) (wanted_yes rfl rfl rfl (F21.get rfl)) rfl F21 rfl (.bool false) (y_eqA _ _ _ _ rfl (F21.get rfl) (F21.get rfl) (by kernel_rfl) (eqn_diff ho.b ho2.b h22 _)) fun a48 F48 => ?_
    refine exS 32 [(4, .bool false)] [] dnil [] F48 (by kernel_rfl) fun a49 F49 => ?_
    simp only [List.drop_succ_cons, List.drop_zero]
    refine hK5 _ _ (wp_ret ?_)
    try simp only [Exit.then, Exit.inBlock, Exit.jump]
    exact bodyPost_ret (res1 rfl (F49.get (t := 4) rfl)) F49.defers ⟨by rw [show eqR r r2 = false from by unfold eqR; simp [h7, h10, h16, h19, h22]], M3.below⟩
  refine wl_run (w' := w3) (wanted_yes rfl rfl rfl (F21.get rfl)) rfl F21 rfl (.bool true) (y_eqA _ _ _ _ rfl (F21.get rfl) (F21.get rfl) (by kernel_rfl) (by rw [h22]; exact eqn_same _ _)) fun a23 F23 => ?_
  refine exS 4 [(2, .pointer (some ⟨g2, 0, none⟩)), (3, .pointer (some ⟨g3, 0, none⟩)), (4, .bool false), (40, .bool true), (42, V.v5)] [0] (dcons (M3.blk (k := 4) rfl) dnil) [g2] F23 (by kernel_rfl) fun a24 F24 => ?_
  simp only [List.drop_succ_cons, List.drop_zero]
  refine wl_run (w' := w3) (wanted_yes rfl rfl rfl (F24.get rfl)) rfl F24 rfl (.string (⟨(r.l5).toArray⟩)) (y_str _ rfl (F24.get rfl) (M3.isb (k := 1) rfl)) fun a25 F25 => ?_
  refine exA 2 [(44, .pointer (some ⟨g3, 19, none⟩)), (45, V2.v5)] [0] (dcons (M3.blk (k := 5) rfl) dnil) [g3] F25 (by kernel_rfl) (by kernel_rfl) fun a26 F26 => ?_
  simp only [List.drop_succ_cons, List.drop_zero]
  refine wl_run (w' := w3) (wanted_yes rfl rfl rfl (F26.get rfl)) rfl F26 rfl (.string (⟨(r2.l5).toArray⟩)) (y_str _ rfl (F26.get rfl) (M3.isb (k := 3) rfl)) fun a27 F27 => ?_
  by_cases h28 : r.l5 = r2.l5
  rotate_left
  · refine wl_run (w' := w3) (wanted_yes rfl rfl rfl (F27.get rfl)) rfl F27 rfl (.bool false) (y_eqS _ _ _ rfl (F27.get rfl) (F27.get rfl) (str_ne h28)) fun a46 F46 => ?_
    refine exS 23 [(4, .bool false)] [] dnil [] F46 (by kernel_rfl) fun a47 F47 => ?_
    simp only [List.drop_succ_cons, List.drop_zero]
    refine hK5 _ _ (wp_ret ?_)
    try simp only [Exit.then, Exit.inBlock, Exit.jump]
    exact bodyPost_ret (res1 rfl (F47.get (t := 4) rfl)) F47.defers ⟨by rw [show eqR r r2 = false from by unfold eqR; simp [h7, h10, h16, h19, h22, h28]], M3.below⟩
  refine wl_run (w' := w3) (wanted_yes rfl rfl rfl (F27.get rfl)) rfl F27 rfl (.bool true) (y_eqS _ _ _ rfl (F27.get rfl) (F27.get rfl) (str_eq h28)) fun a29 F29 => ?_
  refine exS 6 [(2, .pointer (some ⟨g2, 0, none⟩)), (3, .pointer (some ⟨g3, 0, none⟩)), (4, .bool false), (49, .bool true), (51, .int .i64 r.t), (53, .int .i64 r2.t)] [0, 1] (dcons (M3.blk (k := 4) rfl) (dcons (M3.blk (k := 5) rfl) dnil)) [g2, g3] F29 (by kernel_rfl) fun a30 F30 => ?_
  simp only [List.drop_succ_cons, List.drop_zero]
  by_cases h31 : r.t = r2.t
  rotate_left
  · refine wl_run (w' := w3) (wanted_yes rfl rfl rfl (F30.get rfl)) rfl F30 rfl (.bool false) (y_eqI _ _ _ _ rfl (F30.get rfl) (F30.get rfl) Try.underlying3 (y_beqF h31)) fun a44 F44 => ?_
    refine exS 16 [(4, .bool false)] [] dnil [] F44 (by kernel_rfl) fun a45 F45 => ?_
    simp only [List.drop_succ_cons, List.drop_zero]
    refine hK5 _ _ (wp_ret ?_)
    try simp only [Exit.then, Exit.inBlock, Exit.jump]
    exact bodyPost_ret (res1 rfl (F45.get (t := 4) rfl)) F45.defers ⟨by rw [show eqR r r2 = false from by unfold eqR; simp [h7, h10, h16, h19, h22, h28, h31]], M3.below⟩
  refine wl_run (w' := w3) (wanted_yes rfl rfl rfl (F30.get rfl)) rfl F30 rfl (.bool true) (y_eqI _ _ _ _ rfl (F30.get rfl) (F30.get rfl) Try.underlying3 (y_beqT h31)) fun a32 F32 => ?_
  refine exS 6 [(2, .pointer (some ⟨g2, 0, none⟩)), (3, .pointer (some ⟨g3, 0, none⟩)), (4, .bool false), (56, .bool true), (58, .int .i64 r.c), (60, .int .i64 r2.c)] [0, 1] (dcons (M3.blk (k := 4) rfl) (dcons (M3.blk (k := 5) rfl) dnil)) [g2, g3] F32 (by kernel_rfl) fun a33 F33 => ?_
  simp only [List.drop_succ_cons, List.drop_zero]
  by_cases h34 : r.c = r2.c
  rotate_left
  · refine wl_run (w' := w3) (wanted_yes rfl rfl rfl (F33.get rfl)) rfl F33 rfl (.bool false) (y_eqI _ _ _ _ rfl (F33.get rfl) (F33.get rfl) Try.underlying3 (y_beqF h34)) fun a42 F42 => ?_
    refine exS 9 [(4, .bool false)] [] dnil [] F42 (by kernel_rfl) fun a43 F43 => ?_
    simp only [List.drop_succ_cons, List.drop_zero]
    refine hK5 _ _ (wp_ret ?_)
    try simp only [Exit.then, Exit.inBlock, Exit.jump]
    exact bodyPost_ret (res1 rfl (F43.get (t := 4) rfl)) F43.defers ⟨by rw [show eqR r r2 = false from by unfold eqR; simp [h7, h10, h16, h19, h22, h28, h31, h34]], M3.below⟩
  refine wl_run (w' := w3) (wanted_yes rfl rfl rfl (F33.get rfl)) rfl F33 rfl (.bool true) (y_eqI _ _ _ _ rfl (F33.get rfl) (F33.get rfl) Try.underlying3 (y_beqT h34)) fun a35 F35 => ?_
  refine exS 6 [(4, .bool false), (63, .bool true), (65, .int .i64 r.z), (67, .int .i64 r2.z)] [0, 1] (dcons (M3.blk (k := 4) rfl) (dcons (M3.blk (k := 5) rfl) dnil)) [g2, g3] F35 (by kernel_rfl) fun a36 F36 => ?_
  simp only [List.drop_succ_cons, List.drop_zero]
  by_cases h37 : r.z = r2.z
  · refine wl_run (w' := w3) (wanted_yes rfl rfl rfl (F36.get rfl)) rfl F36 rfl (.bool true) (y_eqI _ _ _ _ rfl (F36.get rfl) (F36.get rfl) Try.underlying3 (y_beqT h37)) fun a38 F38 => ?_
    refine exS 2 [(4, .bool true)] [] dnil [] F38 (by kernel_rfl) fun a39 F39 => ?_
    simp only [List.drop_succ_cons, List.drop_zero]
    refine hK5 _ _ (wp_ret ?_)
    try simp only [Exit.then, Exit.inBlock, Exit.jump]
    exact bodyPost_ret (res1 rfl (F39.get (t := 4) rfl)) F39.defers ⟨by rw [show eqR r r2 = true from by unfold eqR; simp [h7, h10, h16, h19, h22, h28, h31, h34, h37]], M3.below⟩
  refine wl_run (w' := w3) (wanted_yes rfl rfl rfl (F36.get rfl)) rfl F36 rfl (.bool false) (y_eqI _ _ _ _ rfl (F36.get rfl) (F36.get rfl) Try.underlying3 (y_beqF h37)) fun a40 F40 => ?_
  refine exS 2 [(4, .bool false)] [] dnil [] F40 (by kernel_rfl) fun a41 F41 => ?_
  simp only [List.drop_succ_cons, List.drop_zero]
  refine hK5 _ _ (wp_ret ?_)
  try simp only [Exit.then, Exit.inBlock, Exit.jump]
  exact bodyPost_ret (res1 rfl (F41.get (t := 4) rfl)) F41.defers ⟨by rw [show eqR r r2 = false from by unfold eqR; simp [h7, h10, h16, h19, h22, h28, h31, h34, h37]], M3.below⟩
end Go.Proofs.Ytlbkogdmojlpmaa
namespace Go.Proofs.Ytlbkogdmojlpmaa
set_option linter.unusedVariables false
set_option maxRecDepth 20000
set_option linter.unusedSimpArgs false
open Go.ChangeShapes Go.WideShapes Go.ChangeAt Go.RowKit
theorem enc_is (m : MsgN) (V : MsgV) (ho : MsgOk m) (hs : m.s.size ≤ 1000) (ok : Bool) (l : List UInt8) (h1 : encOk m = ok) (h2 : encL m = l) (w : World) (hm : MsgIs w m V) : Calls Try.prog 17 #[.agg (msgA m V)] w fun e w' => ∃ t, e = .returned t ∧ ∃ v, t = .tuple #[v, .bool ok] ∧ Byt w' w.heap.size v l ∧ Below w.heap.size w w' := by
  subst h1 h2; exact encode_ex m V ho hs w hm
theorem msgs_is (m m2 : MsgN) (V V2 : MsgV) (ho : MsgOk m) (ho2 : MsgOk m2) (ok : Bool) (h1 : eqM m m2 = ok) (w : World) (hm : MsgIs w m V) (hm2 : MsgIs w m2 V2) : Calls Try.prog 21 #[.agg (msgA m V), .agg (msgA m2 V2)] w fun e w' => e = .returned (.bool ok) ∧ Below w.heap.size w w' := by
  subst h1; exact msgs_any m m2 V V2 ho ho2 w hm hm2
theorem rec_is (r : RecN) (V : RecV) (ho : RecOk r) (ok : Bool) (l : List UInt8) (h1 : keepB r = ok) (h2 : recE r = l) (w : World) (hm : RecIs w r V) : Calls Try.prog 35 #[.agg (recA r V)] w fun e w' => ∃ t, e = .returned t ∧ ∃ v, t = .tuple #[v, .bool ok] ∧ Byt w' w.heap.size v l ∧ Below w.heap.size w w' := by
  subst h1 h2; exact record_ex r V ho w hm
theorem rd_is (b : List UInt8) (bv : Value) (hl : b.length ≤ 100000) (ok : Bool) (r : RecN) (h1 : rdOk b = ok) (h2 : rdR b = r) (w : World) (hb : IsB w b bv) : Calls Try.prog 37 #[bv] w fun e w' => ∃ t, e = .returned t ∧ ∃ V, t = .tuple #[.agg (recA r V), .bool ok] ∧ RecIs w' r V ∧ (∀ q, bfp V.v2 q ∨ bfp V.v5 q → w.heap.size ≤ q) ∧ Below w.heap.size w w' := by
  subst h1 h2; exact (readrec_any b bv hl w hb).mono fun e w' ⟨V, k1, k2, k3, k4⟩ => ⟨_, k1, V, rfl, k2, k3, k4⟩
theorem recs_is (r r2 : RecN) (V V2 : RecV) (ho : RecOk r) (ho2 : RecOk r2) (ok : Bool) (h1 : eqR r r2 = ok) (w : World) (hm : RecIs w r V) (hm2 : RecIs w r2 V2) : Calls Try.prog 38 #[.agg (recA r V), .agg (recA r2 V2)] w fun e w' => e = .returned (.bool ok) ∧ Below w.heap.size w w' := by
  subst h1; exact recs_any r r2 V V2 ho ho2 w hm hm2
theorem make_is (kind n : Int) (s : ByteArray) (b : List UInt8) (v : Value) (hkd : -9223372036854775808 ≤ kind ∧ kind < 9223372036854775808) (hN : -9223372036854775808 ≤ n ∧ n < 9223372036854775808) (hs : s.size ≤ 40) (m : MsgN) (hm : mkM kind n s b = m) (w : World) (hv : IsB w b v) : Calls Try.prog 16 #[.int .i64 kind, .int .i64 n, .string s, v] w fun e w' => ∃ t, e = .returned t ∧ ∃ V, t = .agg (msgA m V) ∧ MsgIs w' m V ∧ (∀ g, msgfp V g → w.heap.size ≤ g) ∧ Below w.heap.size w w' := by
  subst hm; exact make_msg kind n s b v hkd hN hs w hv
theorem maker_is (n : Int) (s : ByteArray) (b : List UInt8) (v : Value) (hN : -9223372036854775808 ≤ n ∧ n < 9223372036854775808) (hs : s.size ≤ 40) (hbl : b.length ≤ 1000) (r : RecN) (hr : mkR n s b = r) (w : World) (hv : IsB w b v) : Calls Try.prog 34 #[.int .i64 n, .string s, v] w fun e w' => ∃ t, e = .returned t ∧ ∃ V, t = .agg (recA r V) ∧ RecIs w' r V ∧ (∀ g, bfp V.v2 g ∨ bfp V.v5 g → w.heap.size ≤ g) ∧ Below w.heap.size w w' := by
  subst hr; exact make_rec n s b v hN hs hbl w hv
section
variable {G : Option Nat} {w0 w : World} {R : List (Nat × Res)}
theorem Mx.nilT (M : Mx G w0 w R) (i : Nat) : Mx G w0 w ((i, tlR [] (.slice none 0 0)) :: R) :=
  M.cons i _ (show Tl w (.slice none 0 0) [] from .inl ⟨rfl, rfl⟩) tlR_dep (fun g hg => by cases hg) (fun _ g hg => by cases hg) fun _ _ _ _ _ g hg => by cases hg
theorem Mx.newRec {w' : World} (M : Mx G w0 w R) (h : Below w.heap.size w w') {r : RecN} {V : RecV} (hm : RecIs w' r V) (hlo : ∀ q, bfp V.v2 q ∨ bfp V.v5 q → w.heap.size ≤ q) (a b : Nat) : Mx G w0 w' ((b, bytR r.l5 V.v5) :: (a, bytR r.l2 V.v2) :: R) := by
  obtain ⟨M1, n1⟩ := (M.step h).roB2 (N := w.heap.size) (fun k s e _ g hg => M.lt k s e g hg) a hm.h2 (fun g hg => hlo g (.inl hg))
  exact (M1.roB2 n1 b hm.h5 (fun g hg => hlo g (.inr hg))).1
theorem next_is (M0 : Mx G w0 w R) (k q g : Nat) (l : List UInt8) (u : Value) (n : Int) (b : Bool) (hk : look R k = some (blkR g 94 #[u, .int .i64 n, .bool b])) (hq : look R q = some (tlR l u)) (hne : k ≠ q) (hl : l.length ≤ 1000000) (k5 k6 k7 k8 k9 : Nat) (m : MsgN) (ok bad : Bool) (l2 : List UInt8) (h1 : nxM l = m) (h2 : nxOk l = ok) (h3 : (b || nxBad l) = bad) (h4 : nxL l = l2) :
    Calls Try.prog 30 #[.pointer (some ⟨g, 0, none⟩)] w fun e w' => ∃ t, e = .returned t ∧ ∃ u' V, Mx G w0 w' ((k9, bytR m.l9 V.v9) :: (k8, bytR m.l8 V.v8) :: (k7, bytR m.l7 V.v7) :: (k6, bytR m.l6 V.v6) :: (k5, bytR m.l5 V.v5) :: (k, blkR g 94 #[u', .int .i64 n, .bool bad]) :: (q, tlR l2 u') :: R) ∧ t = .tuple #[.agg (msgA m V), .bool ok] := by
  subst h1 h2 h3 h4; exact next_any M0 k q g l u n b hk hq hne hl k5 k6 k7 k8 k9
end
end Go.Proofs.Ytlbkogdmojlpmaa
namespace Go.Proofs.Ytlbkogdmojlpmaa
set_option linter.unusedVariables false
set_option maxRecDepth 20000
set_option linter.unusedSimpArgs false
open Go.ChangeShapes Go.WideShapes Go.ChangeAt Go.RowKit
def m7 : MsgN := ⟨7, 0, 0, 0, "".toUTF8, 0, 0, [], [], [], [], []⟩
def rA : RecN := ⟨1, ⟨#[97]⟩, [], 0, 0, [], 0, 0, 0⟩
theorem m7_ok : MsgOk m7 := ⟨by decide, by decide, by decide, by decide, by decide, by decide, by decide⟩
theorem rA_ok : RecOk rA := ⟨by decide, by decide, by decide, by decide, by decide, by decide, by decide⟩
theorem m7_right : rightB m7 = true := by
  unfold rightB
  rw [show wantOk m7.k m7.p = true from rfl, show decide (hasB m7 = wantN m7.k m7.p) = true from by decide]
  unfold fitsB
  rw [show nilB m7.s = true from decide_eq_true rfl, show topI m7.a 8 = 0 from topI_none 8, show topI m7.b 8 = 0 from topI_none 8]
  simp [m7]
theorem enc7 : encOk m7 = true ∧ encL m7 = [0, 1, 7] := by
  have h : encOk m7 = true := by
    unfold encOk
    rw [m7_right]
    decide
  exact ⟨h, by rw [encL_ok h]; decide⟩
theorem rA_name : NameOk rA.s := by
  refine ⟨by decide, by decide, fun i h => ?_⟩
  have : i = 0 := by have h1 : rA.s.size = 1 := rfl; omega
  subst this
  exact (show (33 : Int) ≤ ((97 : UInt8).toNat : Int) ∧ ((97 : UInt8).toNat : Int) ≤ 126 by decide)
theorem rA_keep : keepB rA = true := by
  unfold keepB
  rw [show nameB rA.s = true from @decide_eq_true _ (Classical.propDecidable _) rA_name, show topI rA.a 8 = 0 from topI_none 8, show topI rA.b 8 = 0 from topI_none 8]
  decide
theorem known_1 : wrN true 0 (([0, 1, 7] : List UInt8).take 1) = 1 ∧ nxM (([0, 1, 7] : List UInt8).take 1) = mZero ∧ nxOk (([0, 1, 7] : List UInt8).take 1) = false ∧ (false || nxBad (([0, 1, 7] : List UInt8).take 1)) = false ∧ nxL (([0, 1, 7] : List UInt8).take 1) = ([0, 1, 7] : List UInt8).take 1 := by
  obtain ⟨h1, h2⟩ := nx_short (l := ([0, 1, 7] : List UInt8).take 1) (by decide)
  refine ⟨rfl, by rw [nxM, h1]; rfl, h1, by rw [h2]; rfl, by rw [nxL, h1, h2]; rfl⟩
theorem known_2 : wrL true (([0, 1, 7] : List UInt8).take 1) (([0, 1, 7] : List UInt8).drop 1) = [0, 1, 7] ∧ wrN true 1 (([0, 1, 7] : List UInt8).drop 1) = 3 ∧ nxM ([0, 1, 7] : List UInt8) = m7 ∧ nxOk ([0, 1, 7] : List UInt8) = true ∧ (false || nxBad ([0, 1, 7] : List UInt8)) = false ∧ nxL ([0, 1, 7] : List UInt8) = [] := by
  obtain ⟨e1, e2⟩ := enc7
  obtain ⟨d1, d2⟩ := decOk_enc m7_ok e1
  rw [e2] at d1 d2
  have hF : nxF ([0, 1, 7] : List UInt8) = 1 := rfl
  have hT : ([0, 1, 7] : List UInt8).take (2 + nxF ([0, 1, 7] : List UInt8)) = [0, 1, 7] := rfl
  obtain ⟨h1, h2⟩ := nx_whole (l := ([0, 1, 7] : List UInt8)) (by decide) (by rw [hF]; decide) (by rw [hF]; decide)
  rw [hT, d1] at h1 h2
  exact ⟨rfl, rfl, by rw [nxM, h1, hT, d2]; rfl, h1, by rw [h2]; rfl, by rw [nxL, h1]; rfl⟩
theorem y_eqPN {a : Act} {w : World} {o : Oper} (ty tz : TypeId) (hu : Try.prog.underlying ty = some (.pointer (Try.prog.pointee ty))) (hgt : Try.prog.eqGuardType Try.prog.depth ty = false) (x : Operand) {p : Addr} (ho : o.op = .binOp .eql ty x (.const (.pointer none)) tz) (hx : a.eval x = .pointer (some p)) : (execOp a.eval o).run Try.prog w = .ok (.value (.bool false)) w :=
  y_eqV ty tz x _ ho hx (v := .pointer none) rfl (by simp [eqGuard, go_sem, hgt]) (by rw [run_eql_pointer_nil (h := hu)]; rfl)
set_option maxRecDepth 100000 in
set_option maxHeartbeats 8000000 in
theorem lknown_any  (w : World) :
    Calls Try.prog 15 #[] w fun e w' => e = .returned (.bool true) ∧ Below w.heap.size w w' := by
  obtain ⟨L, hL⟩ : ∃ L, L = ([0, 1, 7] : List UInt8) := ⟨_, rfl⟩
  obtain ⟨RB, hRB⟩ : ∃ l, recE rA = l := ⟨_, rfl⟩
  have hRl : RB.length ≤ 100000 := by rw [← hRB, show recE rA = recL rA from if_pos rA_keep]; decide
  have k1 := known_1
  have k2 := known_2
  have hL3 : L.length = 3 := by rw [hL]; rfl
  rw [← hL] at k1 k2
  obtain ⟨e1, e2⟩ := enc7
  rw [← hL] at e2
  obtain ⟨y1, y2⟩ := rd_rec rA_ok rA_keep
  rw [hRB] at y1 y2
  refine calls_fx (args := []) 100 Try.func15 rfl rfl rfl ?_
  intro fa F
  have M := Mx.start w
  refine wp_seq_k fun K21 hK21 => wp_region_lit ?_
  refine rm rfl F fun a22 F22 => ?_
  refine hK21 _ _ (wp_seq_k fun K23 hK23 => ?_)
  refine wp_region_lit ?_
  refine rn rfl rfl F22 rfl (.agg (msgA ⟨7, 0, 0, 0, "".toUTF8, 0, 0, [], [], [], [], []⟩ ⟨.slice none 0 0, .slice none 0 0, .slice none 0 0, .slice none 0 0, .slice none 0 0⟩)) (by unfold execOp; simp only [List.map_toArray, List.map_cons, List.map_nil, ]; kernel_rfl) fun a24 F24 => ?_
  refine wl_call (wanted_none rfl) rfl F24 rfl rfl (enters_of Try.func17 (by kernel_rfl) rfl) #[.agg (msgA ⟨7, 0, 0, 0, "".toUTF8, 0, 0, [], [], [], [], []⟩ ⟨.slice none 0 0, .slice none 0 0, .slice none 0 0, .slice none 0 0, .slice none 0 0⟩)] (args1 (F24.get rfl)) (enc_is m7 vZero m7_ok (by decide) true L e1 e2 w ⟨isb_nil _, isb_nil _, isb_nil _, isb_nil _, isb_nil _⟩) ?_
  rintro _ w25 a25 ⟨v25, rfl, hv25, b25⟩ F25
  have M25 := M.newO b25 0 hv25
  clear M b25 hv25
  obtain ⟨A25, c25, rfl⟩ := (M25.isO (k := 0) rfl).shape
  refine exS 5 [(0, .bool false), (1, .slice A25 (L).length c25), (2, .bool true)] [] dnil [] F25 (by kernel_rfl) fun a26 F26 => ?_
  simp only [List.drop_succ_cons, List.drop_zero]
  refine hK23 _ _ (wp_seq_k fun K27 hK27 => ?_)
  refine wp_region_lit ?_
  refine wl_call (wanted_none rfl) rfl F26 rfl rfl (enters_of Try.func26 (by kernel_rfl) rfl) #[] (args0) (new_any w25) ?_
  rintro _ w28 a28 ⟨g28, rfl, hg28, hc28, b28⟩ F28
  have M28 := (M25.newb b28 1 hg28 hc28).nilT 2
  clear M25 b28 hg28 hc28
  refine rm rfl F28 fun a29 F29 => ?_
  refine hK27 _ _ (wp_seq_k fun K30 hK30 => ?_)
  refine wp_seq_k fun K31 hK31 => wp_region_lit ?_
  refine rm rfl F29 fun a32 F32 => ?_
  refine rn rfl rfl F32 rfl (.bool false) (y_eqPN 46 _ Try.underlying46 (by kernel_rfl) _ rfl (F32.get rfl)) fun a33 F33 => ?_
  refine hK31 _ _ (wp_cond_false (F33.get (t := 19) rfl) ?_)
  refine wp_skip ?_
  refine hK30 _ _ (wp_seq_k fun K34 hK34 => ?_)
  refine wp_region_lit ?_
  refine rm rfl F33 fun a35 F35 => ?_
  refine rm rfl F35 fun a36 F36 => ?_
  refine rm rfl F36 fun a37 F37 => ?_
  refine rn rfl rfl F37 rfl (.int .i64 3) (y_len _ rfl (F37.get rfl) (M28.isO (k := 0) rfl) (by rw [hL3]; rfl)) fun a38 F38 => ?_
  refine rn rfl rfl F38 rfl (.int .i64 1) (y_min _ _ rfl rfl (F38.get rfl) (by decide)) fun a39 F39 => ?_
  refine wl_runE (wanted_none rfl) rfl F39 rfl (y_slTo _ _ rfl (F39.get rfl) (M28.isO (k := 0) rfl) (F39.get rfl) (j := 1) rfl (by omega)) ?_
  intro v40 a40 h40 F40
  have og41 := M28.owns (k := 0) rfl
  have M41 := M28.tame (k := 0) rfl
  clear M28
  have M40 := M41.partB 3 (k := 0) rfl h40.1 h40.2
  clear M41
  obtain ⟨A40, c40, rfl⟩ := (M40.isb (k := 3) rfl).shape
  refine wl_call (wanted_none rfl) rfl F40 rfl rfl (enters_of Try.func28 (by kernel_rfl) rfl) #[.pointer (some ⟨g28, 0, none⟩), .slice A40 ((L.take 1)).length c40] (args2 (F40.get rfl) (F40.get rfl)) (swrite_any M40 1 2 3 g28 [] (L.take 1) (.slice none 0 0) (.slice A40 ((L.take 1)).length c40) 0 false rfl rfl rfl (by decide) (by decide) (by simp only [List.length_nil, List.length_take]; omega) (by decide) true rfl) ?_
  rintro _ w42 a42 ⟨u42, N42, rfl⟩ F42
  rw [(show wrL true [] (L.take 1) = L.take 1 from rfl)] at N42
  rw [k1.1] at N42
  clear M40
  replace N42 : Mx _ _ _ ((1, blkR g28 94 #[u42, .int .i64 1, .bool false]) :: _) := N42
  refine hK34 _ _ (wp_seq_k fun K43 hK43 => ?_)
  refine wp_region_lit ?_
  refine rm rfl F42 fun a44 F44 => ?_
  refine wl_call (wanted_none rfl) rfl F44 rfl rfl (enters_of Try.func30 (by kernel_rfl) rfl) #[.pointer (some ⟨g28, 0, none⟩)] (args1 (F44.get rfl)) (next_is N42 1 2 g28 (L.take 1) u42 1 false rfl rfl (by decide) (by rw [List.length_take]; omega) 4 5 6 7 8 mZero false false (L.take 1) k1.2.1 k1.2.2.1 k1.2.2.2.1 k1.2.2.2.2) ?_
  rintro _ w45 a45 ⟨u45, V45, N45, rfl⟩ F45
  clear N42
  refine exS 3 [(0, .bool false), (1, .slice A25 (L).length c25), (2, .bool true), (3, .pointer (some ⟨g28, 0, none⟩)), (30, .agg (msgA mZero V45)), (31, .bool false)] [] dnil [] F45 (by kernel_rfl) fun a46 F46 => ?_
  simp only [List.drop_succ_cons, List.drop_zero]
  refine wl_alloc (wanted_none rfl) rfl F46 rfl N45 9 (t := 29) (c := msgA ⟨0, 0, 0, 0, "".toUTF8, 0, 0, [], [], [], [], []⟩ ⟨.slice none 0 0, .slice none 0 0, .slice none 0 0, .slice none 0 0, .slice none 0 0⟩) (by unfold execOp; kernel_rfl) ?_
  intro g47 a47 w47 F47 M47
  clear F46 N45
  refine wl_st (wanted_none rfl) rfl F47 M47 (k := 9) rfl _ _ _ rfl (F47.get rfl) (F47.get rfl) (msgA mZero V45) (msgA mZero V45) rfl (Nat.le_of_ble_eq_true rfl) (msgA_one (w := w47) ⟨(M47.isb (k := 4) rfl), (M47.isb (k := 5) rfl), (M47.isb (k := 6) rfl), (M47.isb (k := 7) rfl), (M47.isb (k := 8) rfl)⟩) (y_put0 rfl) (by kernel_rfl) ?_
  intro w48 M48
  clear M47
  refine rm rfl F47 fun a49 F49 => ?_
  refine hK43 _ _ (wp_seq_k fun K50 hK50 => ?_)
  refine wp_region_lit ?_
  refine rm rfl F49 fun a51 F51 => ?_
  refine rm rfl F51 fun a52 F52 => ?_
  refine rm rfl F52 fun a53 F53 => ?_
  refine rn rfl rfl F53 rfl (.int .i64 3) (y_len _ rfl (F53.get rfl) (M48.isb (k := 0) rfl) (by rw [hL3]; rfl)) fun a54 F54 => ?_
  refine rn rfl rfl F54 rfl (.int .i64 1) (y_min _ _ rfl rfl (F54.get rfl) (by decide)) fun a55 F55 => ?_
  refine wl_runE (wanted_none rfl) rfl F55 rfl (y_slFrom _ _ rfl (F55.get rfl) (M48.isb (k := 0) rfl) (F55.get rfl) (i := 1) rfl (by omega)) ?_
  intro v56 a56 h56 F56
  have M56 := M48.partB 10 (k := 0) rfl h56.1 h56.2
  clear M48
  obtain ⟨A56, c56, rfl⟩ := (M56.isb (k := 10) rfl).shape
  refine wl_call (wanted_none rfl) rfl F56 rfl rfl (enters_of Try.func28 (by kernel_rfl) rfl) #[.pointer (some ⟨g28, 0, none⟩), .slice A56 ((L.drop 1)).length c56] (args2 (F56.get rfl) (F56.get rfl)) (swrite_any M56 1 2 10 g28 (L.take 1) (L.drop 1) u45 (.slice A56 ((L.drop 1)).length c56) 1 false rfl rfl rfl (by decide) (by decide) (by simp only [List.length_take, List.length_drop]; omega) (by decide) true (by decide)) ?_
  rintro _ w57 a57 ⟨u57, N57, rfl⟩ F57
  rw [k2.1] at N57
  rw [k2.2.1] at N57
  clear M56
  replace N57 : Mx _ _ _ ((1, blkR g28 94 #[u57, .int .i64 3, .bool false]) :: _) := N57
  refine hK50 _ _ (wp_seq_k fun K58 hK58 => ?_)
  refine wp_region_lit ?_
  refine rm rfl F57 fun a59 F59 => ?_
  refine wl_call (wanted_none rfl) rfl F59 rfl rfl (enters_of Try.func30 (by kernel_rfl) rfl) #[.pointer (some ⟨g28, 0, none⟩)] (args1 (F59.get rfl)) (next_is N57 1 2 g28 L u57 3 false rfl rfl (by decide) (by omega) 11 12 13 14 15 m7 true false ([] : List UInt8) k2.2.2.1 k2.2.2.2.1 k2.2.2.2.2.1 k2.2.2.2.2.2) ?_
  rintro _ w60 a60 ⟨u60, V60, N60, rfl⟩ F60
  clear N57
  refine exA 3 [(39, .tuple #[.agg (msgA m7 V60), .bool true]), (42, .agg (msgA m7 V60)), (43, .bool true)] [] dnil [] F60 (by kernel_rfl) (by kernel_rfl) fun a61 F61 => ?_
  simp only [List.drop_succ_cons, List.drop_zero]
  refine wl_alloc (wanted_none rfl) rfl F61 rfl N60 16 (t := 29) (c := msgA ⟨0, 0, 0, 0, "".toUTF8, 0, 0, [], [], [], [], []⟩ ⟨.slice none 0 0, .slice none 0 0, .slice none 0 0, .slice none 0 0, .slice none 0 0⟩) (by unfold execOp; kernel_rfl) ?_
  intro g62 a62 w62 F62 M62
  clear F61 N60
  refine wl_st (wanted_none rfl) rfl F62 M62 (k := 16) rfl _ _ _ rfl (F62.get rfl) (F62.get rfl) (msgA m7 V60) (msgA m7 V60) rfl (Nat.le_of_ble_eq_true rfl) (msgA_one (w := w62) ⟨(M62.isb (k := 11) rfl), (M62.isb (k := 12) rfl), (M62.isb (k := 13) rfl), (M62.isb (k := 14) rfl), (M62.isb (k := 15) rfl)⟩) (y_put0 rfl) (by kernel_rfl) ?_
  intro w63 M63
  clear M62
  refine rm rfl F62 fun a64 F64 => ?_
  refine hK58 _ _ (wp_seq_k fun K65 hK65 => ?_)
  refine wp_region_lit ?_
  refine rn rfl rfl F64 rfl (.agg (recA ⟨1, ({ data := #[97] }), [], 0, 0, [], 0, 0, 0⟩ ⟨.slice none 0 0, .slice none 0 0⟩)) (by unfold execOp; simp only [List.map_toArray, List.map_cons, List.map_nil, ]; kernel_rfl) fun a66 F66 => ?_
  refine wl_call (wanted_none rfl) rfl F66 rfl rfl (enters_of Try.func35 (by kernel_rfl) rfl) #[.agg (recA ⟨1, ({ data := #[97] }), [], 0, 0, [], 0, 0, 0⟩ ⟨.slice none 0 0, .slice none 0 0⟩)] (args1 (F66.get rfl)) (rec_is rA rvZero rA_ok true RB rA_keep hRB w63 ⟨isb_nil _, isb_nil _⟩) ?_
  rintro _ w67 a67 ⟨v67, rfl, hv67, b67⟩ F67
  have M67 := M63.newO b67 17 hv67
  clear M63 b67 hv67
  obtain ⟨A67, c67, rfl⟩ := (M67.isO (k := 17) rfl).shape
  refine exA 5 [(44, .tuple #[.slice A67 (RB).length c67, .bool true]), (47, .slice A67 (RB).length c67), (48, .bool true), (8, .slice A67 (RB).length c67), (9, .bool true)] [] dnil [] F67 (by kernel_rfl) (by kernel_rfl) fun a68 F68 => ?_
  simp only [List.drop_succ_cons, List.drop_zero]
  refine hK65 _ _ (wp_seq_k fun K69 hK69 => ?_)
  refine wp_region_lit ?_
  refine rm rfl F68 fun a70 F70 => ?_
  refine wl_call (wanted_none rfl) rfl F70 rfl rfl (enters_of Try.func37 (by kernel_rfl) rfl) #[.slice A67 (RB).length c67] (args1 (F70.get rfl)) (rd_is RB (.slice A67 (RB).length c67) hRl true rA y1 y2 w67 (M67.isO (k := 17) rfl)) ?_
  rintro _ w71 a71 ⟨V71, rfl, is71, lo71, b71⟩ F71
  have M71 := M67.newRec b71 is71 lo71 18 19
  clear M67 b71 lo71
  refine exA 3 [(49, .tuple #[.agg (recA rA V71), .bool true]), (52, .agg (recA rA V71)), (53, .bool true)] [] dnil [] F71 (by kernel_rfl) (by kernel_rfl) fun a72 F72 => ?_
  simp only [List.drop_succ_cons, List.drop_zero]
  refine wl_alloc (wanted_none rfl) rfl F72 rfl M71 20 (t := 54) (c := recA ⟨0, "".toUTF8, [], 0, 0, [], 0, 0, 0⟩ ⟨.slice none 0 0, .slice none 0 0⟩) (by unfold execOp; kernel_rfl) ?_
  intro g73 a73 w73 F73 M73
  clear F72 M71
  refine wl_st (wanted_none rfl) rfl F73 M73 (k := 20) rfl _ _ _ rfl (F73.get rfl) (F73.get rfl) (recA rA V71) (recA rA V71) rfl (Nat.le_of_ble_eq_true rfl) (recA_one (w := w73) ⟨(M73.isb (k := 18) rfl), (M73.isb (k := 19) rfl)⟩) (y_put0 rfl) (by kernel_rfl) ?_
  intro w74 M74
  clear M73
  refine rm rfl F73 fun a75 F75 => ?_
  refine hK69 _ _ (wp_seq_k fun K76 hK76 => ?_)
  refine wp_region_lit ?_
  refine rm rfl F75 fun a77 F77 => ?_
  refine rm rfl F77 fun a78 F78 => ?_
  refine rm rfl F78 fun a79 F79 => ?_
  refine wl_run (w' := w74) (wanted_yes rfl rfl rfl (F79.get rfl)) rfl F79 rfl (.int .i64 3) (y_len _ rfl (F79.get rfl) (M74.isb (k := 0) rfl) (by rw [hL3]; rfl)) fun a80 F80 => ?_
  refine exA 4 [(58, .bool true), (59, .bool true), (60, .bool true), (61, .slice A25 (L).length c25)] [] dnil [] F80 (by kernel_rfl) (by kernel_rfl) fun a81 F81 => ?_
  simp only [List.drop_succ_cons, List.drop_zero]
  refine wl_run (w' := w74) (wanted_yes rfl rfl rfl (F81.get rfl)) rfl F81 rfl ((ixV (.slice A25 (L).length c25) 1)) (y_ixB _ _ rfl (F81.get rfl) (M74.isb (k := 0) rfl) rfl rfl (by omega)) fun a82 F82 => ?_
  refine wl_run (w' := w74) (wanted_yes rfl rfl rfl (F82.get rfl)) rfl F82 rfl (.int .u8 (((1 : UInt8).toNat : Nat) : Int)) (y_ldB _ rfl (F82.get rfl) (M74.isb (k := 0) rfl) (by rw [hL]; rfl) rfl) fun a83 F83 => ?_
  refine wl_run (w' := w74) (wanted_yes rfl rfl rfl (F83.get rfl)) rfl F83 rfl (.bool true) (y_eqI _ _ _ _ rfl (F83.get rfl) rfl Try.underlying5 (y_beqT (by decide))) fun a84 F84 => ?_
  refine exA 3 [(65, .bool true), (66, .bool true), (67, .slice A25 (L).length c25)] [] dnil [] F84 (by kernel_rfl) (by kernel_rfl) fun a85 F85 => ?_
  simp only [List.drop_succ_cons, List.drop_zero]
  refine wl_run (w' := w74) (wanted_yes rfl rfl rfl (F85.get rfl)) rfl F85 rfl ((ixV (.slice A25 (L).length c25) 2)) (y_ixB _ _ rfl (F85.get rfl) (M74.isb (k := 0) rfl) rfl rfl (by omega)) fun a86 F86 => ?_
  refine wl_run (w' := w74) (wanted_yes rfl rfl rfl (F86.get rfl)) rfl F86 rfl (.int .u8 (((7 : UInt8).toNat : Nat) : Int)) (y_ldB _ rfl (F86.get rfl) (M74.isb (k := 0) rfl) (by rw [hL]; rfl) rfl) fun a87 F87 => ?_
  refine wl_run (w' := w74) (wanted_yes rfl rfl rfl (F87.get rfl)) rfl F87 rfl (.bool true) (y_eqI _ _ _ _ rfl (F87.get rfl) rfl Try.underlying5 (y_beqT (by decide))) fun a88 F88 => ?_
  refine exS 11 [(0, .bool false), (3, .pointer (some ⟨g28, 0, none⟩)), (9, .bool true), (10, .pointer (some ⟨g73, 0, none⟩)), (11, .bool true), (79, .bool true), (81, .int .i64 m7.k)] [0] (dcons (M74.blk (k := 16) rfl) dnil) [g62] F88 (by kernel_rfl) fun a89 F89 => ?_
  simp only [List.drop_succ_cons, List.drop_zero]
  refine wl_run (w' := w74) (wanted_yes rfl rfl rfl (F89.get rfl)) rfl F89 rfl (.bool true) (y_eqI _ _ _ _ rfl (F89.get rfl) rfl Try.underlying3 (y_beqT (show m7.k = 7 from rfl))) fun a90 F90 => ?_
  refine exA 3 [(83, .bool true), (84, .bool true), (85, .pointer (some ⟨g28, 0, none⟩))] [] dnil [] F90 (by kernel_rfl) (by kernel_rfl) fun a91 F91 => ?_
  simp only [List.drop_succ_cons, List.drop_zero]
  refine wl_call (wanted_yes rfl rfl rfl (F91.get rfl)) rfl F91 rfl rfl (enters_of Try.func32 (by kernel_rfl) rfl) #[.pointer (some ⟨g28, 0, none⟩)] (args1 (F91.get rfl)) (call_ex ((bad_any g28 u60 3 false w74 (M74.blk (k := 1) rfl)))) ?_
  rintro _ w92 a92 ⟨rfl, b92⟩ F92
  have M92 := M74.step b92
  refine exS 11 [(0, .bool false), (95, .bool true), (97, .string rA.s)] [0] (dcons (M92.blk (k := 20) rfl) dnil) [g73] F92 (by kernel_rfl) fun a93 F93 => ?_
  simp only [List.drop_succ_cons, List.drop_zero]
  refine wl_run (w' := w92) (wanted_yes rfl rfl rfl (F93.get rfl)) rfl F93 rfl (.bool true) (y_eqS _ _ _ rfl (F93.get rfl) rfl (decide_eq_true rfl)) fun a94 F94 => ?_
  refine exS 2 [(0, .bool true)] [] dnil [] F94 (by kernel_rfl) fun a95 F95 => ?_
  simp only [List.drop_succ_cons, List.drop_zero]
  refine hK76 _ _ (wp_ret ?_)
  try simp only [Exit.then, Exit.inBlock, Exit.jump]
  exact bodyPost_ret (res1 rfl (F95.get (t := 0) rfl)) F95.defers ⟨rfl, M92.below⟩
end Go.Proofs.Ytlbkogdmojlpmaa
namespace Go.Proofs.Ytlbkogdmojlpmaa
set_option linter.unusedVariables false
set_option maxRecDepth 20000
set_option linter.unusedSimpArgs false
open Go.ChangeShapes Go.WideShapes Go.ChangeAt Go.RowKit
theorem Rd.isB' {w : World} {A : Option Addr} {l : List UInt8} {n c : Nat} (h : Rd w A l) (hn : l.length = n) (hc : n ≤ c) (hm : c ≤ maxLen) (hz : A = none → c = 0) : IsB w l (.slice A n c) := by
  subst hn
  exact ⟨A, c, rfl, hc, hm, hz, h⟩
theorem top_small {a : Nat} (h : a < 4294967296) : topI a 8 ≤ 32 := by
  by_cases h0 : a = 0
  · subst h0; rw [topI_none]; decide
  · have ha : a < 4294967296 ^ 8 := Nat.lt_trans h (by decide)
    have h1 := Nat.log2_self_le h0
    have h2 : a < 2 ^ (Nat.log2 a + 1) := Nat.lt_log2_self
    have h3 : a / 2 ^ (Nat.log2 a) = 1 := by
      apply Nat.div_eq_of_lt_le
      · omega
      · rw [Nat.pow_succ] at h2; omega
    rw [top_one ha h3]
    have h4 : Nat.log2 a < 32 := by
      refine Classical.byContradiction fun hn => ?_
      have : 2 ^ 32 ≤ 2 ^ Nat.log2 a := Nat.pow_le_pow_right (by omega) (by omega)
      omega
    omega
theorem nmB_ne (s : ByteArray) : sBy (nmB s) ≠ [] := by
  by_cases h : (sBy s).length = 0
  · rw [nmB_nil h]; simp [sBy]
  · rw [nmB_some h]
    simp only [sBy, List.toList_toArray]
    intro e
    have := congrArg List.length e
    rw [List.length_take] at this
    have h2 := nmL_len (sBy s)
    unfold sBy at h h2
    simp only [List.length_nil] at this
    omega
theorem nmB_size (s : ByteArray) : 0 < (nmB s).size ∧ (nmB s).size ≤ 16 := by
  have h := nmB_ne s
  have e : (sBy (nmB s)).length = (nmB s).size := sBy_len _
  refine ⟨by have := List.length_pos_iff.2 h; omega, ?_⟩
  by_cases h0 : (sBy s).length = 0
  · rw [nmB_nil h0]; decide
  · rw [← e, nmB_some h0]
    simp only [sBy, List.toList_toArray, List.length_take]
    omega
theorem name_of {B : ByteArray} (h1 : 0 < B.size) (h2 : B.size ≤ 16) (h : ∀ x ∈ sBy B, 33 ≤ x.toNat ∧ x.toNat ≤ 126) : nameB B = true := by
  refine @decide_eq_true _ (Classical.propDecidable _) ⟨h1, h2, fun i hi => ?_⟩
  have hg : (sBy B)[i]? = some (B[i]'hi) := by
    unfold sBy
    rw [Array.getElem?_toList]
    exact Array.getElem?_eq_getElem hi
  have := h _ (List.mem_of_getElem? hg)
  omega
theorem nmB_ok (s : ByteArray) : nameB (nmB s) = true := by
  refine name_of (nmB_size s).1 (nmB_size s).2 fun x hx => ?_
  by_cases h0 : (sBy s).length = 0
  · rw [nmB_nil h0] at hx
    have : x = 117 := by simpa [sBy] using hx
    subst this; decide
  · rw [nmB_some h0] at hx
    simp only [sBy, List.toList_toArray] at hx
    obtain ⟨y, -, hy⟩ := List.mem_map.1 (List.mem_of_mem_take hx)
    rw [← hy]
    exact nmC_in y
theorem thN_congr {f g : Nat → Bool} : ∀ k, (∀ j, j < k → f j = g j) → thN f k = thN g k
  | 0, _ => rfl
  | k + 1, h => by
    unfold thN
    rw [thN_congr k fun j hj => h j (by omega), h k (by omega)]
theorem right_of {m : MsgN} (F : Nat → Bool) (hF : ∀ k, k < 12 → flagB m k = F k) (hw : ((thN F 12 : Nat) : Int) = wantR m) (hp : 0 ≤ m.p ∧ m.p ≤ 2) (hs : nilB m.s = true ∨ nameB m.s = true) (ha : m.a < 4294967296) (hb : m.b < 4294967296)
    (h5 : m.l5.length ≤ 16) (h6 : m.l6.length ≤ 48) (h7 : m.l7.length ≤ 16) (h8 : m.l8.length ≤ 80) (h9 : m.l9.length ≤ 120) (hc : 0 ≤ m.c) (he : 0 ≤ m.e ∧ m.e ≤ 11) : rightB m = true := by
  rw [← rightR_is]
  unfold rightR hasR
  rw [thN_congr 12 hF, hw]
  have e1 := top_small ha
  have e2 := top_small hb
  have e3 : (nilB m.s || nameB m.s) = true := by rcases hs with h | h <;> rw [h] <;> simp
  rw [e3]
  simp only [Bool.and_eq_true, Bool.not_eq_true', decide_eq_true_eq, decide_eq_false_iff_not]
  refine ⟨⟨⟨⟨⟨⟨⟨⟨⟨⟨⟨⟨⟨trivial, by omega⟩, by omega⟩, trivial⟩, e1⟩, e2⟩, by omega⟩, by omega⟩, by omega⟩, by omega⟩, by omega⟩, hc⟩, he.1⟩, he.2⟩
theorem fl_cases {m : MsgN} {F : Nat → Bool} (h0 : F 0 = false) (h1 : (m.p != 0) = F 1) (h2 : (!(sBy m.s).isEmpty) = F 2) (h3 : (!decide (m.a = 0)) = F 3) (h4 : (!decide (m.b = 0)) = F 4) (h5 : (!m.l5.isEmpty) = F 5) (h6 : (!m.l6.isEmpty) = F 6) (h7 : (!m.l7.isEmpty) = F 7) (h8 : (!m.l8.isEmpty) = F 8) (h9 : (!m.l9.isEmpty) = F 9) (h10 : (m.c != 0) = F 10) (h11 : (m.e != 0) = F 11) : ∀ k, k < 12 → flagB m k = F k := by
  intro k hk
  have : k = 0 ∨ k = 1 ∨ k = 2 ∨ k = 3 ∨ k = 4 ∨ k = 5 ∨ k = 6 ∨ k = 7 ∨ k = 8 ∨ k = 9 ∨ k = 10 ∨ k = 11 := by omega
  rcases this with rfl | rfl | rfl | rfl | rfl | rfl | rfl | rfl | rfl | rfl | rfl | rfl
  · exact h0.symm
  · rw [← fl_1, h1]
  · exact h2
  · rw [← fl_3, h3]
  · rw [← fl_4, h4]
  · exact h5
  · exact h6
  · exact h7
  · exact h8
  · exact h9
  · rw [← fl_10, h10]
  · rw [← fl_11, h11]
theorem some_ne (b : List UInt8) (n : Int) {K : Nat} (h : 0 < K) : (someL b n K).isEmpty = false := by
  have := someL_len b n K
  cases he : someL b n K with
  | nil => rw [he] at this; simp at this; omega
  | cons x r => rfl
theorem nil_empty : nilB ("".toUTF8) = true := decide_eq_true rfl
theorem nmB_nonempty (s : ByteArray) : (sBy (nmB s)).isEmpty = false := by
  cases he : sBy (nmB s) with
  | nil => exact absurd he (nmB_ne s)
  | cons x r => rfl
theorem kn (n : Int) {k : Int} (hk : 0 < k) : 0 < (1 + n % k).toNat ∧ (1 + n % k).toNat ≤ k.toNat := by
  have h1 := Int.emod_nonneg n (show k ≠ 0 by omega)
  have h2 := Int.emod_lt_of_pos n hk
  omega
set_option maxRecDepth 100000 in
set_option maxHeartbeats 4000000 in
theorem mkM_right (kind n : Int) (s : ByteArray) (b : List UInt8) : rightB (mkM kind n s b) = true := by
  have h2 := Int.emod_two_eq n
  have hA := kn n (show (0 : Int) < 4294967295 by decide)
  have hC := kn (n.tdiv 3) (show (0 : Int) < 70000 by decide)
  have h16 := kn n (show (0 : Int) < 16 by decide)
  have h48 := kn n (show (0 : Int) < 48 by decide)
  have h80 := kn n (show (0 : Int) < 80 by decide)
  have h120 := kn n (show (0 : Int) < 120 by decide)
  have h7 := kn (n.tdiv 7) (show (0 : Int) < 16 by decide)
  have h5 := kn (n.tdiv 5) (show (0 : Int) < 110 by decide)
  have h11 := Int.emod_nonneg n (show (11 : Int) ≠ 0 by decide)
  have h11' := Int.emod_lt_of_pos n (show (0 : Int) < 11 by decide)
  have h40 := Int.emod_nonneg n (show (1099511627776 : Int) ≠ 0 by decide)
  have hp1 : ((1 + n % 2) != 0) = true := y_bneT (by omega)
  have he1 : ((1 + n % 11) != 0) = true := y_bneT (by omega)
  have hc1 : ((1 + n % 1099511627776) != 0) = true := y_bneT (by omega)
  have hA0 : decide ((1 + n % 4294967295).toNat = 0) = false := decide_eq_false (by omega)
  have hC0 : decide ((1 + n.tdiv 3 % 70000).toNat = 0) = false := decide_eq_false (by omega)
  have s16 := some_ne b n h16.1
  have s48 := some_ne b n h48.1
  have s80 := some_ne b n h80.1
  have s120 := some_ne b n h120.1
  have s7 := some_ne b (n.tdiv 7) h7.1
  have s5 := some_ne b (n.tdiv 5) h5.1
  have hn := nmB_ok s
  have hne := nmB_nonempty s
  have key : ∀ (S : List Nat) (m : MsgN), (∀ k, k < 12 → flagB m k = S.contains k) → ((thN (fun k => S.contains k) 12 : Nat) : Int) = wantR m → (0 ≤ m.p ∧ m.p ≤ 2) → (nilB m.s = true ∨ nameB m.s = true) → m.a < 4294967296 → m.b < 4294967296 → m.l5.length ≤ 16 → m.l6.length ≤ 48 → m.l7.length ≤ 16 → m.l8.length ≤ 80 → m.l9.length ≤ 120 → 0 ≤ m.c → (0 ≤ m.e ∧ m.e ≤ 11) → rightB m = true := fun S m a1 a2 a3 a4 a5 a6 a7 a8 a9 a10 a11 a12 a13 => right_of (fun k => S.contains k) a1 a2 a3 a4 a5 a6 a7 a8 a9 a10 a11 a12 a13
  unfold mkM
  by_cases k0 : kind % 12 = 0
  · rw [if_pos k0]
    by_cases q : n % 2 = 0
    · rw [if_pos q]; exact key [1, 2, 3] _ (fl_cases rfl (by first | exact hp1 | rfl) (by first | rfl | (show (!(sBy (nmB s)).isEmpty) = _; rw [hne]; rfl)) (by first | rfl | (show (!decide (_ = 0)) = _; first | (rw [hA0]; rfl) | (rw [hC0]; rfl))) (by first | rfl | (show (!decide (_ = 0)) = _; first | (rw [hA0]; rfl) | (rw [hC0]; rfl))) (by first | rfl | (show (!(someL _ _ _).isEmpty) = _; rw [s16]; rfl)) (by first | rfl | (show (!(someL _ _ _).isEmpty) = _; rw [s48]; rfl)) (by first | rfl | (show (!(someL _ _ _).isEmpty) = _; first | (rw [s16]; rfl) | (rw [s7]; rfl))) (by first | rfl | (show (!(someL _ _ _).isEmpty) = _; rw [s80]; rfl)) (by first | rfl | (show (!(someL _ _ _).isEmpty) = _; first | (rw [s120]; rfl) | (rw [s5]; rfl))) (by first | exact hc1 | rfl) (by first | exact he1 | rfl)) (by first | rfl | decide | (rw [show thN (fun k => List.contains [7, 8] k) 12 = 384 by decide]; unfold wantR; dsimp only; simp only [Int.reduceEq, ↓reduceIte, someL_len]; rw [if_pos (by omega)]; rfl) | (rw [show thN (fun k => List.contains [8] k) 12 = 256 by decide]; unfold wantR; simp)) (by dsimp only; omega) (by first | exact .inl nil_empty | exact .inr hn) (by dsimp only; omega) (by dsimp only; omega) (by first | exact Nat.zero_le _ | (show (someL _ _ _).length ≤ _; rw [someL_len]; omega)) (by first | exact Nat.zero_le _ | (show (someL _ _ _).length ≤ _; rw [someL_len]; omega)) (by first | exact Nat.zero_le _ | (show (someL _ _ _).length ≤ _; rw [someL_len]; omega)) (by first | exact Nat.zero_le _ | (show (someL _ _ _).length ≤ _; rw [someL_len]; omega)) (by first | exact Nat.zero_le _ | (show (someL _ _ _).length ≤ _; rw [someL_len]; omega)) (by dsimp only; omega) (by dsimp only; omega)
    · rw [if_neg q]; exact key [1, 2, 3, 4] _ (fl_cases rfl (by first | exact hp1 | rfl) (by first | rfl | (show (!(sBy (nmB s)).isEmpty) = _; rw [hne]; rfl)) (by first | rfl | (show (!decide (_ = 0)) = _; first | (rw [hA0]; rfl) | (rw [hC0]; rfl))) (by first | rfl | (show (!decide (_ = 0)) = _; first | (rw [hA0]; rfl) | (rw [hC0]; rfl))) (by first | rfl | (show (!(someL _ _ _).isEmpty) = _; rw [s16]; rfl)) (by first | rfl | (show (!(someL _ _ _).isEmpty) = _; rw [s48]; rfl)) (by first | rfl | (show (!(someL _ _ _).isEmpty) = _; first | (rw [s16]; rfl) | (rw [s7]; rfl))) (by first | rfl | (show (!(someL _ _ _).isEmpty) = _; rw [s80]; rfl)) (by first | rfl | (show (!(someL _ _ _).isEmpty) = _; first | (rw [s120]; rfl) | (rw [s5]; rfl))) (by first | exact hc1 | rfl) (by first | exact he1 | rfl)) (by first | rfl | decide | (rw [show thN (fun k => List.contains [7, 8] k) 12 = 384 by decide]; unfold wantR; dsimp only; simp only [Int.reduceEq, ↓reduceIte, someL_len]; rw [if_pos (by omega)]; rfl) | (rw [show thN (fun k => List.contains [8] k) 12 = 256 by decide]; unfold wantR; simp)) (by dsimp only; omega) (by first | exact .inl nil_empty | exact .inr hn) (by dsimp only; omega) (by dsimp only; omega) (by first | exact Nat.zero_le _ | (show (someL _ _ _).length ≤ _; rw [someL_len]; omega)) (by first | exact Nat.zero_le _ | (show (someL _ _ _).length ≤ _; rw [someL_len]; omega)) (by first | exact Nat.zero_le _ | (show (someL _ _ _).length ≤ _; rw [someL_len]; omega)) (by first | exact Nat.zero_le _ | (show (someL _ _ _).length ≤ _; rw [someL_len]; omega)) (by first | exact Nat.zero_le _ | (show (someL _ _ _).length ≤ _; rw [someL_len]; omega)) (by dsimp only; omega) (by dsimp only; omega)
  rw [if_neg k0]
  by_cases k1 : kind % 12 = 1
  · rw [if_pos k1]
    by_cases q : n % 2 = 0
    · rw [if_pos q]; exact key [1, 4, 5] _ (fl_cases rfl (by first | exact hp1 | rfl) (by first | rfl | (show (!(sBy (nmB s)).isEmpty) = _; rw [hne]; rfl)) (by first | rfl | (show (!decide (_ = 0)) = _; first | (rw [hA0]; rfl) | (rw [hC0]; rfl))) (by first | rfl | (show (!decide (_ = 0)) = _; first | (rw [hA0]; rfl) | (rw [hC0]; rfl))) (by first | rfl | (show (!(someL _ _ _).isEmpty) = _; rw [s16]; rfl)) (by first | rfl | (show (!(someL _ _ _).isEmpty) = _; rw [s48]; rfl)) (by first | rfl | (show (!(someL _ _ _).isEmpty) = _; first | (rw [s16]; rfl) | (rw [s7]; rfl))) (by first | rfl | (show (!(someL _ _ _).isEmpty) = _; rw [s80]; rfl)) (by first | rfl | (show (!(someL _ _ _).isEmpty) = _; first | (rw [s120]; rfl) | (rw [s5]; rfl))) (by first | exact hc1 | rfl) (by first | exact he1 | rfl)) (by first | rfl | decide | (rw [show thN (fun k => List.contains [7, 8] k) 12 = 384 by decide]; unfold wantR; dsimp only; simp only [Int.reduceEq, ↓reduceIte, someL_len]; rw [if_pos (by omega)]; rfl) | (rw [show thN (fun k => List.contains [8] k) 12 = 256 by decide]; unfold wantR; simp)) (by dsimp only; omega) (by first | exact .inl nil_empty | exact .inr hn) (by dsimp only; omega) (by dsimp only; omega) (by first | exact Nat.zero_le _ | (show (someL _ _ _).length ≤ _; rw [someL_len]; omega)) (by first | exact Nat.zero_le _ | (show (someL _ _ _).length ≤ _; rw [someL_len]; omega)) (by first | exact Nat.zero_le _ | (show (someL _ _ _).length ≤ _; rw [someL_len]; omega)) (by first | exact Nat.zero_le _ | (show (someL _ _ _).length ≤ _; rw [someL_len]; omega)) (by first | exact Nat.zero_le _ | (show (someL _ _ _).length ≤ _; rw [someL_len]; omega)) (by dsimp only; omega) (by dsimp only; omega)
    · rw [if_neg q]; exact key [1, 3, 4, 6] _ (fl_cases rfl (by first | exact hp1 | rfl) (by first | rfl | (show (!(sBy (nmB s)).isEmpty) = _; rw [hne]; rfl)) (by first | rfl | (show (!decide (_ = 0)) = _; first | (rw [hA0]; rfl) | (rw [hC0]; rfl))) (by first | rfl | (show (!decide (_ = 0)) = _; first | (rw [hA0]; rfl) | (rw [hC0]; rfl))) (by first | rfl | (show (!(someL _ _ _).isEmpty) = _; rw [s16]; rfl)) (by first | rfl | (show (!(someL _ _ _).isEmpty) = _; rw [s48]; rfl)) (by first | rfl | (show (!(someL _ _ _).isEmpty) = _; first | (rw [s16]; rfl) | (rw [s7]; rfl))) (by first | rfl | (show (!(someL _ _ _).isEmpty) = _; rw [s80]; rfl)) (by first | rfl | (show (!(someL _ _ _).isEmpty) = _; first | (rw [s120]; rfl) | (rw [s5]; rfl))) (by first | exact hc1 | rfl) (by first | exact he1 | rfl)) (by first | rfl | decide | (rw [show thN (fun k => List.contains [7, 8] k) 12 = 384 by decide]; unfold wantR; dsimp only; simp only [Int.reduceEq, ↓reduceIte, someL_len]; rw [if_pos (by omega)]; rfl) | (rw [show thN (fun k => List.contains [8] k) 12 = 256 by decide]; unfold wantR; simp)) (by dsimp only; omega) (by first | exact .inl nil_empty | exact .inr hn) (by dsimp only; omega) (by dsimp only; omega) (by first | exact Nat.zero_le _ | (show (someL _ _ _).length ≤ _; rw [someL_len]; omega)) (by first | exact Nat.zero_le _ | (show (someL _ _ _).length ≤ _; rw [someL_len]; omega)) (by first | exact Nat.zero_le _ | (show (someL _ _ _).length ≤ _; rw [someL_len]; omega)) (by first | exact Nat.zero_le _ | (show (someL _ _ _).length ≤ _; rw [someL_len]; omega)) (by first | exact Nat.zero_le _ | (show (someL _ _ _).length ≤ _; rw [someL_len]; omega)) (by dsimp only; omega) (by dsimp only; omega)
  rw [if_neg k1]
  by_cases k2 : kind % 12 = 2
  · rw [if_pos k2]
    exact key [7] _ (fl_cases rfl (by first | exact hp1 | rfl) (by first | rfl | (show (!(sBy (nmB s)).isEmpty) = _; rw [hne]; rfl)) (by first | rfl | (show (!decide (_ = 0)) = _; first | (rw [hA0]; rfl) | (rw [hC0]; rfl))) (by first | rfl | (show (!decide (_ = 0)) = _; first | (rw [hA0]; rfl) | (rw [hC0]; rfl))) (by first | rfl | (show (!(someL _ _ _).isEmpty) = _; rw [s16]; rfl)) (by first | rfl | (show (!(someL _ _ _).isEmpty) = _; rw [s48]; rfl)) (by first | rfl | (show (!(someL _ _ _).isEmpty) = _; first | (rw [s16]; rfl) | (rw [s7]; rfl))) (by first | rfl | (show (!(someL _ _ _).isEmpty) = _; rw [s80]; rfl)) (by first | rfl | (show (!(someL _ _ _).isEmpty) = _; first | (rw [s120]; rfl) | (rw [s5]; rfl))) (by first | exact hc1 | rfl) (by first | exact he1 | rfl)) (by first | rfl | decide | (rw [show thN (fun k => List.contains [7, 8] k) 12 = 384 by decide]; unfold wantR; dsimp only; simp only [Int.reduceEq, ↓reduceIte, someL_len]; rw [if_pos (by omega)]; rfl) | (rw [show thN (fun k => List.contains [8] k) 12 = 256 by decide]; unfold wantR; simp)) (by dsimp only; omega) (by first | exact .inl nil_empty | exact .inr hn) (by dsimp only; omega) (by dsimp only; omega) (by first | exact Nat.zero_le _ | (show (someL _ _ _).length ≤ _; rw [someL_len]; omega)) (by first | exact Nat.zero_le _ | (show (someL _ _ _).length ≤ _; rw [someL_len]; omega)) (by first | exact Nat.zero_le _ | (show (someL _ _ _).length ≤ _; rw [someL_len]; omega)) (by first | exact Nat.zero_le _ | (show (someL _ _ _).length ≤ _; rw [someL_len]; omega)) (by first | exact Nat.zero_le _ | (show (someL _ _ _).length ≤ _; rw [someL_len]; omega)) (by dsimp only; omega) (by dsimp only; omega)
  rw [if_neg k2]
  by_cases k3 : kind % 12 = 3
  · rw [if_pos k3]
    by_cases q : n.tdiv 2 % 2 = 0
    · rw [if_pos q]; exact key [7, 8] _ (fl_cases rfl (by first | exact hp1 | rfl) (by first | rfl | (show (!(sBy (nmB s)).isEmpty) = _; rw [hne]; rfl)) (by first | rfl | (show (!decide (_ = 0)) = _; first | (rw [hA0]; rfl) | (rw [hC0]; rfl))) (by first | rfl | (show (!decide (_ = 0)) = _; first | (rw [hA0]; rfl) | (rw [hC0]; rfl))) (by first | rfl | (show (!(someL _ _ _).isEmpty) = _; rw [s16]; rfl)) (by first | rfl | (show (!(someL _ _ _).isEmpty) = _; rw [s48]; rfl)) (by first | rfl | (show (!(someL _ _ _).isEmpty) = _; first | (rw [s16]; rfl) | (rw [s7]; rfl))) (by first | rfl | (show (!(someL _ _ _).isEmpty) = _; rw [s80]; rfl)) (by first | rfl | (show (!(someL _ _ _).isEmpty) = _; first | (rw [s120]; rfl) | (rw [s5]; rfl))) (by first | exact hc1 | rfl) (by first | exact he1 | rfl)) (by first | rfl | decide | (rw [show thN (fun k => List.contains [7, 8] k) 12 = 384 by decide]; unfold wantR; dsimp only; simp only [Int.reduceEq, ↓reduceIte, someL_len]; rw [if_pos (by omega)]; rfl) | (rw [show thN (fun k => List.contains [8] k) 12 = 256 by decide]; unfold wantR; simp)) (by dsimp only; omega) (by first | exact .inl nil_empty | exact .inr hn) (by dsimp only; omega) (by dsimp only; omega) (by first | exact Nat.zero_le _ | (show (someL _ _ _).length ≤ _; rw [someL_len]; omega)) (by first | exact Nat.zero_le _ | (show (someL _ _ _).length ≤ _; rw [someL_len]; omega)) (by first | exact Nat.zero_le _ | (show (someL _ _ _).length ≤ _; rw [someL_len]; omega)) (by first | exact Nat.zero_le _ | (show (someL _ _ _).length ≤ _; rw [someL_len]; omega)) (by first | exact Nat.zero_le _ | (show (someL _ _ _).length ≤ _; rw [someL_len]; omega)) (by dsimp only; omega) (by dsimp only; omega)
    · rw [if_neg q]; exact key [8] _ (fl_cases rfl (by first | exact hp1 | rfl) (by first | rfl | (show (!(sBy (nmB s)).isEmpty) = _; rw [hne]; rfl)) (by first | rfl | (show (!decide (_ = 0)) = _; first | (rw [hA0]; rfl) | (rw [hC0]; rfl))) (by first | rfl | (show (!decide (_ = 0)) = _; first | (rw [hA0]; rfl) | (rw [hC0]; rfl))) (by first | rfl | (show (!(someL _ _ _).isEmpty) = _; rw [s16]; rfl)) (by first | rfl | (show (!(someL _ _ _).isEmpty) = _; rw [s48]; rfl)) (by first | rfl | (show (!(someL _ _ _).isEmpty) = _; first | (rw [s16]; rfl) | (rw [s7]; rfl))) (by first | rfl | (show (!(someL _ _ _).isEmpty) = _; rw [s80]; rfl)) (by first | rfl | (show (!(someL _ _ _).isEmpty) = _; first | (rw [s120]; rfl) | (rw [s5]; rfl))) (by first | exact hc1 | rfl) (by first | exact he1 | rfl)) (by first | rfl | decide | (rw [show thN (fun k => List.contains [7, 8] k) 12 = 384 by decide]; unfold wantR; dsimp only; simp only [Int.reduceEq, ↓reduceIte, someL_len]; rw [if_pos (by omega)]; rfl) | (rw [show thN (fun k => List.contains [8] k) 12 = 256 by decide]; unfold wantR; simp)) (by dsimp only; omega) (by first | exact .inl nil_empty | exact .inr hn) (by dsimp only; omega) (by dsimp only; omega) (by first | exact Nat.zero_le _ | (show (someL _ _ _).length ≤ _; rw [someL_len]; omega)) (by first | exact Nat.zero_le _ | (show (someL _ _ _).length ≤ _; rw [someL_len]; omega)) (by first | exact Nat.zero_le _ | (show (someL _ _ _).length ≤ _; rw [someL_len]; omega)) (by first | exact Nat.zero_le _ | (show (someL _ _ _).length ≤ _; rw [someL_len]; omega)) (by first | exact Nat.zero_le _ | (show (someL _ _ _).length ≤ _; rw [someL_len]; omega)) (by dsimp only; omega) (by dsimp only; omega)
  rw [if_neg k3]
  by_cases k4 : kind % 12 = 4
  · rw [if_pos k4]
    exact key [11] _ (fl_cases rfl (by first | exact hp1 | rfl) (by first | rfl | (show (!(sBy (nmB s)).isEmpty) = _; rw [hne]; rfl)) (by first | rfl | (show (!decide (_ = 0)) = _; first | (rw [hA0]; rfl) | (rw [hC0]; rfl))) (by first | rfl | (show (!decide (_ = 0)) = _; first | (rw [hA0]; rfl) | (rw [hC0]; rfl))) (by first | rfl | (show (!(someL _ _ _).isEmpty) = _; rw [s16]; rfl)) (by first | rfl | (show (!(someL _ _ _).isEmpty) = _; rw [s48]; rfl)) (by first | rfl | (show (!(someL _ _ _).isEmpty) = _; first | (rw [s16]; rfl) | (rw [s7]; rfl))) (by first | rfl | (show (!(someL _ _ _).isEmpty) = _; rw [s80]; rfl)) (by first | rfl | (show (!(someL _ _ _).isEmpty) = _; first | (rw [s120]; rfl) | (rw [s5]; rfl))) (by first | exact hc1 | rfl) (by first | exact he1 | rfl)) (by first | rfl | decide | (rw [show thN (fun k => List.contains [7, 8] k) 12 = 384 by decide]; unfold wantR; dsimp only; simp only [Int.reduceEq, ↓reduceIte, someL_len]; rw [if_pos (by omega)]; rfl) | (rw [show thN (fun k => List.contains [8] k) 12 = 256 by decide]; unfold wantR; simp)) (by dsimp only; omega) (by first | exact .inl nil_empty | exact .inr hn) (by dsimp only; omega) (by dsimp only; omega) (by first | exact Nat.zero_le _ | (show (someL _ _ _).length ≤ _; rw [someL_len]; omega)) (by first | exact Nat.zero_le _ | (show (someL _ _ _).length ≤ _; rw [someL_len]; omega)) (by first | exact Nat.zero_le _ | (show (someL _ _ _).length ≤ _; rw [someL_len]; omega)) (by first | exact Nat.zero_le _ | (show (someL _ _ _).length ≤ _; rw [someL_len]; omega)) (by first | exact Nat.zero_le _ | (show (someL _ _ _).length ≤ _; rw [someL_len]; omega)) (by dsimp only; omega) (by dsimp only; omega)
  rw [if_neg k4]
  by_cases k5 : kind % 12 = 5
  · rw [if_pos k5]
    exact key [1, 2, 9] _ (fl_cases rfl (by first | exact hp1 | rfl) (by first | rfl | (show (!(sBy (nmB s)).isEmpty) = _; rw [hne]; rfl)) (by first | rfl | (show (!decide (_ = 0)) = _; first | (rw [hA0]; rfl) | (rw [hC0]; rfl))) (by first | rfl | (show (!decide (_ = 0)) = _; first | (rw [hA0]; rfl) | (rw [hC0]; rfl))) (by first | rfl | (show (!(someL _ _ _).isEmpty) = _; rw [s16]; rfl)) (by first | rfl | (show (!(someL _ _ _).isEmpty) = _; rw [s48]; rfl)) (by first | rfl | (show (!(someL _ _ _).isEmpty) = _; first | (rw [s16]; rfl) | (rw [s7]; rfl))) (by first | rfl | (show (!(someL _ _ _).isEmpty) = _; rw [s80]; rfl)) (by first | rfl | (show (!(someL _ _ _).isEmpty) = _; first | (rw [s120]; rfl) | (rw [s5]; rfl))) (by first | exact hc1 | rfl) (by first | exact he1 | rfl)) (by first | rfl | decide | (rw [show thN (fun k => List.contains [7, 8] k) 12 = 384 by decide]; unfold wantR; dsimp only; simp only [Int.reduceEq, ↓reduceIte, someL_len]; rw [if_pos (by omega)]; rfl) | (rw [show thN (fun k => List.contains [8] k) 12 = 256 by decide]; unfold wantR; simp)) (by dsimp only; omega) (by first | exact .inl nil_empty | exact .inr hn) (by dsimp only; omega) (by dsimp only; omega) (by first | exact Nat.zero_le _ | (show (someL _ _ _).length ≤ _; rw [someL_len]; omega)) (by first | exact Nat.zero_le _ | (show (someL _ _ _).length ≤ _; rw [someL_len]; omega)) (by first | exact Nat.zero_le _ | (show (someL _ _ _).length ≤ _; rw [someL_len]; omega)) (by first | exact Nat.zero_le _ | (show (someL _ _ _).length ≤ _; rw [someL_len]; omega)) (by first | exact Nat.zero_le _ | (show (someL _ _ _).length ≤ _; rw [someL_len]; omega)) (by dsimp only; omega) (by dsimp only; omega)
  rw [if_neg k5]
  by_cases k6 : kind % 12 = 6
  · rw [if_pos k6]
    exact key [] _ (fl_cases rfl (by first | exact hp1 | rfl) (by first | rfl | (show (!(sBy (nmB s)).isEmpty) = _; rw [hne]; rfl)) (by first | rfl | (show (!decide (_ = 0)) = _; first | (rw [hA0]; rfl) | (rw [hC0]; rfl))) (by first | rfl | (show (!decide (_ = 0)) = _; first | (rw [hA0]; rfl) | (rw [hC0]; rfl))) (by first | rfl | (show (!(someL _ _ _).isEmpty) = _; rw [s16]; rfl)) (by first | rfl | (show (!(someL _ _ _).isEmpty) = _; rw [s48]; rfl)) (by first | rfl | (show (!(someL _ _ _).isEmpty) = _; first | (rw [s16]; rfl) | (rw [s7]; rfl))) (by first | rfl | (show (!(someL _ _ _).isEmpty) = _; rw [s80]; rfl)) (by first | rfl | (show (!(someL _ _ _).isEmpty) = _; first | (rw [s120]; rfl) | (rw [s5]; rfl))) (by first | exact hc1 | rfl) (by first | exact he1 | rfl)) (by first | rfl | decide | (rw [show thN (fun k => List.contains [7, 8] k) 12 = 384 by decide]; unfold wantR; dsimp only; simp only [Int.reduceEq, ↓reduceIte, someL_len]; rw [if_pos (by omega)]; rfl) | (rw [show thN (fun k => List.contains [8] k) 12 = 256 by decide]; unfold wantR; simp)) (by dsimp only; omega) (by first | exact .inl nil_empty | exact .inr hn) (by dsimp only; omega) (by dsimp only; omega) (by first | exact Nat.zero_le _ | (show (someL _ _ _).length ≤ _; rw [someL_len]; omega)) (by first | exact Nat.zero_le _ | (show (someL _ _ _).length ≤ _; rw [someL_len]; omega)) (by first | exact Nat.zero_le _ | (show (someL _ _ _).length ≤ _; rw [someL_len]; omega)) (by first | exact Nat.zero_le _ | (show (someL _ _ _).length ≤ _; rw [someL_len]; omega)) (by first | exact Nat.zero_le _ | (show (someL _ _ _).length ≤ _; rw [someL_len]; omega)) (by dsimp only; omega) (by dsimp only; omega)
  rw [if_neg k6]
  by_cases k7 : kind % 12 = 7
  · rw [if_pos k7]
    exact key [8, 10] _ (fl_cases rfl (by first | exact hp1 | rfl) (by first | rfl | (show (!(sBy (nmB s)).isEmpty) = _; rw [hne]; rfl)) (by first | rfl | (show (!decide (_ = 0)) = _; first | (rw [hA0]; rfl) | (rw [hC0]; rfl))) (by first | rfl | (show (!decide (_ = 0)) = _; first | (rw [hA0]; rfl) | (rw [hC0]; rfl))) (by first | rfl | (show (!(someL _ _ _).isEmpty) = _; rw [s16]; rfl)) (by first | rfl | (show (!(someL _ _ _).isEmpty) = _; rw [s48]; rfl)) (by first | rfl | (show (!(someL _ _ _).isEmpty) = _; first | (rw [s16]; rfl) | (rw [s7]; rfl))) (by first | rfl | (show (!(someL _ _ _).isEmpty) = _; rw [s80]; rfl)) (by first | rfl | (show (!(someL _ _ _).isEmpty) = _; first | (rw [s120]; rfl) | (rw [s5]; rfl))) (by first | exact hc1 | rfl) (by first | exact he1 | rfl)) (by first | rfl | decide | (rw [show thN (fun k => List.contains [7, 8] k) 12 = 384 by decide]; unfold wantR; dsimp only; simp only [Int.reduceEq, ↓reduceIte, someL_len]; rw [if_pos (by omega)]; rfl) | (rw [show thN (fun k => List.contains [8] k) 12 = 256 by decide]; unfold wantR; simp)) (by dsimp only; omega) (by first | exact .inl nil_empty | exact .inr hn) (by dsimp only; omega) (by dsimp only; omega) (by first | exact Nat.zero_le _ | (show (someL _ _ _).length ≤ _; rw [someL_len]; omega)) (by first | exact Nat.zero_le _ | (show (someL _ _ _).length ≤ _; rw [someL_len]; omega)) (by first | exact Nat.zero_le _ | (show (someL _ _ _).length ≤ _; rw [someL_len]; omega)) (by first | exact Nat.zero_le _ | (show (someL _ _ _).length ≤ _; rw [someL_len]; omega)) (by first | exact Nat.zero_le _ | (show (someL _ _ _).length ≤ _; rw [someL_len]; omega)) (by dsimp only; omega) (by dsimp only; omega)
  rw [if_neg k7]
  by_cases k8 : kind % 12 = 8
  · rw [if_pos k8]
    exact key [8] _ (fl_cases rfl (by first | exact hp1 | rfl) (by first | rfl | (show (!(sBy (nmB s)).isEmpty) = _; rw [hne]; rfl)) (by first | rfl | (show (!decide (_ = 0)) = _; first | (rw [hA0]; rfl) | (rw [hC0]; rfl))) (by first | rfl | (show (!decide (_ = 0)) = _; first | (rw [hA0]; rfl) | (rw [hC0]; rfl))) (by first | rfl | (show (!(someL _ _ _).isEmpty) = _; rw [s16]; rfl)) (by first | rfl | (show (!(someL _ _ _).isEmpty) = _; rw [s48]; rfl)) (by first | rfl | (show (!(someL _ _ _).isEmpty) = _; first | (rw [s16]; rfl) | (rw [s7]; rfl))) (by first | rfl | (show (!(someL _ _ _).isEmpty) = _; rw [s80]; rfl)) (by first | rfl | (show (!(someL _ _ _).isEmpty) = _; first | (rw [s120]; rfl) | (rw [s5]; rfl))) (by first | exact hc1 | rfl) (by first | exact he1 | rfl)) (by first | rfl | decide | (rw [show thN (fun k => List.contains [7, 8] k) 12 = 384 by decide]; unfold wantR; dsimp only; simp only [Int.reduceEq, ↓reduceIte, someL_len]; rw [if_pos (by omega)]; rfl) | (rw [show thN (fun k => List.contains [8] k) 12 = 256 by decide]; unfold wantR; simp)) (by dsimp only; omega) (by first | exact .inl nil_empty | exact .inr hn) (by dsimp only; omega) (by dsimp only; omega) (by first | exact Nat.zero_le _ | (show (someL _ _ _).length ≤ _; rw [someL_len]; omega)) (by first | exact Nat.zero_le _ | (show (someL _ _ _).length ≤ _; rw [someL_len]; omega)) (by first | exact Nat.zero_le _ | (show (someL _ _ _).length ≤ _; rw [someL_len]; omega)) (by first | exact Nat.zero_le _ | (show (someL _ _ _).length ≤ _; rw [someL_len]; omega)) (by first | exact Nat.zero_le _ | (show (someL _ _ _).length ≤ _; rw [someL_len]; omega)) (by dsimp only; omega) (by dsimp only; omega)
  rw [if_neg k8]
  by_cases k9 : kind % 12 = 9
  · rw [if_pos k9]
    exact key [8] _ (fl_cases rfl (by first | exact hp1 | rfl) (by first | rfl | (show (!(sBy (nmB s)).isEmpty) = _; rw [hne]; rfl)) (by first | rfl | (show (!decide (_ = 0)) = _; first | (rw [hA0]; rfl) | (rw [hC0]; rfl))) (by first | rfl | (show (!decide (_ = 0)) = _; first | (rw [hA0]; rfl) | (rw [hC0]; rfl))) (by first | rfl | (show (!(someL _ _ _).isEmpty) = _; rw [s16]; rfl)) (by first | rfl | (show (!(someL _ _ _).isEmpty) = _; rw [s48]; rfl)) (by first | rfl | (show (!(someL _ _ _).isEmpty) = _; first | (rw [s16]; rfl) | (rw [s7]; rfl))) (by first | rfl | (show (!(someL _ _ _).isEmpty) = _; rw [s80]; rfl)) (by first | rfl | (show (!(someL _ _ _).isEmpty) = _; first | (rw [s120]; rfl) | (rw [s5]; rfl))) (by first | exact hc1 | rfl) (by first | exact he1 | rfl)) (by first | rfl | decide | (rw [show thN (fun k => List.contains [7, 8] k) 12 = 384 by decide]; unfold wantR; dsimp only; simp only [Int.reduceEq, ↓reduceIte, someL_len]; rw [if_pos (by omega)]; rfl) | (rw [show thN (fun k => List.contains [8] k) 12 = 256 by decide]; unfold wantR; simp)) (by dsimp only; omega) (by first | exact .inl nil_empty | exact .inr hn) (by dsimp only; omega) (by dsimp only; omega) (by first | exact Nat.zero_le _ | (show (someL _ _ _).length ≤ _; rw [someL_len]; omega)) (by first | exact Nat.zero_le _ | (show (someL _ _ _).length ≤ _; rw [someL_len]; omega)) (by first | exact Nat.zero_le _ | (show (someL _ _ _).length ≤ _; rw [someL_len]; omega)) (by first | exact Nat.zero_le _ | (show (someL _ _ _).length ≤ _; rw [someL_len]; omega)) (by first | exact Nat.zero_le _ | (show (someL _ _ _).length ≤ _; rw [someL_len]; omega)) (by dsimp only; omega) (by dsimp only; omega)
  rw [if_neg k9]
  by_cases k10 : kind % 12 = 10
  · rw [if_pos k10]
    exact key [1, 8, 9] _ (fl_cases rfl (by first | exact hp1 | rfl) (by first | rfl | (show (!(sBy (nmB s)).isEmpty) = _; rw [hne]; rfl)) (by first | rfl | (show (!decide (_ = 0)) = _; first | (rw [hA0]; rfl) | (rw [hC0]; rfl))) (by first | rfl | (show (!decide (_ = 0)) = _; first | (rw [hA0]; rfl) | (rw [hC0]; rfl))) (by first | rfl | (show (!(someL _ _ _).isEmpty) = _; rw [s16]; rfl)) (by first | rfl | (show (!(someL _ _ _).isEmpty) = _; rw [s48]; rfl)) (by first | rfl | (show (!(someL _ _ _).isEmpty) = _; first | (rw [s16]; rfl) | (rw [s7]; rfl))) (by first | rfl | (show (!(someL _ _ _).isEmpty) = _; rw [s80]; rfl)) (by first | rfl | (show (!(someL _ _ _).isEmpty) = _; first | (rw [s120]; rfl) | (rw [s5]; rfl))) (by first | exact hc1 | rfl) (by first | exact he1 | rfl)) (by first | rfl | decide | (rw [show thN (fun k => List.contains [7, 8] k) 12 = 384 by decide]; unfold wantR; dsimp only; simp only [Int.reduceEq, ↓reduceIte, someL_len]; rw [if_pos (by omega)]; rfl) | (rw [show thN (fun k => List.contains [8] k) 12 = 256 by decide]; unfold wantR; simp)) (by dsimp only; omega) (by first | exact .inl nil_empty | exact .inr hn) (by dsimp only; omega) (by dsimp only; omega) (by first | exact Nat.zero_le _ | (show (someL _ _ _).length ≤ _; rw [someL_len]; omega)) (by first | exact Nat.zero_le _ | (show (someL _ _ _).length ≤ _; rw [someL_len]; omega)) (by first | exact Nat.zero_le _ | (show (someL _ _ _).length ≤ _; rw [someL_len]; omega)) (by first | exact Nat.zero_le _ | (show (someL _ _ _).length ≤ _; rw [someL_len]; omega)) (by first | exact Nat.zero_le _ | (show (someL _ _ _).length ≤ _; rw [someL_len]; omega)) (by dsimp only; omega) (by dsimp only; omega)
  rw [if_neg k10]
  exact key [8, 10] _ (fl_cases rfl (by first | exact hp1 | rfl) (by first | rfl | (show (!(sBy (nmB s)).isEmpty) = _; rw [hne]; rfl)) (by first | rfl | (show (!decide (_ = 0)) = _; first | (rw [hA0]; rfl) | (rw [hC0]; rfl))) (by first | rfl | (show (!decide (_ = 0)) = _; first | (rw [hA0]; rfl) | (rw [hC0]; rfl))) (by first | rfl | (show (!(someL _ _ _).isEmpty) = _; rw [s16]; rfl)) (by first | rfl | (show (!(someL _ _ _).isEmpty) = _; rw [s48]; rfl)) (by first | rfl | (show (!(someL _ _ _).isEmpty) = _; first | (rw [s16]; rfl) | (rw [s7]; rfl))) (by first | rfl | (show (!(someL _ _ _).isEmpty) = _; rw [s80]; rfl)) (by first | rfl | (show (!(someL _ _ _).isEmpty) = _; first | (rw [s120]; rfl) | (rw [s5]; rfl))) (by first | exact hc1 | rfl) (by first | exact he1 | rfl)) (by first | rfl | decide | (rw [show thN (fun k => List.contains [7, 8] k) 12 = 384 by decide]; unfold wantR; dsimp only; simp only [Int.reduceEq, ↓reduceIte, someL_len]; rw [if_pos (by omega)]; rfl) | (rw [show thN (fun k => List.contains [8] k) 12 = 256 by decide]; unfold wantR; simp)) (by dsimp only; omega) (by first | exact .inl nil_empty | exact .inr hn) (by dsimp only; omega) (by dsimp only; omega) (by first | exact Nat.zero_le _ | (show (someL _ _ _).length ≤ _; rw [someL_len]; omega)) (by first | exact Nat.zero_le _ | (show (someL _ _ _).length ≤ _; rw [someL_len]; omega)) (by first | exact Nat.zero_le _ | (show (someL _ _ _).length ≤ _; rw [someL_len]; omega)) (by first | exact Nat.zero_le _ | (show (someL _ _ _).length ≤ _; rw [someL_len]; omega)) (by first | exact Nat.zero_le _ | (show (someL _ _ _).length ≤ _; rw [someL_len]; omega)) (by dsimp only; omega) (by dsimp only; omega)
theorem mkM_ok (kind n : Int) (s : ByteArray) (b : List UInt8) : MsgOk (mkM kind n s b) ∧ (mkM kind n s b).s.size ≤ 1000 := by
  have h2 := Int.emod_two_eq n
  have hA := kn n (show (0 : Int) < 4294967295 by decide)
  have hC := kn (n.tdiv 3) (show (0 : Int) < 70000 by decide)
  have h11 := Int.emod_nonneg n (show (11 : Int) ≠ 0 by decide)
  have h11' := Int.emod_lt_of_pos n (show (0 : Int) < 11 by decide)
  have h40 := Int.emod_nonneg n (show (1099511627776 : Int) ≠ 0 by decide)
  have h40' := Int.emod_lt_of_pos n (show (0 : Int) < 1099511627776 by decide)
  have hs := nmB_size s
  have e1 : ("".toUTF8).size ≤ 1000000 := by decide
  have e2 : ("".toUTF8).size ≤ 1000 := by decide
  unfold mkM
  by_cases k0 : kind % 12 = 0
  · rw [if_pos k0]
    by_cases q : n % 2 = 0
    · rw [if_pos q]; exact ⟨⟨(by dsimp only; omega), (by dsimp only; omega), (by dsimp only; omega), (by dsimp only; omega), (by dsimp only; first | exact e1 | omega), Nat.lt_trans (m := 4294967296) (by dsimp only; omega) (by decide), Nat.lt_trans (m := 4294967296) (by dsimp only; omega) (by decide)⟩, (by dsimp only; first | exact e2 | omega)⟩
    · rw [if_neg q]; exact ⟨⟨(by dsimp only; omega), (by dsimp only; omega), (by dsimp only; omega), (by dsimp only; omega), (by dsimp only; first | exact e1 | omega), Nat.lt_trans (m := 4294967296) (by dsimp only; omega) (by decide), Nat.lt_trans (m := 4294967296) (by dsimp only; omega) (by decide)⟩, (by dsimp only; first | exact e2 | omega)⟩
  rw [if_neg k0]
  by_cases k1 : kind % 12 = 1
  · rw [if_pos k1]
    by_cases q : n % 2 = 0
    · rw [if_pos q]; exact ⟨⟨(by dsimp only; omega), (by dsimp only; omega), (by dsimp only; omega), (by dsimp only; omega), (by dsimp only; first | exact e1 | omega), Nat.lt_trans (m := 4294967296) (by dsimp only; omega) (by decide), Nat.lt_trans (m := 4294967296) (by dsimp only; omega) (by decide)⟩, (by dsimp only; first | exact e2 | omega)⟩
    · rw [if_neg q]; exact ⟨⟨(by dsimp only; omega), (by dsimp only; omega), (by dsimp only; omega), (by dsimp only; omega), (by dsimp only; first | exact e1 | omega), Nat.lt_trans (m := 4294967296) (by dsimp only; omega) (by decide), Nat.lt_trans (m := 4294967296) (by dsimp only; omega) (by decide)⟩, (by dsimp only; first | exact e2 | omega)⟩
  rw [if_neg k1]
  by_cases k2 : kind % 12 = 2
  · rw [if_pos k2]
    exact ⟨⟨(by dsimp only; omega), (by dsimp only; omega), (by dsimp only; omega), (by dsimp only; omega), (by dsimp only; first | exact e1 | omega), Nat.lt_trans (m := 4294967296) (by dsimp only; omega) (by decide), Nat.lt_trans (m := 4294967296) (by dsimp only; omega) (by decide)⟩, (by dsimp only; first | exact e2 | omega)⟩
  rw [if_neg k2]
  by_cases k3 : kind % 12 = 3
  · rw [if_pos k3]
    by_cases q : n.tdiv 2 % 2 = 0
    · rw [if_pos q]; exact ⟨⟨(by dsimp only; omega), (by dsimp only; omega), (by dsimp only; omega), (by dsimp only; omega), (by dsimp only; first | exact e1 | omega), Nat.lt_trans (m := 4294967296) (by dsimp only; omega) (by decide), Nat.lt_trans (m := 4294967296) (by dsimp only; omega) (by decide)⟩, (by dsimp only; first | exact e2 | omega)⟩
    · rw [if_neg q]; exact ⟨⟨(by dsimp only; omega), (by dsimp only; omega), (by dsimp only; omega), (by dsimp only; omega), (by dsimp only; first | exact e1 | omega), Nat.lt_trans (m := 4294967296) (by dsimp only; omega) (by decide), Nat.lt_trans (m := 4294967296) (by dsimp only; omega) (by decide)⟩, (by dsimp only; first | exact e2 | omega)⟩
  rw [if_neg k3]
  by_cases k4 : kind % 12 = 4
  · rw [if_pos k4]
    exact ⟨⟨(by dsimp only; omega), (by dsimp only; omega), (by dsimp only; omega), (by dsimp only; omega), (by dsimp only; first | exact e1 | omega), Nat.lt_trans (m := 4294967296) (by dsimp only; omega) (by decide), Nat.lt_trans (m := 4294967296) (by dsimp only; omega) (by decide)⟩, (by dsimp only; first | exact e2 | omega)⟩
  rw [if_neg k4]
  by_cases k5 : kind % 12 = 5
  · rw [if_pos k5]
    exact ⟨⟨(by dsimp only; omega), (by dsimp only; omega), (by dsimp only; omega), (by dsimp only; omega), (by dsimp only; first | exact e1 | omega), Nat.lt_trans (m := 4294967296) (by dsimp only; omega) (by decide), Nat.lt_trans (m := 4294967296) (by dsimp only; omega) (by decide)⟩, (by dsimp only; first | exact e2 | omega)⟩
  rw [if_neg k5]
  by_cases k6 : kind % 12 = 6
  · rw [if_pos k6]
    exact ⟨⟨(by dsimp only; omega), (by dsimp only; omega), (by dsimp only; omega), (by dsimp only; omega), (by dsimp only; first | exact e1 | omega), Nat.lt_trans (m := 4294967296) (by dsimp only; omega) (by decide), Nat.lt_trans (m := 4294967296) (by dsimp only; omega) (by decide)⟩, (by dsimp only; first | exact e2 | omega)⟩
  rw [if_neg k6]
  by_cases k7 : kind % 12 = 7
  · rw [if_pos k7]
    exact ⟨⟨(by dsimp only; omega), (by dsimp only; omega), (by dsimp only; omega), (by dsimp only; omega), (by dsimp only; first | exact e1 | omega), Nat.lt_trans (m := 4294967296) (by dsimp only; omega) (by decide), Nat.lt_trans (m := 4294967296) (by dsimp only; omega) (by decide)⟩, (by dsimp only; first | exact e2 | omega)⟩
  rw [if_neg k7]
  by_cases k8 : kind % 12 = 8
  · rw [if_pos k8]
    exact ⟨⟨(by dsimp only; omega), (by dsimp only; omega), (by dsimp only; omega), (by dsimp only; omega), (by dsimp only; first | exact e1 | omega), Nat.lt_trans (m := 4294967296) (by dsimp only; omega) (by decide), Nat.lt_trans (m := 4294967296) (by dsimp only; omega) (by decide)⟩, (by dsimp only; first | exact e2 | omega)⟩
  rw [if_neg k8]
  by_cases k9 : kind % 12 = 9
  · rw [if_pos k9]
    exact ⟨⟨(by dsimp only; omega), (by dsimp only; omega), (by dsimp only; omega), (by dsimp only; omega), (by dsimp only; first | exact e1 | omega), Nat.lt_trans (m := 4294967296) (by dsimp only; omega) (by decide), Nat.lt_trans (m := 4294967296) (by dsimp only; omega) (by decide)⟩, (by dsimp only; first | exact e2 | omega)⟩
  rw [if_neg k9]
  by_cases k10 : kind % 12 = 10
  · rw [if_pos k10]
    exact ⟨⟨(by dsimp only; omega), (by dsimp only; omega), (by dsimp only; omega), (by dsimp only; omega), (by dsimp only; first | exact e1 | omega), Nat.lt_trans (m := 4294967296) (by dsimp only; omega) (by decide), Nat.lt_trans (m := 4294967296) (by dsimp only; omega) (by decide)⟩, (by dsimp only; first | exact e2 | omega)⟩
  rw [if_neg k10]
  exact ⟨⟨(by dsimp only; omega), (by dsimp only; omega), (by dsimp only; omega), (by dsimp only; omega), (by dsimp only; first | exact e1 | omega), Nat.lt_trans (m := 4294967296) (by dsimp only; omega) (by decide), Nat.lt_trans (m := 4294967296) (by dsimp only; omega) (by decide)⟩, (by dsimp only; first | exact e2 | omega)⟩
theorem mkM_kind (kind n : Int) (s : ByteArray) (b : List UInt8) : (mkM kind n s b).k = 1 + kind % 12 := by
  have h1 := Int.emod_nonneg kind (show (12 : Int) ≠ 0 by decide)
  have h2 := Int.emod_lt_of_pos kind (show (0 : Int) < 12 by decide)
  unfold mkM
  by_cases k0 : kind % 12 = 0
  · rw [if_pos k0]
    by_cases q : n % 2 = 0
    · rw [if_pos q]; dsimp only; omega
    · rw [if_neg q]; dsimp only; omega
  rw [if_neg k0]
  by_cases k1 : kind % 12 = 1
  · rw [if_pos k1]
    by_cases q : n % 2 = 0
    · rw [if_pos q]; dsimp only; omega
    · rw [if_neg q]; dsimp only; omega
  rw [if_neg k1]
  by_cases k2 : kind % 12 = 2
  · rw [if_pos k2]
    dsimp only; omega
  rw [if_neg k2]
  by_cases k3 : kind % 12 = 3
  · rw [if_pos k3]
    by_cases q : n.tdiv 2 % 2 = 0
    · rw [if_pos q]; dsimp only; omega
    · rw [if_neg q]; dsimp only; omega
  rw [if_neg k3]
  by_cases k4 : kind % 12 = 4
  · rw [if_pos k4]
    dsimp only; omega
  rw [if_neg k4]
  by_cases k5 : kind % 12 = 5
  · rw [if_pos k5]
    dsimp only; omega
  rw [if_neg k5]
  by_cases k6 : kind % 12 = 6
  · rw [if_pos k6]
    dsimp only; omega
  rw [if_neg k6]
  by_cases k7 : kind % 12 = 7
  · rw [if_pos k7]
    dsimp only; omega
  rw [if_neg k7]
  by_cases k8 : kind % 12 = 8
  · rw [if_pos k8]
    dsimp only; omega
  rw [if_neg k8]
  by_cases k9 : kind % 12 = 9
  · rw [if_pos k9]
    dsimp only; omega
  rw [if_neg k9]
  by_cases k10 : kind % 12 = 10
  · rw [if_pos k10]
    dsimp only; omega
  rw [if_neg k10]
  dsimp only; omega
theorem mkR_ok (n : Int) (s : ByteArray) (b : List UInt8) : RecOk (mkR n s b) := by
  have h2 := Int.emod_two_eq n
  have hs := nmB_size s
  have h6 := Int.emod_nonneg (n.tdiv 11) (show (6 : Int) ≠ 0 by decide)
  have h6' := Int.emod_lt_of_pos (n.tdiv 11) (show (0 : Int) < 6 by decide)
  have h7 := Int.emod_nonneg (n.tdiv 13) (show (1000 : Int) ≠ 0 by decide)
  have h7' := Int.emod_lt_of_pos (n.tdiv 13) (show (0 : Int) < 1000 by decide)
  have h8 := Int.emod_nonneg (n.tdiv 17) (show (1099511627776 : Int) ≠ 0 by decide)
  have h8' := Int.emod_lt_of_pos (n.tdiv 17) (show (0 : Int) < 1099511627776 by decide)
  have h9 := Int.emod_nonneg (n.tdiv 2) (show (4294967296 : Int) ≠ 0 by decide)
  have h9' := Int.emod_lt_of_pos (n.tdiv 2) (show (0 : Int) < 4294967296 by decide)
  have hA := Int.emod_nonneg (n.tdiv 7) (show (4294967296 : Int) ≠ 0 by decide)
  have hA' := Int.emod_lt_of_pos (n.tdiv 7) (show (0 : Int) < 4294967296 by decide)
  unfold mkR
  exact ⟨(by dsimp only; omega), (by dsimp only; omega), (by dsimp only; omega), (by dsimp only; omega), (by dsimp only; omega), Nat.lt_trans (m := 4294967296) (by dsimp only; omega) (by decide), Nat.lt_trans (m := 4294967296) (by dsimp only; omega) (by decide)⟩
theorem mkR_keep (n : Int) (s : ByteArray) (b : List UInt8) : keepB (mkR n s b) = true := by
  have h2 := Int.emod_two_eq n
  have h6 := Int.emod_nonneg (n.tdiv 11) (show (6 : Int) ≠ 0 by decide)
  have h6' := Int.emod_lt_of_pos (n.tdiv 11) (show (0 : Int) < 6 by decide)
  have h7 := Int.emod_nonneg (n.tdiv 13) (show (1000 : Int) ≠ 0 by decide)
  have h8 := Int.emod_nonneg (n.tdiv 17) (show (1099511627776 : Int) ≠ 0 by decide)
  have h9 := Int.emod_nonneg (n.tdiv 2) (show (4294967296 : Int) ≠ 0 by decide)
  have h9' := Int.emod_lt_of_pos (n.tdiv 2) (show (0 : Int) < 4294967296 by decide)
  have hA := Int.emod_nonneg (n.tdiv 7) (show (4294967296 : Int) ≠ 0 by decide)
  have hA' := Int.emod_lt_of_pos (n.tdiv 7) (show (0 : Int) < 4294967296 by decide)
  have t1 := top_small (a := ((n.tdiv 2) % 4294967296).toNat) (by omega)
  have t2 := top_small (a := ((n.tdiv 7) % 4294967296).toNat) (by omega)
  have q2 := Int.emod_nonneg n (show ((min b.length 16 + 1 : Nat) : Int) ≠ 0 by omega)
  have q2' := Int.emod_lt_of_pos n (show (0 : Int) < ((min b.length 16 + 1 : Nat) : Int) by omega)
  have q5 := Int.emod_nonneg (n.tdiv 3) (show ((min b.length 48 + 1 : Nat) : Int) ≠ 0 by omega)
  have q5' := Int.emod_lt_of_pos (n.tdiv 3) (show (0 : Int) < ((min b.length 48 + 1 : Nat) : Int) by omega)
  unfold keepB mkR
  simp only [Bool.and_eq_true, decide_eq_true_eq]
  refine ⟨⟨⟨⟨⟨⟨⟨⟨⟨?_, nmB_ok s⟩, ?_⟩, ?_⟩, t1⟩, t2⟩, by omega⟩, by omega⟩, by omega⟩, by omega⟩
  · exact decide_eq_true (by omega)
  · rw [List.length_take]; omega
  · rw [List.length_take]; omega
end Go.Proofs.Ytlbkogdmojlpmaa
