/- sentinellaw3.SpongeStretches: the walk. -/
import Derived.Test.YtajombnckgehbaaSReg
import Derived.Test.YtajombnckgehbaaSStretch
import Derived.Test.YtajombnckgehbaaSRStream
import Derived.Test.YtajombnckgehbaaGenQ
namespace Go.Proofs.Ytajombnckgehbaa
set_option linter.unusedVariables false
set_option linter.unusedSimpArgs false
open Go.ChangeShapes Go.WideShapes Go.ChangeAt Go.RowKit Go.Shelf
theorem within_eq {a n z : Int} (hz : a % n = z) (hn : 0 < n) (hn' : n < 9223372036854775808) (ha : -9223372036854775808 ≤ a) (ha' : a < 9223372036854775808) (w : World) :
    Calls Try.prog 20 #[.int .i64 a, .int .i64 n] w fun e w' => e = .returned (.int .i64 z) ∧ Below w.heap.size w w' :=
  (within_any a n hn hn' ha ha' w).mono fun e w' h => ⟨by rw [h.1, hz], by rw [← h.2]; exact Below.refl _ _⟩
theorem streamL_take (key : List UInt8) {n c : Nat} (h : c ≤ n) : (streamL key n).take c = streamL key c := by
  unfold streamL
  rw [List.take_take, Nat.min_eq_left h, stB_take key c ((n + 15) / 16) (by omega)]
theorem run_ne16' {a : Act} {w : World} {o : Oper} (x y : Operand) (ho : o.op = .binOp .neq 35 x y 35) (z : Nat → Int) (hx : a.eval x = .agg (arr16 z)) (hy : a.eval y = .agg (arr16 z)) : (execOp a.eval o).run Try.prog w = .ok (.value (.bool false)) w := by
  unfold execOp
  simp only [ho, hx, hy]
  simp [go_sem, eq16_same]
set_option maxRecDepth 100000 in
set_option maxHeartbeats 16000000 in
theorem SpongeStretches_walk (A0 : Option Addr) (n0 cap0 : Nat) (l0 : List UInt8) (hn0 : l0.length = n0) (hc0 : n0 ≤ cap0) (hm0 : cap0 ≤ maxLen) (hz0 : A0 = none → cap0 = 0)
    (A1 : Option Addr) (n1 cap1 : Nat) (l1 : List UInt8) (hn1 : l1.length = n1) (hc1 : n1 ≤ cap1) (hm1 : cap1 ≤ maxLen) (hz1 : A1 = none → cap1 = 0)
    (a2 : Int) (hk2 : -9223372036854775808 ≤ a2) (hl2 : a2 < 9223372036854775808)
    (a3 : Int) (hk3 : -9223372036854775808 ≤ a3) (hl3 : a3 < 9223372036854775808)
    (a4 : Int) (hk4 : -9223372036854775808 ≤ a4) (hl4 : a4 < 9223372036854775808) (w : World) (hr0 : Rd w A0 l0) (hr1 : Rd w A1 l1) :
    Calls Try.prog 7 #[.slice A0 n0 cap0, .slice A1 n1 cap1, .int .i64 a2, .int .i64 a3, .int .i64 a4] w fun e w' => e = .returned (.bool true) ∧ Below w.heap.size w w' := by
  go_enter Try.func7, Try.ntmps7
  go_wp2_with fail
  refine (known_any _).mono ?_
  rintro e w1 ⟨rfl, b1⟩
  by_cases g0 : 60 < n0
  · go_wp2
    go_ret
    exact ⟨rfl, b1⟩
  by_cases g1 : 60 < n1
  · go_wp2
    go_ret
    exact ⟨rfl, b1⟩
  have C0 := hid hz0
  have C1 := hid hz1
  have r0 := hr0.step b1
  have r1 := hr1.step b1
  obtain ⟨k, hk⟩ : ∃ k : Int, Hid (a2 % 14 = k) := ⟨_, hid rfl⟩
  have hkb : 0 ≤ k ∧ k < 14 := by have := hk.out; omega
  obtain ⟨Nn, hNn⟩ : ∃ K : Nat, Hid (a3 % 60 = (K : Int)) := ⟨(a3 % 60).toNat, hid (by omega)⟩
  have hN60 : Nn < 60 := by have := hNn.out; omega
  obtain ⟨Mm, hMm⟩ : ∃ K : Nat, Hid (a4 % 60 = (K : Int)) := ⟨(a4 % 60).toNat, hid (by omega)⟩
  have hM60 : Mm < 60 := by have := hMm.out; omega
  obtain ⟨T, hT⟩ : ∃ T : Nat, (T : Int) = max 1 (min (k - 2) 1000) - 1 := ⟨(max 1 (min (k - 2) 1000) - 1).toNat, by omega⟩
  obtain ⟨yk, hyk⟩ : ∃ y, Hid (strA l0 l1 T = y) := ⟨_, hid rfl⟩
  obtain ⟨y9, hy9⟩ : ∃ y, Hid (strA l0 l1 999 = y) := ⟨_, hid rfl⟩
  obtain ⟨y0, hy0⟩ : ∃ y, Hid (strA l0 l1 0 = y) := ⟨_, hid rfl⟩
  have HT := hid hT
  clear hT
  go_wp2_with fail
  refine (within_eq hk.out (by omega) (by omega) hk2 hl2 _).mono ?_
  rintro e w2 ⟨rfl, b2⟩
  replace r0 := r0.step b2
  replace r1 := r1.step b2
  have B2 := step_trans b1 b2
  clear b1 b2
  go_wp2_with fail
  refine (within_eq hNn.out (by omega) (by omega) hk3 hl3 _).mono ?_
  rintro e w3 ⟨rfl, b3⟩
  replace r0 := r0.step b3
  replace r1 := r1.step b3
  replace B2 := step_trans B2 b3
  clear b3
  go_wp2_with fail
  refine (stream_any A0 l0 n0 cap0 hn0 hc0 hm0 C0.out Nn (by omega) _ r0).mono ?_
  rintro e w4 ⟨v12, rfl, f12, b4⟩
  replace r0 := r0.step b4
  replace r1 := r1.step b4
  replace B2 := step_trans B2 b4
  clear b4
  go_wp2_with fail
  refine (within_eq hMm.out (by omega) (by omega) hk4 hl4 _).mono ?_
  rintro e w5 ⟨rfl, b5⟩
  replace r0 := r0.step b5
  replace r1 := r1.step b5
  replace f12 := f12.step b5
  replace B2 := step_trans B2 b5
  clear b5
  go_wp2_with fail
  refine (stream_any A0 l0 n0 cap0 hn0 hc0 hm0 C0.out Mm (by omega) _ r0).mono ?_
  rintro e w6 ⟨v13, rfl, f13, b6⟩
  replace r0 := r0.step b6
  replace r1 := r1.step b6
  replace f12 := f12.step b6
  replace B2 := step_trans B2 b6
  clear b6
  go_upto_region 7 with fail
  obtain ⟨C, hC⟩ : ∃ C, min Nn Mm = C := ⟨_, rfl⟩
  have hCN : C ≤ Nn := by omega
  have hCM : C ≤ Mm := by omega
  have HC := hid hC
  have HCM : Hid ((streamL l0 Nn).take C = (streamL l0 Mm).take C) := hid (by rw [streamL_take l0 hCN, streamL_take l0 hCM])
  have hmin : Hid ((if (Mm : Int) < (Nn : Int) then (Mm : Int) else (Nn : Int)) = (C : Int)) := hid (by split <;> omega)
  clear hC
  refine wp_region_stU [StK.bytes (streamL l0 Nn), StK.eq (.int .i64 (Nn : Int)), StK.bytes (streamL l0 Mm), StK.eq (.int .i64 (Mm : Int)), StK.eq (.int .i64 (C : Int)), StK.eq (.int .i64 (C : Int))] 6 117 rfl (by kernel_rfl) (by decide) ⟨?_, ?_, ?_, ?_, ?_, ?_, trivial⟩ ?_
  · intro a w hb hd
    have e12 : IsB w (streamL l0 Nn) (a.eval (.tmp 12)) := by rw [show a.eval (.tmp 12) = v12 from hd 12 (by decide)]; exact (f12).step hb
    exact hop_runK (F := (StK.bytes (streamL l0 Nn)).F) (wanted_none rfl) _ (run_mv _ (.inl rfl) rfl) e12
  · intro a w hb hd
    have e36 : IsB w (streamL l0 Nn) (a.eval (.tmp 36)) := hd 36 (by decide)
    exact hop_runK (F := (StK.eq (.int .i64 (Nn : Int))).F) (wanted_none rfl) _ (run_lenZ _ rfl e36 (by rw [streamL_len])) rfl
  · intro a w hb hd
    have e13 : IsB w (streamL l0 Mm) (a.eval (.tmp 13)) := by rw [show a.eval (.tmp 13) = v13 from hd 13 (by decide)]; exact (f13).step hb
    exact hop_runK (F := (StK.bytes (streamL l0 Mm)).F) (wanted_none rfl) _ (run_mv _ (.inl rfl) rfl) e13
  · intro a w hb hd
    have e38 : IsB w (streamL l0 Mm) (a.eval (.tmp 38)) := hd 38 (by decide)
    exact hop_runK (F := (StK.eq (.int .i64 (Mm : Int))).F) (wanted_none rfl) _ (run_lenZ _ rfl e38 (by rw [streamL_len])) rfl
  · intro a w hb hd
    have e37 : a.eval (.tmp 37) = .int .i64 (Nn : Int) := hd 37 (by decide)
    have e39 : a.eval (.tmp 39) = .int .i64 (Mm : Int) := hd 39 (by decide)
    exact hop_runK (F := (StK.eq (.int .i64 (C : Int))).F) (wanted_none rfl) _ (run_minI _ _ _ rfl e37 e39 hmin.out) rfl
  · intro a w hb hd
    have e40 : a.eval (.tmp 40) = .int .i64 (C : Int) := hd 40 (by decide)
    exact hop_runK (F := (StK.eq (.int .i64 (C : Int))).F) (wanted_none rfl) _ (run_mv _ (.inr rfl) e40) rfl
  intro pw7 w7 bw7 hp
  obtain ⟨-, -, -, -, -, q5, -⟩ := hp
  have e5 : pw7 5 = .int .i64 (C : Int) := q5 (by decide)
  simp only [List.take_succ_cons, List.take_zero, List.drop_succ_cons, List.drop_zero, layAll, Act.put, List.setIfInBounds_toArray, List.set_cons_zero, List.set_cons_succ, Nat.zero_add, Nat.reduceAdd, e5]
  clear q5 e5
  have s0 := r0.step bw7
  have s1 := r1.step bw7
  have g12 := f12.step bw7
  have g13 := f13.step bw7
  have B7 := step_trans B2 bw7
  clear r0 r1 f12 f13 B2 bw7
  go_upto_region 8 with fail
  obtain ⟨M, hM⟩ : ∃ k : Int, Hid (a2 % 40 = k) := ⟨_, hid rfl⟩
  by_cases hm : M = 0
  · have hm0c : Hid ((M == 0) = true) := hid (beq_iff_eq.2 hm)
    clear hm
    refine wp_region_stU [StK.eq (.int .i64 a2), StK.eq (.int .i64 M), StK.eq (.bool true), StK.eq (.bool true), StK.eq (.slice A0 n0 cap0), StK.eq (.slice A1 n1 cap1), StK.eq (.agg (arr16 y9)), StK.eq (.slice A0 n0 cap0), StK.eq (.slice A1 n1 cap1), StK.eq (.agg (arr16 y9)), StK.eq (.bool false), StK.eq (.bool false), StK.eq (.bool false), StK.eq (.slice A0 n0 cap0), StK.eq (.slice A1 n1 cap1), StK.eq (.agg (arr16 y0)), StK.eq (.slice A0 n0 cap0), StK.eq (.slice A1 n1 cap1), StK.eq (.agg (arr16 y0)), StK.eq (.bool false), StK.eq (.bool false)] 21 117 rfl (by kernel_rfl) (by decide) ⟨?_, ?_, ?_, ?_, ?_, ?_, ?_, ?_, ?_, ?_, ?_, ?_, ?_, ?_, ?_, ?_, ?_, ?_, ?_, ?_, ?_, trivial⟩ ?_
    · intro a w hb hd
      have e2 : a.eval (.tmp 2) = .int .i64 a2 := hd 2 (by decide)
      exact hop_runK (F := (StK.eq (.int .i64 a2)).F) (wanted_none rfl) _ (run_mv _ (.inl rfl) e2) rfl
    · intro a w hb hd
      have e41 : a.eval (.tmp 41) = .int .i64 a2 := hd 41 (by decide)
      exact hop_callK (F := (StK.eq (.int .i64 M)).F) (wanted_none rfl) hb.size rfl #[a.eval (.tmp 41), .int .i64 40] (by first | (simp only [List.map_toArray, List.map_cons, List.map_nil]; done) | (simp only [List.map_toArray, List.map_cons, List.map_nil]; rfl)) (enters_of Try.func20 (by kernel_rfl) rfl) (by rw [e41]; exact call_eq (within_eq hM.out (by omega) (by omega) hk2 hl2 w))
    · intro a w hb hd
      have e42 : a.eval (.tmp 42) = .int .i64 M := hd 42 (by decide)
      exact hop_runK (F := (StK.eq (.bool true)).F) (wanted_none rfl) _ (run_eqI _ _ rfl e42 rfl (hm0c.out)) rfl
    · intro a w hb hd
      have e43 : a.eval (.tmp 43) = .bool true := hd 43 (by decide)
      exact hop_runK (F := (StK.eq (.bool true)).F) (wanted_none rfl) _ (run_mv _ (.inl rfl) e43) rfl
    · intro a w hb hd
      have eg : a.eval (.tmp 44) = .bool true := hd 44 (by decide)
      have e0 : a.eval (.tmp 0) = .slice A0 n0 cap0 := hd 0 (by decide)
      exact hop_runK (F := (StK.eq (.slice A0 n0 cap0)).F) (wanted_yes rfl rfl rfl eg) _ (run_mv _ (.inl rfl) e0) rfl
    · intro a w hb hd
      have eg : a.eval (.tmp 44) = .bool true := hd 44 (by decide)
      have e1 : a.eval (.tmp 1) = .slice A1 n1 cap1 := hd 1 (by decide)
      exact hop_runK (F := (StK.eq (.slice A1 n1 cap1)).F) (wanted_yes rfl rfl rfl eg) _ (run_mv _ (.inl rfl) e1) rfl
    · intro a w hb hd
      have eg : a.eval (.tmp 44) = .bool true := hd 44 (by decide)
      have e45 : a.eval (.tmp 45) = .slice A0 n0 cap0 := hd 45 (by decide)
      have e46 : a.eval (.tmp 46) = .slice A1 n1 cap1 := hd 46 (by decide)
      exact hop_callK (F := (StK.eq (.agg (arr16 y9))).F) (wanted_yes rfl rfl rfl eg) hb.size rfl #[a.eval (.tmp 45), a.eval (.tmp 46), .int .i64 9223372036854775807] (by first | (simp only [List.map_toArray, List.map_cons, List.map_nil]; done) | (simp only [List.map_toArray, List.map_cons, List.map_nil]; rfl)) (enters_of Try.func29 (by kernel_rfl) rfl) (by rw [e45]; rw [e46]; exact call_eq (by have := stretch_any A0 l0 n0 cap0 hn0 hc0 hm0 C0.out A1 l1 n1 cap1 hn1 hc1 hm1 C1.out (9223372036854775807) (by omega) (by omega) 999 (by omega) w (s0.step hb) (s1.step hb); rw [hy9.out] at this; exact this))
    · intro a w hb hd
      have eg : a.eval (.tmp 44) = .bool true := hd 44 (by decide)
      have e0 : a.eval (.tmp 0) = .slice A0 n0 cap0 := hd 0 (by decide)
      exact hop_runK (F := (StK.eq (.slice A0 n0 cap0)).F) (wanted_yes rfl rfl rfl eg) _ (run_mv _ (.inl rfl) e0) rfl
    · intro a w hb hd
      have eg : a.eval (.tmp 44) = .bool true := hd 44 (by decide)
      have e1 : a.eval (.tmp 1) = .slice A1 n1 cap1 := hd 1 (by decide)
      exact hop_runK (F := (StK.eq (.slice A1 n1 cap1)).F) (wanted_yes rfl rfl rfl eg) _ (run_mv _ (.inl rfl) e1) rfl
    · intro a w hb hd
      have eg : a.eval (.tmp 44) = .bool true := hd 44 (by decide)
      have e48 : a.eval (.tmp 48) = .slice A0 n0 cap0 := hd 48 (by decide)
      have e49 : a.eval (.tmp 49) = .slice A1 n1 cap1 := hd 49 (by decide)
      exact hop_callK (F := (StK.eq (.agg (arr16 y9))).F) (wanted_yes rfl rfl rfl eg) hb.size rfl #[a.eval (.tmp 48), a.eval (.tmp 49), .int .i64 1000] (by first | (simp only [List.map_toArray, List.map_cons, List.map_nil]; done) | (simp only [List.map_toArray, List.map_cons, List.map_nil]; rfl)) (enters_of Try.func30 (by kernel_rfl) rfl) (by rw [e48]; rw [e49]; exact call_eq (by have := rstretch_any A0 l0 n0 cap0 hn0 hc0 hm0 C0.out A1 l1 n1 cap1 hn1 hc1 hm1 C1.out (by omega) (by omega) (1000) (by omega) (by omega) 999 (by omega) w (s0.step hb) (s1.step hb); rw [hy9.out] at this; exact this))
    · intro a w hb hd
      have eg : a.eval (.tmp 44) = .bool true := hd 44 (by decide)
      have e47 : a.eval (.tmp 47) = .agg (arr16 y9) := hd 47 (by decide)
      have e50 : a.eval (.tmp 50) = .agg (arr16 y9) := hd 50 (by decide)
      exact hop_runK (F := (StK.eq (.bool false)).F) (wanted_yes rfl rfl rfl eg) _ (run_ne16' _ _ rfl y9 e47 e50) rfl
    · intro a w hb hd
      have e44 : a.eval (.tmp 44) = .bool true := hd 44 (by decide)
      have e51 : a.eval (.tmp 51) = .bool false := hd 51 (by decide)
      exact hop_runK (F := (StK.eq (.bool false)).F) (wanted_none rfl) (.bool false) (run_pick_t rfl e44 e51) rfl
    · intro a w hb hd
      have e52 : a.eval (.tmp 52) = .bool false := hd 52 (by decide)
      exact hop_runK (F := (StK.eq (.bool false)).F) (wanted_none rfl) _ (run_mv _ (.inl rfl) e52) rfl
    · intro a w hb hd
      have eg : a.eval (.tmp 53) = .bool false := hd 53 (by decide)
      have e0 : a.eval (.tmp 0) = .slice A0 n0 cap0 := hd 0 (by decide)
      exact hop_runK (F := (StK.eq (.slice A0 n0 cap0)).F) (wanted_yes rfl rfl rfl eg) _ (run_mv _ (.inl rfl) e0) rfl
    · intro a w hb hd
      have eg : a.eval (.tmp 53) = .bool false := hd 53 (by decide)
      have e1 : a.eval (.tmp 1) = .slice A1 n1 cap1 := hd 1 (by decide)
      exact hop_runK (F := (StK.eq (.slice A1 n1 cap1)).F) (wanted_yes rfl rfl rfl eg) _ (run_mv _ (.inl rfl) e1) rfl
    · intro a w hb hd
      have eg : a.eval (.tmp 53) = .bool false := hd 53 (by decide)
      have e54 : a.eval (.tmp 54) = .slice A0 n0 cap0 := hd 54 (by decide)
      have e55 : a.eval (.tmp 55) = .slice A1 n1 cap1 := hd 55 (by decide)
      exact hop_callK (F := (StK.eq (.agg (arr16 y0))).F) (wanted_yes rfl rfl rfl eg) hb.size rfl #[a.eval (.tmp 54), a.eval (.tmp 55), .int .i64 (-9223372036854775808)] (by first | (simp only [List.map_toArray, List.map_cons, List.map_nil]; done) | (simp only [List.map_toArray, List.map_cons, List.map_nil]; rfl)) (enters_of Try.func29 (by kernel_rfl) rfl) (by rw [e54]; rw [e55]; exact call_eq (by have := stretch_any A0 l0 n0 cap0 hn0 hc0 hm0 C0.out A1 l1 n1 cap1 hn1 hc1 hm1 C1.out (-9223372036854775808) (by omega) (by omega) 0 (by omega) w (s0.step hb) (s1.step hb); rw [hy0.out] at this; exact this))
    · intro a w hb hd
      have eg : a.eval (.tmp 53) = .bool false := hd 53 (by decide)
      have e0 : a.eval (.tmp 0) = .slice A0 n0 cap0 := hd 0 (by decide)
      exact hop_runK (F := (StK.eq (.slice A0 n0 cap0)).F) (wanted_yes rfl rfl rfl eg) _ (run_mv _ (.inl rfl) e0) rfl
    · intro a w hb hd
      have eg : a.eval (.tmp 53) = .bool false := hd 53 (by decide)
      have e1 : a.eval (.tmp 1) = .slice A1 n1 cap1 := hd 1 (by decide)
      exact hop_runK (F := (StK.eq (.slice A1 n1 cap1)).F) (wanted_yes rfl rfl rfl eg) _ (run_mv _ (.inl rfl) e1) rfl
    · intro a w hb hd
      have eg : a.eval (.tmp 53) = .bool false := hd 53 (by decide)
      have e57 : a.eval (.tmp 57) = .slice A0 n0 cap0 := hd 57 (by decide)
      have e58 : a.eval (.tmp 58) = .slice A1 n1 cap1 := hd 58 (by decide)
      exact hop_callK (F := (StK.eq (.agg (arr16 y0))).F) (wanted_yes rfl rfl rfl eg) hb.size rfl #[a.eval (.tmp 57), a.eval (.tmp 58), .int .i64 1] (by first | (simp only [List.map_toArray, List.map_cons, List.map_nil]; done) | (simp only [List.map_toArray, List.map_cons, List.map_nil]; rfl)) (enters_of Try.func30 (by kernel_rfl) rfl) (by rw [e57]; rw [e58]; exact call_eq (by have := rstretch_any A0 l0 n0 cap0 hn0 hc0 hm0 C0.out A1 l1 n1 cap1 hn1 hc1 hm1 C1.out (by omega) (by omega) (1) (by omega) (by omega) 0 (by omega) w (s0.step hb) (s1.step hb); rw [hy0.out] at this; exact this))
    · intro a w hb hd
      have eg : a.eval (.tmp 53) = .bool false := hd 53 (by decide)
      have e56 : a.eval (.tmp 56) = .agg (arr16 y0) := hd 56 (by decide)
      have e59 : a.eval (.tmp 59) = .agg (arr16 y0) := hd 59 (by decide)
      exact hop_runK (F := (StK.eq (.bool false)).F) (wanted_yes rfl rfl rfl eg) _ (run_ne16' _ _ rfl y0 e56 e59) rfl
    · intro a w hb hd
      have e53 : a.eval (.tmp 53) = .bool false := hd 53 (by decide)
      have e60 : a.eval (.tmp 60) = .bool false := hd 60 (by decide)
      exact hop_runK (F := (StK.eq (.bool false)).F) (wanted_none rfl) (.bool false) (run_pick_f rfl e53 e60) rfl
    intro pw8 w8 bw8 hp
    obtain ⟨-, -, -, -, -, -, -, -, -, -, -, -, -, -, -, -, -, -, -, -, q20, -⟩ := hp
    have e20 : pw8 20 = .bool false := q20 (by decide)
    simp only [List.take_succ_cons, List.take_zero, List.drop_succ_cons, List.drop_zero, layAll, Act.put, List.setIfInBounds_toArray, List.set_cons_zero, List.set_cons_succ, Nat.zero_add, Nat.reduceAdd, e20]
    clear q20 e20
    have t0 := s0.step bw8
    have t1 := s1.step bw8
    have h12 := g12.step bw8
    have h13 := g13.step bw8
    have B8 := step_trans B7 bw8
    clear s0 s1 g12 g13 B7 bw8
    go_upto_region 10 with fail
    obtain ⟨Q, hQ⟩ : ∃ k : Int, Hid (a3 % 9 = k) := ⟨_, hid rfl⟩
    have hQb : 0 ≤ Q ∧ Q < 9 := by have := hQ.out; omega
    refine wp_region_stT ((StK.eq (.slice A0 n0 cap0)) :: (StK.eq (.slice A1 n1 cap1)) :: (StK.eq (.int .i64 (k - 2))) :: (StK.eq (.agg (arr16 yk))) :: (StK.eq (.slice A0 n0 cap0)) :: (StK.eq (.slice A1 n1 cap1)) :: (StK.eq (.int .i64 (k - 2))) :: (StK.eq (.agg (arr16 yk))) :: (StK.eq (.bool true)) :: (StK.eq (.bool true)) :: (StK.bytes (streamL l0 Nn)) :: (StK.eq (.int .i64 (Nn : Int))) :: (StK.eq (.int .i64 a3)) :: (StK.eq (.int .i64 (Nn : Int))) :: (StK.eq (.bool true)) :: (StK.eq (.bool true)) :: (StK.eq (.bool true)) :: (StK.bytes (streamL l0 Nn)) :: (StK.eq (.string ⟨(streamL l0 Nn).toArray⟩)) :: (StK.eq (.slice A0 n0 cap0)) :: (StK.eq (.int .i64 a3)) :: (StK.eq (.int .i64 (Nn : Int))) :: (StK.bytes (streamL l0 Nn)) :: (StK.eq (.string ⟨(streamL l0 Nn).toArray⟩)) :: (StK.eq (.bool true)) :: (StK.eq (.bool true)) :: (StK.eq (.bool true)) :: (StK.bytes (streamL l0 Nn)) :: (StK.eq (.int .i64 (C : Int))) :: (StK.bytes ((streamL l0 Nn).take C)) :: (StK.eq (.string ⟨((streamL l0 Nn).take C).toArray⟩)) :: (StK.bytes (streamL l0 Mm)) :: (StK.eq (.int .i64 (C : Int))) :: (StK.bytes ((streamL l0 Mm).take C)) :: (StK.eq (.string ⟨((streamL l0 Mm).take C).toArray⟩)) :: (StK.eq (.bool true)) :: (StK.eq (.bool true)) :: (StK.eq (.bool true)) :: (StK.eq (.slice A0 n0 cap0)) :: (StK.eq (.int .i64 a3)) :: (StK.eq (.int .i64 Q)) :: (StK.eq (.int .i64 (-1 - Q))) :: (StK.eq (.slice none 0 0)) :: (StK.eq (.int .i64 0)) :: (StK.eq (.bool true)) :: (StK.eq (.bool true)) :: (StK.eq (.bool true)) :: (StK.eq (.slice A0 n0 cap0)) :: (StK.eq (.int .i64 a3)) :: (StK.eq (.int .i64 Q)) :: (StK.eq (.int .i64 (1001 + Q))) :: (StK.eq (.slice none 0 0)) :: (StK.eq (.int .i64 0)) :: (StK.eq (.bool true)) :: (StK.eq (.bool true)) :: (StK.eq (.bool true)) :: []) 56 117 rfl (by kernel_rfl) (by kernel_rfl) ⟨?_, ?_, ?_, ?_, ?_, ?_, ?_, ?_, ?_, ?_, ?_, ?_, ?_, ?_, ?_, ?_, ?_, ?_, ?_, ?_, ?_, ?_, ?_, ?_, ?_, ?_, ?_, ?_, ?_, ?_, ?_, ?_, ?_, ?_, ?_, ?_, ?_, ?_, ?_, ?_, ?_, ?_, ?_, ?_, ?_, ?_, ?_, ?_, ?_, ?_, ?_, ?_, ?_, ?_, ?_, ?_, trivial⟩ ?_
    · intro a w hb hd
      have e0 : a.eval (.tmp 0) = .slice A0 n0 cap0 := hd 0 (by decide)
      exact hop_runK (F := (StK.eq (.slice A0 n0 cap0)).F) (wanted_none rfl) _ (run_mv _ (.inl rfl) e0) rfl
    · intro a w hb hd
      have e1 : a.eval (.tmp 1) = .slice A1 n1 cap1 := hd 1 (by decide)
      exact hop_runK (F := (StK.eq (.slice A1 n1 cap1)).F) (wanted_none rfl) _ (run_mv _ (.inl rfl) e1) rfl
    · intro a w hb hd
      have e11 : a.eval (.tmp 11) = .int .i64 (k - 2) := hd 11 (by decide)
      exact hop_runK (F := (StK.eq (.int .i64 (k - 2))).F) (wanted_none rfl) _ (run_mv _ (.inl rfl) e11) rfl
    · intro a w hb hd
      have e62 : a.eval (.tmp 62) = .slice A0 n0 cap0 := hd 62 (by decide)
      have e63 : a.eval (.tmp 63) = .slice A1 n1 cap1 := hd 63 (by decide)
      have e64 : a.eval (.tmp 64) = .int .i64 (k - 2) := hd 64 (by decide)
      exact hop_callK (F := (StK.eq (.agg (arr16 yk))).F) (wanted_none rfl) hb.size rfl #[a.eval (.tmp 62), a.eval (.tmp 63), a.eval (.tmp 64)] (by first | (simp only [List.map_toArray, List.map_cons, List.map_nil]; done) | (simp only [List.map_toArray, List.map_cons, List.map_nil]; rfl)) (enters_of Try.func29 (by kernel_rfl) rfl) (by rw [e62]; rw [e63]; rw [e64]; exact call_eq (by have := stretch_any A0 l0 n0 cap0 hn0 hc0 hm0 C0.out A1 l1 n1 cap1 hn1 hc1 hm1 C1.out (k - 2) (by omega) (by omega) T HT.out w (t0.step hb) (t1.step hb); rw [hyk.out] at this; exact this))
    · intro a w hb hd
      have e0 : a.eval (.tmp 0) = .slice A0 n0 cap0 := hd 0 (by decide)
      exact hop_runK (F := (StK.eq (.slice A0 n0 cap0)).F) (wanted_none rfl) _ (run_mv _ (.inl rfl) e0) rfl
    · intro a w hb hd
      have e1 : a.eval (.tmp 1) = .slice A1 n1 cap1 := hd 1 (by decide)
      exact hop_runK (F := (StK.eq (.slice A1 n1 cap1)).F) (wanted_none rfl) _ (run_mv _ (.inl rfl) e1) rfl
    · intro a w hb hd
      have e11 : a.eval (.tmp 11) = .int .i64 (k - 2) := hd 11 (by decide)
      exact hop_runK (F := (StK.eq (.int .i64 (k - 2))).F) (wanted_none rfl) _ (run_mv _ (.inl rfl) e11) rfl
    · intro a w hb hd
      have e66 : a.eval (.tmp 66) = .slice A0 n0 cap0 := hd 66 (by decide)
      have e67 : a.eval (.tmp 67) = .slice A1 n1 cap1 := hd 67 (by decide)
      have e68 : a.eval (.tmp 68) = .int .i64 (k - 2) := hd 68 (by decide)
      exact hop_callK (F := (StK.eq (.agg (arr16 yk))).F) (wanted_none rfl) hb.size rfl #[a.eval (.tmp 66), a.eval (.tmp 67), a.eval (.tmp 68)] (by first | (simp only [List.map_toArray, List.map_cons, List.map_nil]; done) | (simp only [List.map_toArray, List.map_cons, List.map_nil]; rfl)) (enters_of Try.func30 (by kernel_rfl) rfl) (by rw [e66]; rw [e67]; rw [e68]; exact call_eq (by have := rstretch_any A0 l0 n0 cap0 hn0 hc0 hm0 C0.out A1 l1 n1 cap1 hn1 hc1 hm1 C1.out (by omega) (by omega) (k - 2) (by omega) (by omega) T HT.out w (t0.step hb) (t1.step hb); rw [hyk.out] at this; exact this))
    · intro a w hb hd
      have e65 : a.eval (.tmp 65) = .agg (arr16 yk) := hd 65 (by decide)
      have e69 : a.eval (.tmp 69) = .agg (arr16 yk) := hd 69 (by decide)
      exact hop_runK (F := (StK.eq (.bool true)).F) (wanted_none rfl) _ (run_eq16 _ _ rfl yk e65 e69) rfl
    · intro a w hb hd
      have e70 : a.eval (.tmp 70) = .bool true := hd 70 (by decide)
      exact hop_runK (F := (StK.eq (.bool true)).F) (wanted_none rfl) _ (run_mv _ (.inl rfl) e70) rfl
    · intro a w hb hd
      have eg : a.eval (.tmp 71) = .bool true := hd 71 (by decide)
      have e12 : IsB w (streamL l0 Nn) (a.eval (.tmp 12)) := by rw [show a.eval (.tmp 12) = v12 from hd 12 (by decide)]; exact (h12).step hb
      exact hop_runK (F := (StK.bytes (streamL l0 Nn)).F) (wanted_yes rfl rfl rfl eg) _ (run_mv _ (.inl rfl) rfl) e12
    · intro a w hb hd
      have eg : a.eval (.tmp 71) = .bool true := hd 71 (by decide)
      have e72 : IsB w (streamL l0 Nn) (a.eval (.tmp 72)) := hd 72 (by decide)
      exact hop_runK (F := (StK.eq (.int .i64 (Nn : Int))).F) (wanted_yes rfl rfl rfl eg) _ (run_lenZ _ rfl e72 (by rw [streamL_len])) rfl
    · intro a w hb hd
      have eg : a.eval (.tmp 71) = .bool true := hd 71 (by decide)
      have e3 : a.eval (.tmp 3) = .int .i64 a3 := hd 3 (by decide)
      exact hop_runK (F := (StK.eq (.int .i64 a3)).F) (wanted_yes rfl rfl rfl eg) _ (run_mv _ (.inl rfl) e3) rfl
    · intro a w hb hd
      have eg : a.eval (.tmp 71) = .bool true := hd 71 (by decide)
      have e74 : a.eval (.tmp 74) = .int .i64 a3 := hd 74 (by decide)
      exact hop_callK (F := (StK.eq (.int .i64 (Nn : Int))).F) (wanted_yes rfl rfl rfl eg) hb.size rfl #[a.eval (.tmp 74), .int .i64 60] (by first | (simp only [List.map_toArray, List.map_cons, List.map_nil]; done) | (simp only [List.map_toArray, List.map_cons, List.map_nil]; rfl)) (enters_of Try.func20 (by kernel_rfl) rfl) (by rw [e74]; exact call_eq (within_eq hNn.out (by omega) (by omega) hk3 hl3 w))
    · intro a w hb hd
      have eg : a.eval (.tmp 71) = .bool true := hd 71 (by decide)
      have e73 : a.eval (.tmp 73) = .int .i64 (Nn : Int) := hd 73 (by decide)
      have e75 : a.eval (.tmp 75) = .int .i64 (Nn : Int) := hd 75 (by decide)
      exact hop_runK (F := (StK.eq (.bool true)).F) (wanted_yes rfl rfl rfl eg) _ (run_eqI _ _ rfl e73 e75 (by simp)) rfl
    · intro a w hb hd
      have e71 : a.eval (.tmp 71) = .bool true := hd 71 (by decide)
      have e76 : a.eval (.tmp 76) = .bool true := hd 76 (by decide)
      exact hop_runK (F := (StK.eq (.bool true)).F) (wanted_none rfl) (.bool true) (run_pick_t rfl e71 e76) rfl
    · intro a w hb hd
      have e77 : a.eval (.tmp 77) = .bool true := hd 77 (by decide)
      exact hop_runK (F := (StK.eq (.bool true)).F) (wanted_none rfl) _ (run_mv _ (.inl rfl) e77) rfl
    · intro a w hb hd
      have eg : a.eval (.tmp 78) = .bool true := hd 78 (by decide)
      have e12 : IsB w (streamL l0 Nn) (a.eval (.tmp 12)) := by rw [show a.eval (.tmp 12) = v12 from hd 12 (by decide)]; exact (h12).step hb
      exact hop_runK (F := (StK.bytes (streamL l0 Nn)).F) (wanted_yes rfl rfl rfl eg) _ (run_mv _ (.inl rfl) rfl) e12
    · intro a w hb hd
      have eg : a.eval (.tmp 78) = .bool true := hd 78 (by decide)
      have e79 : IsB w (streamL l0 Nn) (a.eval (.tmp 79)) := hd 79 (by decide)
      exact hop_runK (F := (StK.eq (.string ⟨(streamL l0 Nn).toArray⟩)).F) (wanted_yes rfl rfl rfl eg) _ (run_str _ rfl e79) rfl
    · intro a w hb hd
      have eg : a.eval (.tmp 78) = .bool true := hd 78 (by decide)
      have e0 : a.eval (.tmp 0) = .slice A0 n0 cap0 := hd 0 (by decide)
      exact hop_runK (F := (StK.eq (.slice A0 n0 cap0)).F) (wanted_yes rfl rfl rfl eg) _ (run_mv _ (.inl rfl) e0) rfl
    · intro a w hb hd
      have eg : a.eval (.tmp 78) = .bool true := hd 78 (by decide)
      have e3 : a.eval (.tmp 3) = .int .i64 a3 := hd 3 (by decide)
      exact hop_runK (F := (StK.eq (.int .i64 a3)).F) (wanted_yes rfl rfl rfl eg) _ (run_mv _ (.inl rfl) e3) rfl
    · intro a w hb hd
      have eg : a.eval (.tmp 78) = .bool true := hd 78 (by decide)
      have e82 : a.eval (.tmp 82) = .int .i64 a3 := hd 82 (by decide)
      exact hop_callK (F := (StK.eq (.int .i64 (Nn : Int))).F) (wanted_yes rfl rfl rfl eg) hb.size rfl #[a.eval (.tmp 82), .int .i64 60] (by first | (simp only [List.map_toArray, List.map_cons, List.map_nil]; done) | (simp only [List.map_toArray, List.map_cons, List.map_nil]; rfl)) (enters_of Try.func20 (by kernel_rfl) rfl) (by rw [e82]; exact call_eq (within_eq hNn.out (by omega) (by omega) hk3 hl3 w))
    · intro a w hb hd
      have eg : a.eval (.tmp 78) = .bool true := hd 78 (by decide)
      have e81 : a.eval (.tmp 81) = .slice A0 n0 cap0 := hd 81 (by decide)
      have e83 : a.eval (.tmp 83) = .int .i64 (Nn : Int) := hd 83 (by decide)
      exact hop_callK (F := (StK.bytes (streamL l0 Nn)).F) (wanted_yes rfl rfl rfl eg) hb.size rfl #[a.eval (.tmp 81), a.eval (.tmp 83)] (by first | (simp only [List.map_toArray, List.map_cons, List.map_nil]; done) | (simp only [List.map_toArray, List.map_cons, List.map_nil]; rfl)) (enters_of Try.func31 (by kernel_rfl) rfl) (by rw [e81]; rw [e83]; exact (rstream_any A0 l0 n0 cap0 hn0 C0.out (by omega) Nn (by omega) w (t0.step hb)).mono fun e w2 ⟨v, h1, h2, h3⟩ => ⟨v, h1, h3, h2⟩)
    · intro a w hb hd
      have eg : a.eval (.tmp 78) = .bool true := hd 78 (by decide)
      have e84 : IsB w (streamL l0 Nn) (a.eval (.tmp 84)) := hd 84 (by decide)
      exact hop_runK (F := (StK.eq (.string ⟨(streamL l0 Nn).toArray⟩)).F) (wanted_yes rfl rfl rfl eg) _ (run_str _ rfl e84) rfl
    · intro a w hb hd
      have eg : a.eval (.tmp 78) = .bool true := hd 78 (by decide)
      have e80 : a.eval (.tmp 80) = .string ⟨(streamL l0 Nn).toArray⟩ := hd 80 (by decide)
      have e85 : a.eval (.tmp 85) = .string ⟨(streamL l0 Nn).toArray⟩ := hd 85 (by decide)
      exact hop_runK (F := (StK.eq (.bool true)).F) (wanted_yes rfl rfl rfl eg) _ (run_eqStr _ _ rfl e80 e85 (by simp)) rfl
    · intro a w hb hd
      have e78 : a.eval (.tmp 78) = .bool true := hd 78 (by decide)
      have e86 : a.eval (.tmp 86) = .bool true := hd 86 (by decide)
      exact hop_runK (F := (StK.eq (.bool true)).F) (wanted_none rfl) (.bool true) (run_pick_t rfl e78 e86) rfl
    · intro a w hb hd
      have e87 : a.eval (.tmp 87) = .bool true := hd 87 (by decide)
      exact hop_runK (F := (StK.eq (.bool true)).F) (wanted_none rfl) _ (run_mv _ (.inl rfl) e87) rfl
    · intro a w hb hd
      have eg : a.eval (.tmp 88) = .bool true := hd 88 (by decide)
      have e12 : IsB w (streamL l0 Nn) (a.eval (.tmp 12)) := by rw [show a.eval (.tmp 12) = v12 from hd 12 (by decide)]; exact (h12).step hb
      exact hop_runK (F := (StK.bytes (streamL l0 Nn)).F) (wanted_yes rfl rfl rfl eg) _ (run_mv _ (.inl rfl) rfl) e12
    · intro a w hb hd
      have eg : a.eval (.tmp 88) = .bool true := hd 88 (by decide)
      have e14 : a.eval (.tmp 14) = .int .i64 (C : Int) := hd 14 (by decide)
      exact hop_runK (F := (StK.eq (.int .i64 (C : Int))).F) (wanted_yes rfl rfl rfl eg) _ (run_mv _ (.inl rfl) e14) rfl
    · intro a w hb hd
      have eg : a.eval (.tmp 88) = .bool true := hd 88 (by decide)
      have e89 : IsB w (streamL l0 Nn) (a.eval (.tmp 89)) := hd 89 (by decide)
      have e90 : a.eval (.tmp 90) = .int .i64 (C : Int) := hd 90 (by decide)
      exact hop_slTo (wanted_yes rfl rfl rfl eg) _ _ rfl e89 (K := C) e90 rfl (by rw [streamL_len]; omega)
    · intro a w hb hd
      have eg : a.eval (.tmp 88) = .bool true := hd 88 (by decide)
      have e91 : IsB w ((streamL l0 Nn).take C) (a.eval (.tmp 91)) := hd 91 (by decide)
      exact hop_runK (F := (StK.eq (.string ⟨((streamL l0 Nn).take C).toArray⟩)).F) (wanted_yes rfl rfl rfl eg) _ (run_str _ rfl e91) rfl
    · intro a w hb hd
      have eg : a.eval (.tmp 88) = .bool true := hd 88 (by decide)
      have e13 : IsB w (streamL l0 Mm) (a.eval (.tmp 13)) := by rw [show a.eval (.tmp 13) = v13 from hd 13 (by decide)]; exact (h13).step hb
      exact hop_runK (F := (StK.bytes (streamL l0 Mm)).F) (wanted_yes rfl rfl rfl eg) _ (run_mv _ (.inl rfl) rfl) e13
    · intro a w hb hd
      have eg : a.eval (.tmp 88) = .bool true := hd 88 (by decide)
      have e14 : a.eval (.tmp 14) = .int .i64 (C : Int) := hd 14 (by decide)
      exact hop_runK (F := (StK.eq (.int .i64 (C : Int))).F) (wanted_yes rfl rfl rfl eg) _ (run_mv _ (.inl rfl) e14) rfl
    · intro a w hb hd
      have eg : a.eval (.tmp 88) = .bool true := hd 88 (by decide)
      have e93 : IsB w (streamL l0 Mm) (a.eval (.tmp 93)) := hd 93 (by decide)
      have e94 : a.eval (.tmp 94) = .int .i64 (C : Int) := hd 94 (by decide)
      exact hop_slTo (wanted_yes rfl rfl rfl eg) _ _ rfl e93 (K := C) e94 rfl (by rw [streamL_len]; omega)
    · intro a w hb hd
      have eg : a.eval (.tmp 88) = .bool true := hd 88 (by decide)
      have e95 : IsB w ((streamL l0 Mm).take C) (a.eval (.tmp 95)) := hd 95 (by decide)
      exact hop_runK (F := (StK.eq (.string ⟨((streamL l0 Mm).take C).toArray⟩)).F) (wanted_yes rfl rfl rfl eg) _ (run_str _ rfl e95) rfl
    · intro a w hb hd
      have eg : a.eval (.tmp 88) = .bool true := hd 88 (by decide)
      have e92 : a.eval (.tmp 92) = .string ⟨((streamL l0 Nn).take C).toArray⟩ := hd 92 (by decide)
      have e96 : a.eval (.tmp 96) = .string ⟨((streamL l0 Mm).take C).toArray⟩ := hd 96 (by decide)
      exact hop_runK (F := (StK.eq (.bool true)).F) (wanted_yes rfl rfl rfl eg) _ (run_eqStr _ _ rfl e92 e96 (by rw [HCM.out]; simp)) rfl
    · intro a w hb hd
      have e88 : a.eval (.tmp 88) = .bool true := hd 88 (by decide)
      have e97 : a.eval (.tmp 97) = .bool true := hd 97 (by decide)
      exact hop_runK (F := (StK.eq (.bool true)).F) (wanted_none rfl) (.bool true) (run_pick_t rfl e88 e97) rfl
    · intro a w hb hd
      have e98 : a.eval (.tmp 98) = .bool true := hd 98 (by decide)
      exact hop_runK (F := (StK.eq (.bool true)).F) (wanted_none rfl) _ (run_mv _ (.inl rfl) e98) rfl
    · intro a w hb hd
      have eg : a.eval (.tmp 99) = .bool true := hd 99 (by decide)
      have e0 : a.eval (.tmp 0) = .slice A0 n0 cap0 := hd 0 (by decide)
      exact hop_runK (F := (StK.eq (.slice A0 n0 cap0)).F) (wanted_yes rfl rfl rfl eg) _ (run_mv _ (.inl rfl) e0) rfl
    · intro a w hb hd
      have eg : a.eval (.tmp 99) = .bool true := hd 99 (by decide)
      have e3 : a.eval (.tmp 3) = .int .i64 a3 := hd 3 (by decide)
      exact hop_runK (F := (StK.eq (.int .i64 a3)).F) (wanted_yes rfl rfl rfl eg) _ (run_mv _ (.inl rfl) e3) rfl
    · intro a w hb hd
      have eg : a.eval (.tmp 99) = .bool true := hd 99 (by decide)
      have e101 : a.eval (.tmp 101) = .int .i64 a3 := hd 101 (by decide)
      exact hop_callK (F := (StK.eq (.int .i64 Q)).F) (wanted_yes rfl rfl rfl eg) hb.size rfl #[a.eval (.tmp 101), .int .i64 9] (by first | (simp only [List.map_toArray, List.map_cons, List.map_nil]; done) | (simp only [List.map_toArray, List.map_cons, List.map_nil]; rfl)) (enters_of Try.func20 (by kernel_rfl) rfl) (by rw [e101]; exact call_eq (within_eq hQ.out (by omega) (by omega) hk3 hl3 w))
    · intro a w hb hd
      have eg : a.eval (.tmp 99) = .bool true := hd 99 (by decide)
      have e102 : a.eval (.tmp 102) = .int .i64 Q := hd 102 (by decide)
      exact hop_runK (F := (StK.eq (.int .i64 (-1 - Q))).F) (wanted_yes rfl rfl rfl eg) _ (run_subI _ _ rfl rfl e102 rfl (by omega) (by omega)) rfl
    · intro a w hb hd
      have eg : a.eval (.tmp 99) = .bool true := hd 99 (by decide)
      have e100 : a.eval (.tmp 100) = .slice A0 n0 cap0 := hd 100 (by decide)
      have e103 : a.eval (.tmp 103) = .int .i64 (-1 - Q) := hd 103 (by decide)
      exact hop_callK (F := (StK.eq (.slice none 0 0)).F) (wanted_yes rfl rfl rfl eg) hb.size rfl #[a.eval (.tmp 100), a.eval (.tmp 103)] (by first | (simp only [List.map_toArray, List.map_cons, List.map_nil]; done) | (simp only [List.map_toArray, List.map_cons, List.map_nil]; rfl)) (enters_of Try.func28 (by kernel_rfl) rfl) (by rw [e100]; rw [e103]; exact call_eq (stream_out A0 n0 cap0 (-1 - Q) (by omega) w))
    · intro a w hb hd
      have eg : a.eval (.tmp 99) = .bool true := hd 99 (by decide)
      have e104 : a.eval (.tmp 104) = .slice none 0 0 := hd 104 (by decide)
      exact hop_runK (F := (StK.eq (.int .i64 0)).F) (wanted_yes rfl rfl rfl eg) _ (run_ln _ _ rfl e104 Try.underlying29) rfl
    · intro a w hb hd
      have eg : a.eval (.tmp 99) = .bool true := hd 99 (by decide)
      have e105 : a.eval (.tmp 105) = .int .i64 0 := hd 105 (by decide)
      exact hop_runK (F := (StK.eq (.bool true)).F) (wanted_yes rfl rfl rfl eg) _ (run_eqI _ _ rfl e105 rfl (show ((0 : Int) == 0) = true from rfl)) rfl
    · intro a w hb hd
      have e99 : a.eval (.tmp 99) = .bool true := hd 99 (by decide)
      have e106 : a.eval (.tmp 106) = .bool true := hd 106 (by decide)
      exact hop_runK (F := (StK.eq (.bool true)).F) (wanted_none rfl) (.bool true) (run_pick_t rfl e99 e106) rfl
    · intro a w hb hd
      have e107 : a.eval (.tmp 107) = .bool true := hd 107 (by decide)
      exact hop_runK (F := (StK.eq (.bool true)).F) (wanted_none rfl) _ (run_mv _ (.inl rfl) e107) rfl
    · intro a w hb hd
      have eg : a.eval (.tmp 108) = .bool true := hd 108 (by decide)
      have e0 : a.eval (.tmp 0) = .slice A0 n0 cap0 := hd 0 (by decide)
      exact hop_runK (F := (StK.eq (.slice A0 n0 cap0)).F) (wanted_yes rfl rfl rfl eg) _ (run_mv _ (.inl rfl) e0) rfl
    · intro a w hb hd
      have eg : a.eval (.tmp 108) = .bool true := hd 108 (by decide)
      have e3 : a.eval (.tmp 3) = .int .i64 a3 := hd 3 (by decide)
      exact hop_runK (F := (StK.eq (.int .i64 a3)).F) (wanted_yes rfl rfl rfl eg) _ (run_mv _ (.inl rfl) e3) rfl
    · intro a w hb hd
      have eg : a.eval (.tmp 108) = .bool true := hd 108 (by decide)
      have e110 : a.eval (.tmp 110) = .int .i64 a3 := hd 110 (by decide)
      exact hop_callK (F := (StK.eq (.int .i64 Q)).F) (wanted_yes rfl rfl rfl eg) hb.size rfl #[a.eval (.tmp 110), .int .i64 9] (by first | (simp only [List.map_toArray, List.map_cons, List.map_nil]; done) | (simp only [List.map_toArray, List.map_cons, List.map_nil]; rfl)) (enters_of Try.func20 (by kernel_rfl) rfl) (by rw [e110]; exact call_eq (within_eq hQ.out (by omega) (by omega) hk3 hl3 w))
    · intro a w hb hd
      have eg : a.eval (.tmp 108) = .bool true := hd 108 (by decide)
      have e111 : a.eval (.tmp 111) = .int .i64 Q := hd 111 (by decide)
      exact hop_runK (F := (StK.eq (.int .i64 (1001 + Q))).F) (wanted_yes rfl rfl rfl eg) _ (run_addI _ _ rfl rfl e111 rfl (by omega) (by omega)) rfl
    · intro a w hb hd
      have eg : a.eval (.tmp 108) = .bool true := hd 108 (by decide)
      have e109 : a.eval (.tmp 109) = .slice A0 n0 cap0 := hd 109 (by decide)
      have e112 : a.eval (.tmp 112) = .int .i64 (1001 + Q) := hd 112 (by decide)
      exact hop_callK (F := (StK.eq (.slice none 0 0)).F) (wanted_yes rfl rfl rfl eg) hb.size rfl #[a.eval (.tmp 109), a.eval (.tmp 112)] (by first | (simp only [List.map_toArray, List.map_cons, List.map_nil]; done) | (simp only [List.map_toArray, List.map_cons, List.map_nil]; rfl)) (enters_of Try.func28 (by kernel_rfl) rfl) (by rw [e109]; rw [e112]; exact call_eq (stream_out A0 n0 cap0 (1001 + Q) (by omega) w))
    · intro a w hb hd
      have eg : a.eval (.tmp 108) = .bool true := hd 108 (by decide)
      have e113 : a.eval (.tmp 113) = .slice none 0 0 := hd 113 (by decide)
      exact hop_runK (F := (StK.eq (.int .i64 0)).F) (wanted_yes rfl rfl rfl eg) _ (run_ln _ _ rfl e113 Try.underlying29) rfl
    · intro a w hb hd
      have eg : a.eval (.tmp 108) = .bool true := hd 108 (by decide)
      have e114 : a.eval (.tmp 114) = .int .i64 0 := hd 114 (by decide)
      exact hop_runK (F := (StK.eq (.bool true)).F) (wanted_yes rfl rfl rfl eg) _ (run_eqI _ _ rfl e114 rfl (show ((0 : Int) == 0) = true from rfl)) rfl
    · intro a w hb hd
      have e108 : a.eval (.tmp 108) = .bool true := hd 108 (by decide)
      have e115 : a.eval (.tmp 115) = .bool true := hd 115 (by decide)
      exact hop_runK (F := (StK.eq (.bool true)).F) (wanted_none rfl) (.bool true) (run_pick_t rfl e108 e115) rfl
    · intro a w hb hd
      have e116 : a.eval (.tmp 116) = .bool true := hd 116 (by decide)
      exact hop_runK (F := (StK.eq (.bool true)).F) (wanted_none rfl) _ (run_mv _ (.inr rfl) e116) rfl
    intro pw9 w9 bw9 hp
    obtain ⟨-, -, -, -, -, -, -, -, -, -, -, -, -, -, -, -, -, -, -, -, -, -, -, -, -, -, -, -, -, -, -, -, -, -, -, -, -, -, -, -, -, -, -, -, -, -, -, -, -, -, -, -, -, -, -, q55, -⟩ := hp
    have e55 : pw9 55 = .bool true := q55 (by decide)
    simp only [List.take_succ_cons, List.take_zero, List.drop_succ_cons, List.drop_zero, layAll, Act.put, List.setIfInBounds_toArray, List.set_cons_zero, List.set_cons_succ, Nat.zero_add, Nat.reduceAdd, e55]
    clear q55 e55
    go_wp2
    go_ret
    exact ⟨rfl, step_trans B8 bw9⟩
  · have hm0c : Hid ((M == 0) = false) := hid (beq_eq_false_iff_ne.2 hm)
    clear hm
    refine wp_region_stU [StK.eq (.int .i64 a2), StK.eq (.int .i64 M), StK.eq (.bool false), StK.eq (.bool false), StK.any, StK.any, StK.any, StK.any, StK.any, StK.any, StK.any, StK.eq (.bool false), StK.eq (.bool false), StK.eq (.slice A0 n0 cap0), StK.eq (.slice A1 n1 cap1), StK.eq (.agg (arr16 y0)), StK.eq (.slice A0 n0 cap0), StK.eq (.slice A1 n1 cap1), StK.eq (.agg (arr16 y0)), StK.eq (.bool false), StK.eq (.bool false)] 21 117 rfl (by kernel_rfl) (by decide) ⟨?_, ?_, ?_, ?_, ?_, ?_, ?_, ?_, ?_, ?_, ?_, ?_, ?_, ?_, ?_, ?_, ?_, ?_, ?_, ?_, ?_, trivial⟩ ?_
    · intro a w hb hd
      have e2 : a.eval (.tmp 2) = .int .i64 a2 := hd 2 (by decide)
      exact hop_runK (F := (StK.eq (.int .i64 a2)).F) (wanted_none rfl) _ (run_mv _ (.inl rfl) e2) rfl
    · intro a w hb hd
      have e41 : a.eval (.tmp 41) = .int .i64 a2 := hd 41 (by decide)
      exact hop_callK (F := (StK.eq (.int .i64 M)).F) (wanted_none rfl) hb.size rfl #[a.eval (.tmp 41), .int .i64 40] (by first | (simp only [List.map_toArray, List.map_cons, List.map_nil]; done) | (simp only [List.map_toArray, List.map_cons, List.map_nil]; rfl)) (enters_of Try.func20 (by kernel_rfl) rfl) (by rw [e41]; exact call_eq (within_eq hM.out (by omega) (by omega) hk2 hl2 w))
    · intro a w hb hd
      have e42 : a.eval (.tmp 42) = .int .i64 M := hd 42 (by decide)
      exact hop_runK (F := (StK.eq (.bool false)).F) (wanted_none rfl) _ (run_eqI _ _ rfl e42 rfl (hm0c.out)) rfl
    · intro a w hb hd
      have e43 : a.eval (.tmp 43) = .bool false := hd 43 (by decide)
      exact hop_runK (F := (StK.eq (.bool false)).F) (wanted_none rfl) _ (run_mv _ (.inl rfl) e43) rfl
    · intro a w hb hd
      have eg : a.eval (.tmp 44) = .bool false := hd 44 (by decide)
      exact hop_skipK (F := StK.any.F) rfl rfl rfl eg trivial
    · intro a w hb hd
      have eg : a.eval (.tmp 44) = .bool false := hd 44 (by decide)
      exact hop_skipK (F := StK.any.F) rfl rfl rfl eg trivial
    · intro a w hb hd
      have eg : a.eval (.tmp 44) = .bool false := hd 44 (by decide)
      exact hop_skipK (F := StK.any.F) rfl rfl rfl eg trivial
    · intro a w hb hd
      have eg : a.eval (.tmp 44) = .bool false := hd 44 (by decide)
      exact hop_skipK (F := StK.any.F) rfl rfl rfl eg trivial
    · intro a w hb hd
      have eg : a.eval (.tmp 44) = .bool false := hd 44 (by decide)
      exact hop_skipK (F := StK.any.F) rfl rfl rfl eg trivial
    · intro a w hb hd
      have eg : a.eval (.tmp 44) = .bool false := hd 44 (by decide)
      exact hop_skipK (F := StK.any.F) rfl rfl rfl eg trivial
    · intro a w hb hd
      have eg : a.eval (.tmp 44) = .bool false := hd 44 (by decide)
      exact hop_skipK (F := StK.any.F) rfl rfl rfl eg trivial
    · intro a w hb hd
      have e44 : a.eval (.tmp 44) = .bool false := hd 44 (by decide)
      exact hop_runK (F := (StK.eq (.bool false)).F) (wanted_none rfl) (.bool false) (run_pick_f rfl e44 rfl) rfl
    · intro a w hb hd
      have e52 : a.eval (.tmp 52) = .bool false := hd 52 (by decide)
      exact hop_runK (F := (StK.eq (.bool false)).F) (wanted_none rfl) _ (run_mv _ (.inl rfl) e52) rfl
    · intro a w hb hd
      have eg : a.eval (.tmp 53) = .bool false := hd 53 (by decide)
      have e0 : a.eval (.tmp 0) = .slice A0 n0 cap0 := hd 0 (by decide)
      exact hop_runK (F := (StK.eq (.slice A0 n0 cap0)).F) (wanted_yes rfl rfl rfl eg) _ (run_mv _ (.inl rfl) e0) rfl
    · intro a w hb hd
      have eg : a.eval (.tmp 53) = .bool false := hd 53 (by decide)
      have e1 : a.eval (.tmp 1) = .slice A1 n1 cap1 := hd 1 (by decide)
      exact hop_runK (F := (StK.eq (.slice A1 n1 cap1)).F) (wanted_yes rfl rfl rfl eg) _ (run_mv _ (.inl rfl) e1) rfl
    · intro a w hb hd
      have eg : a.eval (.tmp 53) = .bool false := hd 53 (by decide)
      have e54 : a.eval (.tmp 54) = .slice A0 n0 cap0 := hd 54 (by decide)
      have e55 : a.eval (.tmp 55) = .slice A1 n1 cap1 := hd 55 (by decide)
      exact hop_callK (F := (StK.eq (.agg (arr16 y0))).F) (wanted_yes rfl rfl rfl eg) hb.size rfl #[a.eval (.tmp 54), a.eval (.tmp 55), .int .i64 (-9223372036854775808)] (by first | (simp only [List.map_toArray, List.map_cons, List.map_nil]; done) | (simp only [List.map_toArray, List.map_cons, List.map_nil]; rfl)) (enters_of Try.func29 (by kernel_rfl) rfl) (by rw [e54]; rw [e55]; exact call_eq (by have := stretch_any A0 l0 n0 cap0 hn0 hc0 hm0 C0.out A1 l1 n1 cap1 hn1 hc1 hm1 C1.out (-9223372036854775808) (by omega) (by omega) 0 (by omega) w (s0.step hb) (s1.step hb); rw [hy0.out] at this; exact this))
    · intro a w hb hd
      have eg : a.eval (.tmp 53) = .bool false := hd 53 (by decide)
      have e0 : a.eval (.tmp 0) = .slice A0 n0 cap0 := hd 0 (by decide)
      exact hop_runK (F := (StK.eq (.slice A0 n0 cap0)).F) (wanted_yes rfl rfl rfl eg) _ (run_mv _ (.inl rfl) e0) rfl
    · intro a w hb hd
      have eg : a.eval (.tmp 53) = .bool false := hd 53 (by decide)
      have e1 : a.eval (.tmp 1) = .slice A1 n1 cap1 := hd 1 (by decide)
      exact hop_runK (F := (StK.eq (.slice A1 n1 cap1)).F) (wanted_yes rfl rfl rfl eg) _ (run_mv _ (.inl rfl) e1) rfl
    · intro a w hb hd
      have eg : a.eval (.tmp 53) = .bool false := hd 53 (by decide)
      have e57 : a.eval (.tmp 57) = .slice A0 n0 cap0 := hd 57 (by decide)
      have e58 : a.eval (.tmp 58) = .slice A1 n1 cap1 := hd 58 (by decide)
      exact hop_callK (F := (StK.eq (.agg (arr16 y0))).F) (wanted_yes rfl rfl rfl eg) hb.size rfl #[a.eval (.tmp 57), a.eval (.tmp 58), .int .i64 1] (by first | (simp only [List.map_toArray, List.map_cons, List.map_nil]; done) | (simp only [List.map_toArray, List.map_cons, List.map_nil]; rfl)) (enters_of Try.func30 (by kernel_rfl) rfl) (by rw [e57]; rw [e58]; exact call_eq (by have := rstretch_any A0 l0 n0 cap0 hn0 hc0 hm0 C0.out A1 l1 n1 cap1 hn1 hc1 hm1 C1.out (by omega) (by omega) (1) (by omega) (by omega) 0 (by omega) w (s0.step hb) (s1.step hb); rw [hy0.out] at this; exact this))
    · intro a w hb hd
      have eg : a.eval (.tmp 53) = .bool false := hd 53 (by decide)
      have e56 : a.eval (.tmp 56) = .agg (arr16 y0) := hd 56 (by decide)
      have e59 : a.eval (.tmp 59) = .agg (arr16 y0) := hd 59 (by decide)
      exact hop_runK (F := (StK.eq (.bool false)).F) (wanted_yes rfl rfl rfl eg) _ (run_ne16' _ _ rfl y0 e56 e59) rfl
    · intro a w hb hd
      have e53 : a.eval (.tmp 53) = .bool false := hd 53 (by decide)
      have e60 : a.eval (.tmp 60) = .bool false := hd 60 (by decide)
      exact hop_runK (F := (StK.eq (.bool false)).F) (wanted_none rfl) (.bool false) (run_pick_f rfl e53 e60) rfl
    intro pw8 w8 bw8 hp
    obtain ⟨-, -, -, -, -, -, -, -, -, -, -, -, -, -, -, -, -, -, -, -, q20, -⟩ := hp
    have e20 : pw8 20 = .bool false := q20 (by decide)
    simp only [List.take_succ_cons, List.take_zero, List.drop_succ_cons, List.drop_zero, layAll, Act.put, List.setIfInBounds_toArray, List.set_cons_zero, List.set_cons_succ, Nat.zero_add, Nat.reduceAdd, e20]
    clear q20 e20
    have t0 := s0.step bw8
    have t1 := s1.step bw8
    have h12 := g12.step bw8
    have h13 := g13.step bw8
    have B8 := step_trans B7 bw8
    clear s0 s1 g12 g13 B7 bw8
    go_upto_region 10 with fail
    obtain ⟨Q, hQ⟩ : ∃ k : Int, Hid (a3 % 9 = k) := ⟨_, hid rfl⟩
    have hQb : 0 ≤ Q ∧ Q < 9 := by have := hQ.out; omega
    refine wp_region_stT ((StK.eq (.slice A0 n0 cap0)) :: (StK.eq (.slice A1 n1 cap1)) :: (StK.eq (.int .i64 (k - 2))) :: (StK.eq (.agg (arr16 yk))) :: (StK.eq (.slice A0 n0 cap0)) :: (StK.eq (.slice A1 n1 cap1)) :: (StK.eq (.int .i64 (k - 2))) :: (StK.eq (.agg (arr16 yk))) :: (StK.eq (.bool true)) :: (StK.eq (.bool true)) :: (StK.bytes (streamL l0 Nn)) :: (StK.eq (.int .i64 (Nn : Int))) :: (StK.eq (.int .i64 a3)) :: (StK.eq (.int .i64 (Nn : Int))) :: (StK.eq (.bool true)) :: (StK.eq (.bool true)) :: (StK.eq (.bool true)) :: (StK.bytes (streamL l0 Nn)) :: (StK.eq (.string ⟨(streamL l0 Nn).toArray⟩)) :: (StK.eq (.slice A0 n0 cap0)) :: (StK.eq (.int .i64 a3)) :: (StK.eq (.int .i64 (Nn : Int))) :: (StK.bytes (streamL l0 Nn)) :: (StK.eq (.string ⟨(streamL l0 Nn).toArray⟩)) :: (StK.eq (.bool true)) :: (StK.eq (.bool true)) :: (StK.eq (.bool true)) :: (StK.bytes (streamL l0 Nn)) :: (StK.eq (.int .i64 (C : Int))) :: (StK.bytes ((streamL l0 Nn).take C)) :: (StK.eq (.string ⟨((streamL l0 Nn).take C).toArray⟩)) :: (StK.bytes (streamL l0 Mm)) :: (StK.eq (.int .i64 (C : Int))) :: (StK.bytes ((streamL l0 Mm).take C)) :: (StK.eq (.string ⟨((streamL l0 Mm).take C).toArray⟩)) :: (StK.eq (.bool true)) :: (StK.eq (.bool true)) :: (StK.eq (.bool true)) :: (StK.eq (.slice A0 n0 cap0)) :: (StK.eq (.int .i64 a3)) :: (StK.eq (.int .i64 Q)) :: (StK.eq (.int .i64 (-1 - Q))) :: (StK.eq (.slice none 0 0)) :: (StK.eq (.int .i64 0)) :: (StK.eq (.bool true)) :: (StK.eq (.bool true)) :: (StK.eq (.bool true)) :: (StK.eq (.slice A0 n0 cap0)) :: (StK.eq (.int .i64 a3)) :: (StK.eq (.int .i64 Q)) :: (StK.eq (.int .i64 (1001 + Q))) :: (StK.eq (.slice none 0 0)) :: (StK.eq (.int .i64 0)) :: (StK.eq (.bool true)) :: (StK.eq (.bool true)) :: (StK.eq (.bool true)) :: []) 56 117 rfl (by kernel_rfl) (by kernel_rfl) ⟨?_, ?_, ?_, ?_, ?_, ?_, ?_, ?_, ?_, ?_, ?_, ?_, ?_, ?_, ?_, ?_, ?_, ?_, ?_, ?_, ?_, ?_, ?_, ?_, ?_, ?_, ?_, ?_, ?_, ?_, ?_, ?_, ?_, ?_, ?_, ?_, ?_, ?_, ?_, ?_, ?_, ?_, ?_, ?_, ?_, ?_, ?_, ?_, ?_, ?_, ?_, ?_, ?_, ?_, ?_, ?_, trivial⟩ ?_
    · intro a w hb hd
      have e0 : a.eval (.tmp 0) = .slice A0 n0 cap0 := hd 0 (by decide)
      exact hop_runK (F := (StK.eq (.slice A0 n0 cap0)).F) (wanted_none rfl) _ (run_mv _ (.inl rfl) e0) rfl
    · intro a w hb hd
      have e1 : a.eval (.tmp 1) = .slice A1 n1 cap1 := hd 1 (by decide)
      exact hop_runK (F := (StK.eq (.slice A1 n1 cap1)).F) (wanted_none rfl) _ (run_mv _ (.inl rfl) e1) rfl
    · intro a w hb hd
      have e11 : a.eval (.tmp 11) = .int .i64 (k - 2) := hd 11 (by decide)
      exact hop_runK (F := (StK.eq (.int .i64 (k - 2))).F) (wanted_none rfl) _ (run_mv _ (.inl rfl) e11) rfl
    · intro a w hb hd
      have e62 : a.eval (.tmp 62) = .slice A0 n0 cap0 := hd 62 (by decide)
      have e63 : a.eval (.tmp 63) = .slice A1 n1 cap1 := hd 63 (by decide)
      have e64 : a.eval (.tmp 64) = .int .i64 (k - 2) := hd 64 (by decide)
      exact hop_callK (F := (StK.eq (.agg (arr16 yk))).F) (wanted_none rfl) hb.size rfl #[a.eval (.tmp 62), a.eval (.tmp 63), a.eval (.tmp 64)] (by first | (simp only [List.map_toArray, List.map_cons, List.map_nil]; done) | (simp only [List.map_toArray, List.map_cons, List.map_nil]; rfl)) (enters_of Try.func29 (by kernel_rfl) rfl) (by rw [e62]; rw [e63]; rw [e64]; exact call_eq (by have := stretch_any A0 l0 n0 cap0 hn0 hc0 hm0 C0.out A1 l1 n1 cap1 hn1 hc1 hm1 C1.out (k - 2) (by omega) (by omega) T HT.out w (t0.step hb) (t1.step hb); rw [hyk.out] at this; exact this))
    · intro a w hb hd
      have e0 : a.eval (.tmp 0) = .slice A0 n0 cap0 := hd 0 (by decide)
      exact hop_runK (F := (StK.eq (.slice A0 n0 cap0)).F) (wanted_none rfl) _ (run_mv _ (.inl rfl) e0) rfl
    · intro a w hb hd
      have e1 : a.eval (.tmp 1) = .slice A1 n1 cap1 := hd 1 (by decide)
      exact hop_runK (F := (StK.eq (.slice A1 n1 cap1)).F) (wanted_none rfl) _ (run_mv _ (.inl rfl) e1) rfl
    · intro a w hb hd
      have e11 : a.eval (.tmp 11) = .int .i64 (k - 2) := hd 11 (by decide)
      exact hop_runK (F := (StK.eq (.int .i64 (k - 2))).F) (wanted_none rfl) _ (run_mv _ (.inl rfl) e11) rfl
    · intro a w hb hd
      have e66 : a.eval (.tmp 66) = .slice A0 n0 cap0 := hd 66 (by decide)
      have e67 : a.eval (.tmp 67) = .slice A1 n1 cap1 := hd 67 (by decide)
      have e68 : a.eval (.tmp 68) = .int .i64 (k - 2) := hd 68 (by decide)
      exact hop_callK (F := (StK.eq (.agg (arr16 yk))).F) (wanted_none rfl) hb.size rfl #[a.eval (.tmp 66), a.eval (.tmp 67), a.eval (.tmp 68)] (by first | (simp only [List.map_toArray, List.map_cons, List.map_nil]; done) | (simp only [List.map_toArray, List.map_cons, List.map_nil]; rfl)) (enters_of Try.func30 (by kernel_rfl) rfl) (by rw [e66]; rw [e67]; rw [e68]; exact call_eq (by have := rstretch_any A0 l0 n0 cap0 hn0 hc0 hm0 C0.out A1 l1 n1 cap1 hn1 hc1 hm1 C1.out (by omega) (by omega) (k - 2) (by omega) (by omega) T HT.out w (t0.step hb) (t1.step hb); rw [hyk.out] at this; exact this))
    · intro a w hb hd
      have e65 : a.eval (.tmp 65) = .agg (arr16 yk) := hd 65 (by decide)
      have e69 : a.eval (.tmp 69) = .agg (arr16 yk) := hd 69 (by decide)
      exact hop_runK (F := (StK.eq (.bool true)).F) (wanted_none rfl) _ (run_eq16 _ _ rfl yk e65 e69) rfl
    · intro a w hb hd
      have e70 : a.eval (.tmp 70) = .bool true := hd 70 (by decide)
      exact hop_runK (F := (StK.eq (.bool true)).F) (wanted_none rfl) _ (run_mv _ (.inl rfl) e70) rfl
    · intro a w hb hd
      have eg : a.eval (.tmp 71) = .bool true := hd 71 (by decide)
      have e12 : IsB w (streamL l0 Nn) (a.eval (.tmp 12)) := by rw [show a.eval (.tmp 12) = v12 from hd 12 (by decide)]; exact (h12).step hb
      exact hop_runK (F := (StK.bytes (streamL l0 Nn)).F) (wanted_yes rfl rfl rfl eg) _ (run_mv _ (.inl rfl) rfl) e12
    · intro a w hb hd
      have eg : a.eval (.tmp 71) = .bool true := hd 71 (by decide)
      have e72 : IsB w (streamL l0 Nn) (a.eval (.tmp 72)) := hd 72 (by decide)
      exact hop_runK (F := (StK.eq (.int .i64 (Nn : Int))).F) (wanted_yes rfl rfl rfl eg) _ (run_lenZ _ rfl e72 (by rw [streamL_len])) rfl
    · intro a w hb hd
      have eg : a.eval (.tmp 71) = .bool true := hd 71 (by decide)
      have e3 : a.eval (.tmp 3) = .int .i64 a3 := hd 3 (by decide)
      exact hop_runK (F := (StK.eq (.int .i64 a3)).F) (wanted_yes rfl rfl rfl eg) _ (run_mv _ (.inl rfl) e3) rfl
    · intro a w hb hd
      have eg : a.eval (.tmp 71) = .bool true := hd 71 (by decide)
      have e74 : a.eval (.tmp 74) = .int .i64 a3 := hd 74 (by decide)
      exact hop_callK (F := (StK.eq (.int .i64 (Nn : Int))).F) (wanted_yes rfl rfl rfl eg) hb.size rfl #[a.eval (.tmp 74), .int .i64 60] (by first | (simp only [List.map_toArray, List.map_cons, List.map_nil]; done) | (simp only [List.map_toArray, List.map_cons, List.map_nil]; rfl)) (enters_of Try.func20 (by kernel_rfl) rfl) (by rw [e74]; exact call_eq (within_eq hNn.out (by omega) (by omega) hk3 hl3 w))
    · intro a w hb hd
      have eg : a.eval (.tmp 71) = .bool true := hd 71 (by decide)
      have e73 : a.eval (.tmp 73) = .int .i64 (Nn : Int) := hd 73 (by decide)
      have e75 : a.eval (.tmp 75) = .int .i64 (Nn : Int) := hd 75 (by decide)
      exact hop_runK (F := (StK.eq (.bool true)).F) (wanted_yes rfl rfl rfl eg) _ (run_eqI _ _ rfl e73 e75 (by simp)) rfl
    · intro a w hb hd
      have e71 : a.eval (.tmp 71) = .bool true := hd 71 (by decide)
      have e76 : a.eval (.tmp 76) = .bool true := hd 76 (by decide)
      exact hop_runK (F := (StK.eq (.bool true)).F) (wanted_none rfl) (.bool true) (run_pick_t rfl e71 e76) rfl
    · intro a w hb hd
      have e77 : a.eval (.tmp 77) = .bool true := hd 77 (by decide)
      exact hop_runK (F := (StK.eq (.bool true)).F) (wanted_none rfl) _ (run_mv _ (.inl rfl) e77) rfl
    · intro a w hb hd
      have eg : a.eval (.tmp 78) = .bool true := hd 78 (by decide)
      have e12 : IsB w (streamL l0 Nn) (a.eval (.tmp 12)) := by rw [show a.eval (.tmp 12) = v12 from hd 12 (by decide)]; exact (h12).step hb
      exact hop_runK (F := (StK.bytes (streamL l0 Nn)).F) (wanted_yes rfl rfl rfl eg) _ (run_mv _ (.inl rfl) rfl) e12
    · intro a w hb hd
      have eg : a.eval (.tmp 78) = .bool true := hd 78 (by decide)
      have e79 : IsB w (streamL l0 Nn) (a.eval (.tmp 79)) := hd 79 (by decide)
      exact hop_runK (F := (StK.eq (.string ⟨(streamL l0 Nn).toArray⟩)).F) (wanted_yes rfl rfl rfl eg) _ (run_str _ rfl e79) rfl
    · intro a w hb hd
      have eg : a.eval (.tmp 78) = .bool true := hd 78 (by decide)
      have e0 : a.eval (.tmp 0) = .slice A0 n0 cap0 := hd 0 (by decide)
      exact hop_runK (F := (StK.eq (.slice A0 n0 cap0)).F) (wanted_yes rfl rfl rfl eg) _ (run_mv _ (.inl rfl) e0) rfl
    · intro a w hb hd
      have eg : a.eval (.tmp 78) = .bool true := hd 78 (by decide)
      have e3 : a.eval (.tmp 3) = .int .i64 a3 := hd 3 (by decide)
      exact hop_runK (F := (StK.eq (.int .i64 a3)).F) (wanted_yes rfl rfl rfl eg) _ (run_mv _ (.inl rfl) e3) rfl
    · intro a w hb hd
      have eg : a.eval (.tmp 78) = .bool true := hd 78 (by decide)
      have e82 : a.eval (.tmp 82) = .int .i64 a3 := hd 82 (by decide)
      exact hop_callK (F := (StK.eq (.int .i64 (Nn : Int))).F) (wanted_yes rfl rfl rfl eg) hb.size rfl #[a.eval (.tmp 82), .int .i64 60] (by first | (simp only [List.map_toArray, List.map_cons, List.map_nil]; done) | (simp only [List.map_toArray, List.map_cons, List.map_nil]; rfl)) (enters_of Try.func20 (by kernel_rfl) rfl) (by rw [e82]; exact call_eq (within_eq hNn.out (by omega) (by omega) hk3 hl3 w))
    · intro a w hb hd
      have eg : a.eval (.tmp 78) = .bool true := hd 78 (by decide)
      have e81 : a.eval (.tmp 81) = .slice A0 n0 cap0 := hd 81 (by decide)
      have e83 : a.eval (.tmp 83) = .int .i64 (Nn : Int) := hd 83 (by decide)
      exact hop_callK (F := (StK.bytes (streamL l0 Nn)).F) (wanted_yes rfl rfl rfl eg) hb.size rfl #[a.eval (.tmp 81), a.eval (.tmp 83)] (by first | (simp only [List.map_toArray, List.map_cons, List.map_nil]; done) | (simp only [List.map_toArray, List.map_cons, List.map_nil]; rfl)) (enters_of Try.func31 (by kernel_rfl) rfl) (by rw [e81]; rw [e83]; exact (rstream_any A0 l0 n0 cap0 hn0 C0.out (by omega) Nn (by omega) w (t0.step hb)).mono fun e w2 ⟨v, h1, h2, h3⟩ => ⟨v, h1, h3, h2⟩)
    · intro a w hb hd
      have eg : a.eval (.tmp 78) = .bool true := hd 78 (by decide)
      have e84 : IsB w (streamL l0 Nn) (a.eval (.tmp 84)) := hd 84 (by decide)
      exact hop_runK (F := (StK.eq (.string ⟨(streamL l0 Nn).toArray⟩)).F) (wanted_yes rfl rfl rfl eg) _ (run_str _ rfl e84) rfl
    · intro a w hb hd
      have eg : a.eval (.tmp 78) = .bool true := hd 78 (by decide)
      have e80 : a.eval (.tmp 80) = .string ⟨(streamL l0 Nn).toArray⟩ := hd 80 (by decide)
      have e85 : a.eval (.tmp 85) = .string ⟨(streamL l0 Nn).toArray⟩ := hd 85 (by decide)
      exact hop_runK (F := (StK.eq (.bool true)).F) (wanted_yes rfl rfl rfl eg) _ (run_eqStr _ _ rfl e80 e85 (by simp)) rfl
    · intro a w hb hd
      have e78 : a.eval (.tmp 78) = .bool true := hd 78 (by decide)
      have e86 : a.eval (.tmp 86) = .bool true := hd 86 (by decide)
      exact hop_runK (F := (StK.eq (.bool true)).F) (wanted_none rfl) (.bool true) (run_pick_t rfl e78 e86) rfl
    · intro a w hb hd
      have e87 : a.eval (.tmp 87) = .bool true := hd 87 (by decide)
      exact hop_runK (F := (StK.eq (.bool true)).F) (wanted_none rfl) _ (run_mv _ (.inl rfl) e87) rfl
    · intro a w hb hd
      have eg : a.eval (.tmp 88) = .bool true := hd 88 (by decide)
      have e12 : IsB w (streamL l0 Nn) (a.eval (.tmp 12)) := by rw [show a.eval (.tmp 12) = v12 from hd 12 (by decide)]; exact (h12).step hb
      exact hop_runK (F := (StK.bytes (streamL l0 Nn)).F) (wanted_yes rfl rfl rfl eg) _ (run_mv _ (.inl rfl) rfl) e12
    · intro a w hb hd
      have eg : a.eval (.tmp 88) = .bool true := hd 88 (by decide)
      have e14 : a.eval (.tmp 14) = .int .i64 (C : Int) := hd 14 (by decide)
      exact hop_runK (F := (StK.eq (.int .i64 (C : Int))).F) (wanted_yes rfl rfl rfl eg) _ (run_mv _ (.inl rfl) e14) rfl
    · intro a w hb hd
      have eg : a.eval (.tmp 88) = .bool true := hd 88 (by decide)
      have e89 : IsB w (streamL l0 Nn) (a.eval (.tmp 89)) := hd 89 (by decide)
      have e90 : a.eval (.tmp 90) = .int .i64 (C : Int) := hd 90 (by decide)
      exact hop_slTo (wanted_yes rfl rfl rfl eg) _ _ rfl e89 (K := C) e90 rfl (by rw [streamL_len]; omega)
    · intro a w hb hd
      have eg : a.eval (.tmp 88) = .bool true := hd 88 (by decide)
      have e91 : IsB w ((streamL l0 Nn).take C) (a.eval (.tmp 91)) := hd 91 (by decide)
      exact hop_runK (F := (StK.eq (.string ⟨((streamL l0 Nn).take C).toArray⟩)).F) (wanted_yes rfl rfl rfl eg) _ (run_str _ rfl e91) rfl
    · intro a w hb hd
      have eg : a.eval (.tmp 88) = .bool true := hd 88 (by decide)
      have e13 : IsB w (streamL l0 Mm) (a.eval (.tmp 13)) := by rw [show a.eval (.tmp 13) = v13 from hd 13 (by decide)]; exact (h13).step hb
      exact hop_runK (F := (StK.bytes (streamL l0 Mm)).F) (wanted_yes rfl rfl rfl eg) _ (run_mv _ (.inl rfl) rfl) e13
    · intro a w hb hd
      have eg : a.eval (.tmp 88) = .bool true := hd 88 (by decide)
      have e14 : a.eval (.tmp 14) = .int .i64 (C : Int) := hd 14 (by decide)
      exact hop_runK (F := (StK.eq (.int .i64 (C : Int))).F) (wanted_yes rfl rfl rfl eg) _ (run_mv _ (.inl rfl) e14) rfl
    · intro a w hb hd
      have eg : a.eval (.tmp 88) = .bool true := hd 88 (by decide)
      have e93 : IsB w (streamL l0 Mm) (a.eval (.tmp 93)) := hd 93 (by decide)
      have e94 : a.eval (.tmp 94) = .int .i64 (C : Int) := hd 94 (by decide)
      exact hop_slTo (wanted_yes rfl rfl rfl eg) _ _ rfl e93 (K := C) e94 rfl (by rw [streamL_len]; omega)
    · intro a w hb hd
      have eg : a.eval (.tmp 88) = .bool true := hd 88 (by decide)
      have e95 : IsB w ((streamL l0 Mm).take C) (a.eval (.tmp 95)) := hd 95 (by decide)
      exact hop_runK (F := (StK.eq (.string ⟨((streamL l0 Mm).take C).toArray⟩)).F) (wanted_yes rfl rfl rfl eg) _ (run_str _ rfl e95) rfl
    · intro a w hb hd
      have eg : a.eval (.tmp 88) = .bool true := hd 88 (by decide)
      have e92 : a.eval (.tmp 92) = .string ⟨((streamL l0 Nn).take C).toArray⟩ := hd 92 (by decide)
      have e96 : a.eval (.tmp 96) = .string ⟨((streamL l0 Mm).take C).toArray⟩ := hd 96 (by decide)
      exact hop_runK (F := (StK.eq (.bool true)).F) (wanted_yes rfl rfl rfl eg) _ (run_eqStr _ _ rfl e92 e96 (by rw [HCM.out]; simp)) rfl
    · intro a w hb hd
      have e88 : a.eval (.tmp 88) = .bool true := hd 88 (by decide)
      have e97 : a.eval (.tmp 97) = .bool true := hd 97 (by decide)
      exact hop_runK (F := (StK.eq (.bool true)).F) (wanted_none rfl) (.bool true) (run_pick_t rfl e88 e97) rfl
    · intro a w hb hd
      have e98 : a.eval (.tmp 98) = .bool true := hd 98 (by decide)
      exact hop_runK (F := (StK.eq (.bool true)).F) (wanted_none rfl) _ (run_mv _ (.inl rfl) e98) rfl
    · intro a w hb hd
      have eg : a.eval (.tmp 99) = .bool true := hd 99 (by decide)
      have e0 : a.eval (.tmp 0) = .slice A0 n0 cap0 := hd 0 (by decide)
      exact hop_runK (F := (StK.eq (.slice A0 n0 cap0)).F) (wanted_yes rfl rfl rfl eg) _ (run_mv _ (.inl rfl) e0) rfl
    · intro a w hb hd
      have eg : a.eval (.tmp 99) = .bool true := hd 99 (by decide)
      have e3 : a.eval (.tmp 3) = .int .i64 a3 := hd 3 (by decide)
      exact hop_runK (F := (StK.eq (.int .i64 a3)).F) (wanted_yes rfl rfl rfl eg) _ (run_mv _ (.inl rfl) e3) rfl
    · intro a w hb hd
      have eg : a.eval (.tmp 99) = .bool true := hd 99 (by decide)
      have e101 : a.eval (.tmp 101) = .int .i64 a3 := hd 101 (by decide)
      exact hop_callK (F := (StK.eq (.int .i64 Q)).F) (wanted_yes rfl rfl rfl eg) hb.size rfl #[a.eval (.tmp 101), .int .i64 9] (by first | (simp only [List.map_toArray, List.map_cons, List.map_nil]; done) | (simp only [List.map_toArray, List.map_cons, List.map_nil]; rfl)) (enters_of Try.func20 (by kernel_rfl) rfl) (by rw [e101]; exact call_eq (within_eq hQ.out (by omega) (by omega) hk3 hl3 w))
    · intro a w hb hd
      have eg : a.eval (.tmp 99) = .bool true := hd 99 (by decide)
      have e102 : a.eval (.tmp 102) = .int .i64 Q := hd 102 (by decide)
      exact hop_runK (F := (StK.eq (.int .i64 (-1 - Q))).F) (wanted_yes rfl rfl rfl eg) _ (run_subI _ _ rfl rfl e102 rfl (by omega) (by omega)) rfl
    · intro a w hb hd
      have eg : a.eval (.tmp 99) = .bool true := hd 99 (by decide)
      have e100 : a.eval (.tmp 100) = .slice A0 n0 cap0 := hd 100 (by decide)
      have e103 : a.eval (.tmp 103) = .int .i64 (-1 - Q) := hd 103 (by decide)
      exact hop_callK (F := (StK.eq (.slice none 0 0)).F) (wanted_yes rfl rfl rfl eg) hb.size rfl #[a.eval (.tmp 100), a.eval (.tmp 103)] (by first | (simp only [List.map_toArray, List.map_cons, List.map_nil]; done) | (simp only [List.map_toArray, List.map_cons, List.map_nil]; rfl)) (enters_of Try.func28 (by kernel_rfl) rfl) (by rw [e100]; rw [e103]; exact call_eq (stream_out A0 n0 cap0 (-1 - Q) (by omega) w))
    · intro a w hb hd
      have eg : a.eval (.tmp 99) = .bool true := hd 99 (by decide)
      have e104 : a.eval (.tmp 104) = .slice none 0 0 := hd 104 (by decide)
      exact hop_runK (F := (StK.eq (.int .i64 0)).F) (wanted_yes rfl rfl rfl eg) _ (run_ln _ _ rfl e104 Try.underlying29) rfl
    · intro a w hb hd
      have eg : a.eval (.tmp 99) = .bool true := hd 99 (by decide)
      have e105 : a.eval (.tmp 105) = .int .i64 0 := hd 105 (by decide)
      exact hop_runK (F := (StK.eq (.bool true)).F) (wanted_yes rfl rfl rfl eg) _ (run_eqI _ _ rfl e105 rfl (show ((0 : Int) == 0) = true from rfl)) rfl
    · intro a w hb hd
      have e99 : a.eval (.tmp 99) = .bool true := hd 99 (by decide)
      have e106 : a.eval (.tmp 106) = .bool true := hd 106 (by decide)
      exact hop_runK (F := (StK.eq (.bool true)).F) (wanted_none rfl) (.bool true) (run_pick_t rfl e99 e106) rfl
    · intro a w hb hd
      have e107 : a.eval (.tmp 107) = .bool true := hd 107 (by decide)
      exact hop_runK (F := (StK.eq (.bool true)).F) (wanted_none rfl) _ (run_mv _ (.inl rfl) e107) rfl
    · intro a w hb hd
      have eg : a.eval (.tmp 108) = .bool true := hd 108 (by decide)
      have e0 : a.eval (.tmp 0) = .slice A0 n0 cap0 := hd 0 (by decide)
      exact hop_runK (F := (StK.eq (.slice A0 n0 cap0)).F) (wanted_yes rfl rfl rfl eg) _ (run_mv _ (.inl rfl) e0) rfl
    · intro a w hb hd
      have eg : a.eval (.tmp 108) = .bool true := hd 108 (by decide)
      have e3 : a.eval (.tmp 3) = .int .i64 a3 := hd 3 (by decide)
      exact hop_runK (F := (StK.eq (.int .i64 a3)).F) (wanted_yes rfl rfl rfl eg) _ (run_mv _ (.inl rfl) e3) rfl
    · intro a w hb hd
      have eg : a.eval (.tmp 108) = .bool true := hd 108 (by decide)
      have e110 : a.eval (.tmp 110) = .int .i64 a3 := hd 110 (by decide)
      exact hop_callK (F := (StK.eq (.int .i64 Q)).F) (wanted_yes rfl rfl rfl eg) hb.size rfl #[a.eval (.tmp 110), .int .i64 9] (by first | (simp only [List.map_toArray, List.map_cons, List.map_nil]; done) | (simp only [List.map_toArray, List.map_cons, List.map_nil]; rfl)) (enters_of Try.func20 (by kernel_rfl) rfl) (by rw [e110]; exact call_eq (within_eq hQ.out (by omega) (by omega) hk3 hl3 w))
    · intro a w hb hd
      have eg : a.eval (.tmp 108) = .bool true := hd 108 (by decide)
      have e111 : a.eval (.tmp 111) = .int .i64 Q := hd 111 (by decide)
      exact hop_runK (F := (StK.eq (.int .i64 (1001 + Q))).F) (wanted_yes rfl rfl rfl eg) _ (run_addI _ _ rfl rfl e111 rfl (by omega) (by omega)) rfl
    · intro a w hb hd
      have eg : a.eval (.tmp 108) = .bool true := hd 108 (by decide)
      have e109 : a.eval (.tmp 109) = .slice A0 n0 cap0 := hd 109 (by decide)
      have e112 : a.eval (.tmp 112) = .int .i64 (1001 + Q) := hd 112 (by decide)
      exact hop_callK (F := (StK.eq (.slice none 0 0)).F) (wanted_yes rfl rfl rfl eg) hb.size rfl #[a.eval (.tmp 109), a.eval (.tmp 112)] (by first | (simp only [List.map_toArray, List.map_cons, List.map_nil]; done) | (simp only [List.map_toArray, List.map_cons, List.map_nil]; rfl)) (enters_of Try.func28 (by kernel_rfl) rfl) (by rw [e109]; rw [e112]; exact call_eq (stream_out A0 n0 cap0 (1001 + Q) (by omega) w))
    · intro a w hb hd
      have eg : a.eval (.tmp 108) = .bool true := hd 108 (by decide)
      have e113 : a.eval (.tmp 113) = .slice none 0 0 := hd 113 (by decide)
      exact hop_runK (F := (StK.eq (.int .i64 0)).F) (wanted_yes rfl rfl rfl eg) _ (run_ln _ _ rfl e113 Try.underlying29) rfl
    · intro a w hb hd
      have eg : a.eval (.tmp 108) = .bool true := hd 108 (by decide)
      have e114 : a.eval (.tmp 114) = .int .i64 0 := hd 114 (by decide)
      exact hop_runK (F := (StK.eq (.bool true)).F) (wanted_yes rfl rfl rfl eg) _ (run_eqI _ _ rfl e114 rfl (show ((0 : Int) == 0) = true from rfl)) rfl
    · intro a w hb hd
      have e108 : a.eval (.tmp 108) = .bool true := hd 108 (by decide)
      have e115 : a.eval (.tmp 115) = .bool true := hd 115 (by decide)
      exact hop_runK (F := (StK.eq (.bool true)).F) (wanted_none rfl) (.bool true) (run_pick_t rfl e108 e115) rfl
    · intro a w hb hd
      have e116 : a.eval (.tmp 116) = .bool true := hd 116 (by decide)
      exact hop_runK (F := (StK.eq (.bool true)).F) (wanted_none rfl) _ (run_mv _ (.inr rfl) e116) rfl
    intro pw9 w9 bw9 hp
    obtain ⟨-, -, -, -, -, -, -, -, -, -, -, -, -, -, -, -, -, -, -, -, -, -, -, -, -, -, -, -, -, -, -, -, -, -, -, -, -, -, -, -, -, -, -, -, -, -, -, -, -, -, -, -, -, -, -, q55, -⟩ := hp
    have e55 : pw9 55 = .bool true := q55 (by decide)
    simp only [List.take_succ_cons, List.take_zero, List.drop_succ_cons, List.drop_zero, layAll, Act.put, List.setIfInBounds_toArray, List.set_cons_zero, List.set_cons_succ, Nat.zero_add, Nat.reduceAdd, e55]
    clear q55 e55
    go_wp2
    go_ret
    exact ⟨rfl, step_trans B8 bw9⟩
end Go.Proofs.Ytajombnckgehbaa
