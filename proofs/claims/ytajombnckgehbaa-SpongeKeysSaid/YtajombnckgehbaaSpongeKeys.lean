/- sentinellaw3.SpongeKeys: the walk. -/
import Derived.Test.YtajombnckgehbaaSReg
import Derived.Test.YtajombnckgehbaaGenZ
namespace Go.Proofs.Ytajombnckgehbaa
set_option linter.unusedVariables false
set_option linter.unusedSimpArgs false
open Go.ChangeShapes Go.WideShapes Go.ChangeAt Go.RowKit Go.Shelf
set_option maxRecDepth 100000 in
set_option maxHeartbeats 16000000 in
theorem SpongeKeys_walk (A0 : Option Addr) (n0 cap0 : Nat) (l0 : List UInt8) (hn0 : l0.length = n0) (hc0 : n0 ≤ cap0) (hm0 : cap0 ≤ maxLen) (hz0 : A0 = none → cap0 = 0)
    (a1 : Int) (hk1 : -9223372036854775808 ≤ a1) (hl1 : a1 < 9223372036854775808)
    (A2 : Option Addr) (n2 cap2 : Nat) (l2 : List UInt8) (hn2 : l2.length = n2) (hc2 : n2 ≤ cap2) (hm2 : cap2 ≤ maxLen) (hz2 : A2 = none → cap2 = 0) (w : World) (hr0 : Rd w A0 l0) (hr2 : Rd w A2 l2) :
    Calls Try.prog 14 #[.slice A0 n0 cap0, .int .i64 a1, .slice A2 n2 cap2] w fun e w' => e = .returned (.bool true) ∧ Below w.heap.size w w' := by
  go_enter Try.func14, Try.ntmps14
  go_wp2_with fail
  refine (known_any _).mono ?_
  rintro e w1 ⟨rfl, b1⟩
  by_cases g0 : 60 < n0
  · go_wp2
    go_ret
    exact ⟨rfl, b1⟩
  by_cases g2 : 100 < n2
  · go_wp2
    go_ret
    exact ⟨rfl, b1⟩
  have he := byt_empty w1
  have r0a := (hr0.step b1).step (step_alloc w1 (.cells #[] 5))
  obtain ⟨K, hK⟩ : ∃ K : Nat, Hid (a1 % 20 = (K : Int)) := ⟨(a1 % 20).toNat, hid (by omega)⟩
  have hK20 : K < 20 := by have := hK.out; omega
  have C0 := hid hz0
  have C2 := hid hz2
  go_wp2_with (refine wpList_append_bytes rfl (.tmp 18) (.tmp 19) rfl w1.heap.size _ _ l0 rfl he A0 n0 cap0 rfl hn0 C0.out r0a (by rw [hn0]; simp; omega) (by simp) ?_; intro v2 w2 h2 k2 g2')
  have B2 : Below w1.heap.size w1 w2 := step_app3 k2 (Nat.le_refl _)
  rw [List.nil_append] at h2
  clear he r0a k2 g2'
  refine (within_any a1 20 (by omega) (by omega) hk1 hl1 _).mono ?_
  rintro e w3 ⟨rfl, rfl⟩
  rw [hK.out]
  go_upto_region 6 with (refine wpList_append_zeros rfl (.tmp 20) (.tmp 22) rfl w1.heap.size _ l0 rfl h2 K rfl (by rw [hn0]; omega) B2.size ?_; intro v4 w4 h4 k4)
  have B4 : Below w1.heap.size w1 w4 := B2.trans k4
  have i4 := h4.isB
  have i0 := ((hr0.step b1).step B4).isB' hn0 hc0 hm0 C0.out
  have i2 := ((hr2.step b1).step B4).isB' hn2 hc2 hm2 C2.out
  have D4 := step_trans b1 B4
  have hL : Hid ((l0 ++ List.replicate K (0 : UInt8)).length ≤ 2000) := hid (by simp; omega)
  have hb0 : Hid (l0.length ≤ 2000 ∧ l2.length ≤ 2000) := hid (by omega)
  have hP1 : Hid ((∀ l ∈ ([l2] : List (List UInt8)), l.length ≤ 2000) ∧ (cat [l2]).length ≤ 5000) := hid ⟨fun l hl => by rw [List.mem_singleton.1 hl]; exact hb0.out.2, by simp [cat, eightL_len]; omega⟩
  obtain ⟨F, hF⟩ : ∃ F, Hid (macW (l0 ++ List.replicate K 0) [l2] = F) := ⟨_, hid rfl⟩
  obtain ⟨G, hG⟩ : ∃ F, Hid (macW l0 [l2] = F) := ⟨_, hid rfl⟩
  obtain ⟨H, hH⟩ : ∃ F, Hid (macW [] [l2, l0] = F) := ⟨_, hid rfl⟩
  obtain ⟨KL, hKL⟩ : ∃ L, Hid (l0 ++ List.replicate K 0 = L) := ⟨_, hid rfl⟩
  rw [hKL.out] at i4 hL hF
  clear h2 h4 B2 k4 B4 b1
  refine wp_region_stU ((StK.bytes (KL)) :: (StK.bytes (l2)) :: (StK.parts ([l2])) :: (StK.eq (.agg (arr16 (outF F)))) :: (StK.bytes (KL)) :: (StK.bytes (l2)) :: (StK.parts ([l2])) :: (StK.eq (.agg (arr16 (outF F)))) :: (StK.eq (.bool true)) :: (StK.eq (.bool true)) :: (StK.bytes (l0)) :: (StK.bytes (l2)) :: (StK.parts ([l2])) :: (StK.eq (.agg (arr16 (outF G)))) :: (StK.bytes (l0)) :: (StK.bytes (l2)) :: (StK.parts ([l2])) :: (StK.eq (.agg (arr16 (outF G)))) :: (StK.eq (.bool true)) :: (StK.eq (.bool true)) :: (StK.eq (.bool true)) :: (StK.bytes (l2)) :: (StK.bytes (l0)) :: (StK.parts ([l2, l0])) :: (StK.eq (.agg (arr16 (outF H)))) :: (StK.bytes (l2)) :: (StK.bytes (l0)) :: (StK.parts ([l2, l0])) :: (StK.eq (.agg (arr16 (outF H)))) :: (StK.eq (.bool true)) :: (StK.eq (.bool true)) :: (StK.eq (.bool true)) :: []) 32 55 rfl (by kernel_rfl) (by decide) ⟨?_, ?_, ?_, ?_, ?_, ?_, ?_, ?_, ?_, ?_, ?_, ?_, ?_, ?_, ?_, ?_, ?_, ?_, ?_, ?_, ?_, ?_, ?_, ?_, ?_, ?_, ?_, ?_, ?_, ?_, ?_, ?_, trivial⟩ ?_
  · intro a w hb hd
    have e7 : IsB w (KL) (a.eval (.tmp 7)) := by rw [show a.eval (.tmp 7) = v4 from hd 7 (by decide)]; exact (i4).step hb
    exact hop_runK (F := (StK.bytes (KL)).F) (wanted_none rfl) _ (run_mv _ (.inl rfl) rfl) e7
  · intro a w hb hd
    have e2 : IsB w (l2) (a.eval (.tmp 2)) := by rw [show a.eval (.tmp 2) = .slice A2 n2 cap2 from hd 2 (by decide)]; exact (i2).step hb
    exact hop_runK (F := (StK.bytes (l2)).F) (wanted_none rfl) _ (run_mv _ (.inl rfl) rfl) e2
  · intro a w hb hd
    have e25 : IsB w (l2) (a.eval (.tmp 25)) := hd 25 (by decide)
    exact hop_parts1 (wanted_none rfl) hb.size (.tmp 25) rfl e25
  · intro a w hb hd
    have e24 : IsB w (KL) (a.eval (.tmp 24)) := hd 24 (by decide)
    have e26 : IsP w ([l2]) (a.eval (.tmp 26)) := hd 26 (by decide)
    exact hop_callK (F := (StK.eq (.agg (arr16 (outF F)))).F) (wanted_none rfl) hb.size rfl #[a.eval (.tmp 24), a.eval (.tmp 26)] (by first | (simp only [List.map_toArray, List.map_cons, List.map_nil]; done) | (simp only [List.map_toArray, List.map_cons, List.map_nil]; rfl)) (enters_of Try.func24 (by kernel_rfl) rfl) (by exact call_eq (by have := mac_b e24 e26; rw [hF.out] at this; exact this))
  · intro a w hb hd
    have e7 : IsB w (KL) (a.eval (.tmp 7)) := by rw [show a.eval (.tmp 7) = v4 from hd 7 (by decide)]; exact (i4).step hb
    exact hop_runK (F := (StK.bytes (KL)).F) (wanted_none rfl) _ (run_mv _ (.inl rfl) rfl) e7
  · intro a w hb hd
    have e2 : IsB w (l2) (a.eval (.tmp 2)) := by rw [show a.eval (.tmp 2) = .slice A2 n2 cap2 from hd 2 (by decide)]; exact (i2).step hb
    exact hop_runK (F := (StK.bytes (l2)).F) (wanted_none rfl) _ (run_mv _ (.inl rfl) rfl) e2
  · intro a w hb hd
    have e29 : IsB w (l2) (a.eval (.tmp 29)) := hd 29 (by decide)
    exact hop_parts1 (wanted_none rfl) hb.size (.tmp 29) rfl e29
  · intro a w hb hd
    have e28 : IsB w (KL) (a.eval (.tmp 28)) := hd 28 (by decide)
    have e30 : IsP w ([l2]) (a.eval (.tmp 30)) := hd 30 (by decide)
    exact hop_callK (F := (StK.eq (.agg (arr16 (outF F)))).F) (wanted_none rfl) hb.size rfl #[a.eval (.tmp 28), a.eval (.tmp 30)] (by first | (simp only [List.map_toArray, List.map_cons, List.map_nil]; done) | (simp only [List.map_toArray, List.map_cons, List.map_nil]; rfl)) (enters_of Try.func25 (by kernel_rfl) rfl) (by exact call_eq (by have := rmac_b e28 e30 hL.out (by simp) hP1.out.1 hP1.out.2; rw [hF.out] at this; exact this))
  · intro a w hb hd
    have e27 : a.eval (.tmp 27) = .agg (arr16 (outF F)) := hd 27 (by decide)
    have e31 : a.eval (.tmp 31) = .agg (arr16 (outF F)) := hd 31 (by decide)
    exact hop_runK (F := (StK.eq (.bool true)).F) (wanted_none rfl) _ (run_eq16 _ _ rfl (outF F) e27 e31) rfl
  · intro a w hb hd
    have e32 : a.eval (.tmp 32) = .bool true := hd 32 (by decide)
    exact hop_runK (F := (StK.eq (.bool true)).F) (wanted_none rfl) _ (run_mv _ (.inl rfl) e32) rfl
  · intro a w hb hd
    have eg : a.eval (.tmp 33) = .bool true := hd 33 (by decide)
    have e0 : IsB w (l0) (a.eval (.tmp 0)) := by rw [show a.eval (.tmp 0) = .slice A0 n0 cap0 from hd 0 (by decide)]; exact (i0).step hb
    exact hop_runK (F := (StK.bytes (l0)).F) (wanted_yes rfl rfl rfl eg) _ (run_mv _ (.inl rfl) rfl) e0
  · intro a w hb hd
    have eg : a.eval (.tmp 33) = .bool true := hd 33 (by decide)
    have e2 : IsB w (l2) (a.eval (.tmp 2)) := by rw [show a.eval (.tmp 2) = .slice A2 n2 cap2 from hd 2 (by decide)]; exact (i2).step hb
    exact hop_runK (F := (StK.bytes (l2)).F) (wanted_yes rfl rfl rfl eg) _ (run_mv _ (.inl rfl) rfl) e2
  · intro a w hb hd
    have eg : a.eval (.tmp 33) = .bool true := hd 33 (by decide)
    have e35 : IsB w (l2) (a.eval (.tmp 35)) := hd 35 (by decide)
    exact hop_parts1 (wanted_yes rfl rfl rfl eg) hb.size (.tmp 35) rfl e35
  · intro a w hb hd
    have eg : a.eval (.tmp 33) = .bool true := hd 33 (by decide)
    have e34 : IsB w (l0) (a.eval (.tmp 34)) := hd 34 (by decide)
    have e36 : IsP w ([l2]) (a.eval (.tmp 36)) := hd 36 (by decide)
    exact hop_callK (F := (StK.eq (.agg (arr16 (outF G)))).F) (wanted_yes rfl rfl rfl eg) hb.size rfl #[a.eval (.tmp 34), a.eval (.tmp 36)] (by first | (simp only [List.map_toArray, List.map_cons, List.map_nil]; done) | (simp only [List.map_toArray, List.map_cons, List.map_nil]; rfl)) (enters_of Try.func24 (by kernel_rfl) rfl) (by exact call_eq (by have := mac_b e34 e36; rw [hG.out] at this; exact this))
  · intro a w hb hd
    have eg : a.eval (.tmp 33) = .bool true := hd 33 (by decide)
    have e0 : IsB w (l0) (a.eval (.tmp 0)) := by rw [show a.eval (.tmp 0) = .slice A0 n0 cap0 from hd 0 (by decide)]; exact (i0).step hb
    exact hop_runK (F := (StK.bytes (l0)).F) (wanted_yes rfl rfl rfl eg) _ (run_mv _ (.inl rfl) rfl) e0
  · intro a w hb hd
    have eg : a.eval (.tmp 33) = .bool true := hd 33 (by decide)
    have e2 : IsB w (l2) (a.eval (.tmp 2)) := by rw [show a.eval (.tmp 2) = .slice A2 n2 cap2 from hd 2 (by decide)]; exact (i2).step hb
    exact hop_runK (F := (StK.bytes (l2)).F) (wanted_yes rfl rfl rfl eg) _ (run_mv _ (.inl rfl) rfl) e2
  · intro a w hb hd
    have eg : a.eval (.tmp 33) = .bool true := hd 33 (by decide)
    have e39 : IsB w (l2) (a.eval (.tmp 39)) := hd 39 (by decide)
    exact hop_parts1 (wanted_yes rfl rfl rfl eg) hb.size (.tmp 39) rfl e39
  · intro a w hb hd
    have eg : a.eval (.tmp 33) = .bool true := hd 33 (by decide)
    have e38 : IsB w (l0) (a.eval (.tmp 38)) := hd 38 (by decide)
    have e40 : IsP w ([l2]) (a.eval (.tmp 40)) := hd 40 (by decide)
    exact hop_callK (F := (StK.eq (.agg (arr16 (outF G)))).F) (wanted_yes rfl rfl rfl eg) hb.size rfl #[a.eval (.tmp 38), a.eval (.tmp 40)] (by first | (simp only [List.map_toArray, List.map_cons, List.map_nil]; done) | (simp only [List.map_toArray, List.map_cons, List.map_nil]; rfl)) (enters_of Try.func25 (by kernel_rfl) rfl) (by exact call_eq (by have := rmac_b e38 e40 hb0.out.1 (by simp) hP1.out.1 hP1.out.2; rw [hG.out] at this; exact this))
  · intro a w hb hd
    have eg : a.eval (.tmp 33) = .bool true := hd 33 (by decide)
    have e37 : a.eval (.tmp 37) = .agg (arr16 (outF G)) := hd 37 (by decide)
    have e41 : a.eval (.tmp 41) = .agg (arr16 (outF G)) := hd 41 (by decide)
    exact hop_runK (F := (StK.eq (.bool true)).F) (wanted_yes rfl rfl rfl eg) _ (run_eq16 _ _ rfl (outF G) e37 e41) rfl
  · intro a w hb hd
    have e33 : a.eval (.tmp 33) = .bool true := hd 33 (by decide)
    have e42 : a.eval (.tmp 42) = .bool true := hd 42 (by decide)
    exact hop_runK (F := (StK.eq (.bool true)).F) (wanted_none rfl) (.bool true) (run_pick_t rfl e33 e42) rfl
  · intro a w hb hd
    have e43 : a.eval (.tmp 43) = .bool true := hd 43 (by decide)
    exact hop_runK (F := (StK.eq (.bool true)).F) (wanted_none rfl) _ (run_mv _ (.inl rfl) e43) rfl
  · intro a w hb hd
    have eg : a.eval (.tmp 44) = .bool true := hd 44 (by decide)
    have e2 : IsB w (l2) (a.eval (.tmp 2)) := by rw [show a.eval (.tmp 2) = .slice A2 n2 cap2 from hd 2 (by decide)]; exact (i2).step hb
    exact hop_runK (F := (StK.bytes (l2)).F) (wanted_yes rfl rfl rfl eg) _ (run_mv _ (.inl rfl) rfl) e2
  · intro a w hb hd
    have eg : a.eval (.tmp 44) = .bool true := hd 44 (by decide)
    have e0 : IsB w (l0) (a.eval (.tmp 0)) := by rw [show a.eval (.tmp 0) = .slice A0 n0 cap0 from hd 0 (by decide)]; exact (i0).step hb
    exact hop_runK (F := (StK.bytes (l0)).F) (wanted_yes rfl rfl rfl eg) _ (run_mv _ (.inl rfl) rfl) e0
  · intro a w hb hd
    have eg : a.eval (.tmp 44) = .bool true := hd 44 (by decide)
    have e45 : IsB w (l2) (a.eval (.tmp 45)) := hd 45 (by decide)
    have e46 : IsB w (l0) (a.eval (.tmp 46)) := hd 46 (by decide)
    exact hop_parts2 (wanted_yes rfl rfl rfl eg) hb.size (.tmp 45) (.tmp 46) rfl e45 e46
  · intro a w hb hd
    have eg : a.eval (.tmp 44) = .bool true := hd 44 (by decide)
    have e47 : IsP w ([l2, l0]) (a.eval (.tmp 47)) := hd 47 (by decide)
    exact hop_callK (F := (StK.eq (.agg (arr16 (outF H)))).F) (wanted_yes rfl rfl rfl eg) hb.size rfl #[.slice none 0 0, a.eval (.tmp 47)] (by first | (simp only [List.map_toArray, List.map_cons, List.map_nil]; done) | (simp only [List.map_toArray, List.map_cons, List.map_nil]; rfl)) (enters_of Try.func24 (by kernel_rfl) rfl) (by exact call_eq (by have := mac_b (IsB.nil w) e47; rw [hH.out] at this; exact this))
  · intro a w hb hd
    have eg : a.eval (.tmp 44) = .bool true := hd 44 (by decide)
    have e2 : IsB w (l2) (a.eval (.tmp 2)) := by rw [show a.eval (.tmp 2) = .slice A2 n2 cap2 from hd 2 (by decide)]; exact (i2).step hb
    exact hop_runK (F := (StK.bytes (l2)).F) (wanted_yes rfl rfl rfl eg) _ (run_mv _ (.inl rfl) rfl) e2
  · intro a w hb hd
    have eg : a.eval (.tmp 44) = .bool true := hd 44 (by decide)
    have e0 : IsB w (l0) (a.eval (.tmp 0)) := by rw [show a.eval (.tmp 0) = .slice A0 n0 cap0 from hd 0 (by decide)]; exact (i0).step hb
    exact hop_runK (F := (StK.bytes (l0)).F) (wanted_yes rfl rfl rfl eg) _ (run_mv _ (.inl rfl) rfl) e0
  · intro a w hb hd
    have eg : a.eval (.tmp 44) = .bool true := hd 44 (by decide)
    have e49 : IsB w (l2) (a.eval (.tmp 49)) := hd 49 (by decide)
    have e50 : IsB w (l0) (a.eval (.tmp 50)) := hd 50 (by decide)
    exact hop_parts2 (wanted_yes rfl rfl rfl eg) hb.size (.tmp 49) (.tmp 50) rfl e49 e50
  · intro a w hb hd
    have eg : a.eval (.tmp 44) = .bool true := hd 44 (by decide)
    have e51 : IsP w ([l2, l0]) (a.eval (.tmp 51)) := hd 51 (by decide)
    exact hop_callK (F := (StK.eq (.agg (arr16 (outF H)))).F) (wanted_yes rfl rfl rfl eg) hb.size rfl #[a.eval (.tmp 51)] (by first | (simp only [List.map_toArray, List.map_cons, List.map_nil]; done) | (simp only [List.map_toArray, List.map_cons, List.map_nil]; rfl)) (enters_of Try.func26 (by kernel_rfl) rfl) (by exact call_eq (by have := of_b e51; rw [hH.out] at this; exact this))
  · intro a w hb hd
    have eg : a.eval (.tmp 44) = .bool true := hd 44 (by decide)
    have e48 : a.eval (.tmp 48) = .agg (arr16 (outF H)) := hd 48 (by decide)
    have e52 : a.eval (.tmp 52) = .agg (arr16 (outF H)) := hd 52 (by decide)
    exact hop_runK (F := (StK.eq (.bool true)).F) (wanted_yes rfl rfl rfl eg) _ (run_eq16 _ _ rfl (outF H) e48 e52) rfl
  · intro a w hb hd
    have e44 : a.eval (.tmp 44) = .bool true := hd 44 (by decide)
    have e53 : a.eval (.tmp 53) = .bool true := hd 53 (by decide)
    exact hop_runK (F := (StK.eq (.bool true)).F) (wanted_none rfl) (.bool true) (run_pick_t rfl e44 e53) rfl
  · intro a w hb hd
    have e54 : a.eval (.tmp 54) = .bool true := hd 54 (by decide)
    exact hop_runK (F := (StK.eq (.bool true)).F) (wanted_none rfl) _ (run_mv _ (.inr rfl) e54) rfl
  intro pw6 w6 bw6 hp
  obtain ⟨-, -, -, -, -, -, -, -, -, -, -, -, -, -, -, -, -, -, -, -, -, -, -, -, -, -, -, -, -, -, -, q31, -⟩ := hp
  have e31 : pw6 31 = .bool true := q31 (by decide)
  simp only [List.take_succ_cons, List.take_zero, List.drop_succ_cons, List.drop_zero, layAll, Act.put, List.setIfInBounds_toArray, List.set_cons_zero, List.set_cons_succ, Nat.zero_add, Nat.reduceAdd, e31]
  clear q31 e31
  go_wp2
  go_ret
  exact ⟨rfl, step_trans D4 bw6⟩
end Go.Proofs.Ytajombnckgehbaa
