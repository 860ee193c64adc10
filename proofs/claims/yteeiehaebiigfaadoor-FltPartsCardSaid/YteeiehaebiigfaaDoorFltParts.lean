/-
  The law FltParts of package lodgelaw3, walked. By an AI agent. No person has read it.
-/
import Derived.Test.YteeiehaebiigfaaDoorFltU
import Derived.Test.YteeiehaebiigfaaDoorFltY
import Derived.Test.YteeiehaebiigfaaDoorFltRm
import Derived.Test.YteeiehaebiigfaaDoorFltM
import Derived.Test.YteeiehaebiigfaaDoorFltR
namespace Go.Proofs.YteeiehaebiigfaaDoor
open Go.RowKit

theorem parts_lt (b : Nat) : -9007199254740992 < (Flt.parts b).1 ∧ (Flt.parts b).1 < 9007199254740992 := by
  have hsl := sig_lt b
  have hod : Flt.odd b ≤ Flt.sig b := Nat.div_le_self _ _
  unfold Flt.parts
  split
  · simp
  · split
    · simp
    · dsimp only
      split <;> omega
theorem parts_odd (b : Nat) (h7 : Flt.expo b ≠ 2047) (hs : Flt.sig b ≠ 0) : (Flt.parts b).2.2 = true ∧ (Flt.parts b).1 ≠ 0 ∧ ((Flt.parts b).1.tmod 2 = 1 ∨ (Flt.parts b).1.tmod 2 = -1) := by
  have hsl := sig_lt b
  obtain ⟨c1, c2, c3⟩ := ctz_log (Flt.sig b) hs (by omega)
  have hod : Flt.odd b = Flt.sig b / 2 ^ Lib.ctz 64 (Flt.sig b) := rfl
  rw [← hod] at c3
  unfold Flt.parts
  rw [if_neg h7, if_neg hs]
  dsimp only
  refine ⟨rfl, by split <;> omega, ?_⟩
  split
  · right
    rw [Int.neg_tmod, Int.tmod_eq_emod_of_nonneg (by omega)]
    omega
  · left
    rw [Int.tmod_eq_emod_of_nonneg (by omega)]
    omega

set_option maxRecDepth 100000 in
set_option maxHeartbeats 4000000 in
theorem partslaw_c (x : Nat) (hx : x < 18446744073709551616) (m e : Int) (h1 : -9223372036854775808 ≤ m) (h2 : m ≤ 9223372036854775807) (w : World) (hT : Tz w) :
    Calls Tryd.prog 6 #[.float .f64 x, .int .i64 m, .int .i64 e] w fun e' w' => e' = .returned (.bool true) ∧ w' = w := by
  have H0 := hide (first_c w hT)
  have h3 := parts_c x hx w hT
  have h4 := refparts_c x hx w
  have h5 := make_c m e h1 h2 w
  have h6 := refmake_c m e h1 h2 w
  have h7 := same_c (Flt.mk m e) (Flt.mk m e) w
  rw [Flt.same_self] at h7
  obtain ⟨X, hX⟩ : ∃ X, Hid (Flt.mk m e = X) := ⟨_, hide rfl⟩
  rw [hX.out] at h5 h6 h7
  have H5 := hide h5
  have H6 := hide h6
  have H7 := hide h7
  clear h5 h6 h7 hX
  obtain ⟨hl1, hl2⟩ := parts_lt x
  by_cases c1 : Flt.expo x = 2047
  · have hp : Flt.parts x = (0, 0, false) := by unfold Flt.parts; rw [if_pos c1]
    rw [hp] at h3 h4
    have H3 := hide h3
    have H4 := hide h4
    clear h3 h4 hp c1 hl1 hl2
    go_enter Tryd.func6, Tryd.ntmps6
    go_wp2_with fail
    refine H0.out.mono ?_
    rintro e' w1 ⟨rfl, rfl⟩
    go_wp2_with fail
    refine H3.out.mono ?_
    rintro e' w1 ⟨rfl, rfl⟩
    go_wp2_with fail
    refine H4.out.mono ?_
    rintro e' w1 ⟨rfl, rfl⟩
    go_wp2_with fail
    refine H5.out.mono ?_
    rintro e' w1 ⟨rfl, rfl⟩
    go_wp2_with fail
    refine H6.out.mono ?_
    rintro e' w1 ⟨rfl, rfl⟩
    go_wp2_with fail
    refine H7.out.mono ?_
    rintro e' w1 ⟨rfl, rfl⟩
    go_wp2_with fail
    go_ret
    exact ⟨rfl, rfl⟩
  by_cases c2 : Flt.sig x = 0
  · have hp : Flt.parts x = (0, 0, true) := by unfold Flt.parts; rw [if_neg c1, if_pos c2]
    rw [hp] at h3 h4
    have he : Flt.expo x = 0 := by
      unfold Flt.sig at c2
      split at c2
      · assumption
      · omega
    have hf : Flt.frac x = 0 := by
      unfold Flt.sig at c2
      rw [if_pos he] at c2
      exact c2
    have hx0 : x = 0 ∨ x = 9223372036854775808 := by
      have := Flt.split_word x hx
      rw [he, hf] at this
      split at this <;> omega
    have ho : FloatKind.f64.format.order 0 x = some .eq := by
      rcases hx0 with h | h <;> rw [h] <;> decide +kernel
    have h8 := make_c 0 0 (by decide) (by decide) w
    rw [show Flt.mk 0 0 = 0 from if_pos rfl] at h8
    have H8 := hide h8
    have H3 := hide h3
    have H4 := hide h4
    clear h3 h4 hp c1 c2 he hf hx0 h8 hl1 hl2
    go_enter Tryd.func6, Tryd.ntmps6
    go_wp2_with fail
    refine H0.out.mono ?_
    rintro e' w1 ⟨rfl, rfl⟩
    go_wp2_with fail
    refine H3.out.mono ?_
    rintro e' w1 ⟨rfl, rfl⟩
    go_wp2_with fail
    refine H4.out.mono ?_
    rintro e' w1 ⟨rfl, rfl⟩
    go_wp2_with fail
    refine H5.out.mono ?_
    rintro e' w1 ⟨rfl, rfl⟩
    go_wp2_with fail
    refine H6.out.mono ?_
    rintro e' w1 ⟨rfl, rfl⟩
    go_wp2_with fail
    refine H7.out.mono ?_
    rintro e' w1 ⟨rfl, rfl⟩
    go_wp2_with fail
    refine H8.out.mono ?_
    rintro e' w1 ⟨rfl, rfl⟩
    go_wp2_with fail
    go_ret
    exact ⟨rfl, rfl⟩
  · obtain ⟨p1, p2, p3⟩ := parts_odd x c1 c2
    have hmk := make_parts x hx c1 c2
    have h8 := make_c (Flt.parts x).1 (Flt.parts x).2.1 (by omega) (by omega) w
    rw [hmk] at h8
    have hnn : Flt.nanb x = false := by
      unfold Flt.nanb
      unfold Flt.expo at c1
      rw [decide_eq_false_iff_not]
      have h9 : x % 9223372036854775808 / 4503599627370496 < 2048 := by omega
      omega
    have ho := order_num' hnn
    rw [p1] at h3 h4
    obtain ⟨a, ha⟩ : ∃ a, Hid ((Flt.parts x).1 = a) := ⟨_, hide rfl⟩
    obtain ⟨b, hb⟩ : ∃ a, Hid ((Flt.parts x).2.1 = a) := ⟨_, hide rfl⟩
    rw [ha.out] at h3 h4 h8 p2 p3
    rw [hb.out] at h3 h4 h8
    have ha0 : (a == 0) = false := by simp; exact p2
    have ha1 : (a.tmod 2 != 0) = true := by
      rcases p3 with h | h <;> rw [h] <;> decide
    have H8 := hide h8
    have H3 := hide h3
    have H4 := hide h4
    clear h3 h4 h8 c1 c2 p1 p3 hmk hnn hl1 hl2
    go_enter Tryd.func6, Tryd.ntmps6
    go_wp2_with fail
    refine H0.out.mono ?_
    rintro e' w1 ⟨rfl, rfl⟩
    go_wp2_with fail
    refine H3.out.mono ?_
    rintro e' w1 ⟨rfl, rfl⟩
    go_wp2_with fail
    refine H4.out.mono ?_
    rintro e' w1 ⟨rfl, rfl⟩
    go_wp2_with fail
    refine H5.out.mono ?_
    rintro e' w1 ⟨rfl, rfl⟩
    go_wp2_with fail
    refine H6.out.mono ?_
    rintro e' w1 ⟨rfl, rfl⟩
    go_wp2_with fail
    refine H7.out.mono ?_
    rintro e' w1 ⟨rfl, rfl⟩
    go_wp2_with fail
    refine H8.out.mono ?_
    rintro e' w1 ⟨rfl, rfl⟩
    go_wp2_with fail
    go_ret
    exact ⟨rfl, rfl⟩
end Go.Proofs.YteeiehaebiigfaaDoor
