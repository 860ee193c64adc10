/-
  The law QuantTells of package lodgelaw4. By an AI agent. No person has read it.
-/
import Derived.Test.YtboighnmgnjhdaaDoorQuaF
import Derived.Test.YtboighnmgnjhdaaDoorQuaJ
import Derived.Test.YtboighnmgnjhdaaDoorFltLd
namespace Go.Proofs.YtboighnmgnjhdaaDoor
open Go.RowKit
set_option maxRecDepth 100000 in
set_option maxHeartbeats 4000000 in
theorem tellslaw_c (a : Nat) (ha : a < 18446744073709551616) (ar : Addr) (w : World) (hE : ErrIs w 1 ar) :
    Calls Tryd.prog 10 #[.float .f64 a] w fun e w' => e = .returned (.bool true) ∧ Below w.heap.size w w' := by
  have HF := hide qfirst_c
  by_cases hin : Qua.inr a = true
  case pos =>
    have hb : 4472074429978902528 ≤ a ∧ a ≤ 4742290407621132288 := by simpa [Qua.inr] using hin
    have H1 := hide (qfixed_in a hb.1 hb.2)
    obtain ⟨M, s, r, hfx, hM1, hM2, hs, hsub, hr, hord⟩ := tells_facts a hb.1 hb.2
    rw [hfx] at H1
    dsimp only at H1
    have hmk := mk_31 M hM1 (by omega)
    obtain ⟨-, -, he, hf, hn, hl⟩ := mag_norm 1053 (M * 4194304 - 4503599627370496) (by decide) (by decide) (by omega)
    have hfl := float_of_any (M : Int)
    rw [hmk] at hfl
    have L1 := hide (ldexp_c (1053 * 4503599627370496 + (M * 4194304 - 4503599627370496)) (-(s : Int)) (by omega) (by omega) (by omega) (1053 - s) (by omega) (by omega) (by omega) (by omega) (by omega))
    have L2 := hide (ldexp_c 4602678819172646912 (-(s : Int)) (by decide) (by decide) (by decide) (1022 - s) (by rw [show Flt.expo 4602678819172646912 = 1022 by decide]; omega) (by omega) (by omega) (by omega) (by omega))
    rw [hn, hf, if_neg (by decide), Nat.zero_add] at L1
    rw [show Flt.neg 4602678819172646912 = false by decide, show Flt.frac 4602678819172646912 = 0 by decide, if_neg (by decide), Nat.zero_add, Nat.add_zero] at L2
    have HA := hide (abs_c r hr)
    obtain ⟨f0, hf0⟩ : ∃ x, Hid (1053 * 4503599627370496 + (M * 4194304 - 4503599627370496) = x) := ⟨_, hide rfl⟩
    obtain ⟨x, hx⟩ : ∃ x, Hid ((1053 - s) * 4503599627370496 + (M * 4194304 - 4503599627370496) = x) := ⟨_, hide rfl⟩
    obtain ⟨h, hh⟩ : ∃ x, Hid ((1022 - s) * 4503599627370496 = x) := ⟨_, hide rfl⟩
    obtain ⟨q, hq⟩ : ∃ x, Hid (r % 9223372036854775808 = x) := ⟨_, hide rfl⟩
    rw [hf0.out] at L1 hfl
    rw [hx.out] at L1 hsub
    rw [hh.out] at L2 hord
    rw [hq.out] at HA hord
    have hsb : ∀ w : World, (binOp .sub 27 (.float .f64 x) (.float .f64 a)).run Tryd.prog w = .ok (.float .f64 r) w := fun w => run_float_arith (P := Tryd.prog) w .sub 27 .f64 _ _ _ hsub
    have s1 : IntKind.i64.wrap (-(s : Int)) = -(s : Int) := iwrap_small _ (by omega) (by omega)
    have c1 : (1073741824 : Int) ≤ (M : Int) := by omega
    have c2 : (M : Int) ≤ 2147483647 := by omega
    have c3 : (0 : Int) ≤ (s : Int) := by omega
    have c4 : (s : Int) ≤ 60 := by omega
    have HO : Hid (FloatKind.f64.format.order q h = some .lt ∨ FloatKind.f64.format.order q h = some .eq) := hide hord
    clear hf0 hx hh hq hfx hmk he hf hn hl hin hb hsub hr hM1 hM2 hs ha hE hord
    rcases HO.out with o | o
    all_goals
      go_enter Tryd.func10, Tryd.ntmps10
      go_wp2_with fail
      refine (HF.out _).mono ?_
      rintro e w1 ⟨rfl, rfl⟩
      go_wp2_with fail
      refine (H1.out _).mono ?_
      rintro e w1 ⟨rfl, rfl⟩
      go_wp2_with fail
      refine (L1.out _).mono ?_
      rintro e w1 ⟨rfl, rfl⟩
      go_wp2_with fail
      refine (HA.out _).mono ?_
      rintro e w1 ⟨rfl, rfl⟩
      go_wp2_with fail
      refine (L2.out _).mono ?_
      rintro e w1 ⟨rfl, rfl⟩
      go_wp2_with fail
      go_ret
      exact ⟨rfl, (Below.refl _ _).drew⟩
  case neg =>
    have hout : Qua.inr a = false := by simpa using hin
    have H1 := hide (qfixed_out a ha hout ar w.drew (hE.below (Below.refl _ _).drew))
    clear hin hout hE ha
    go_enter Tryd.func10, Tryd.ntmps10
    go_wp2_with fail
    refine (HF.out _).mono ?_
    rintro e w1 ⟨rfl, rfl⟩
    go_wp2_with fail
    refine H1.out.mono ?_
    rintro e w1 ⟨rfl, rfl⟩
    go_wp2_with fail
    go_ret
    exact ⟨rfl, (Below.refl _ _).drew.drew⟩
end Go.Proofs.YtboighnmgnjhdaaDoor
