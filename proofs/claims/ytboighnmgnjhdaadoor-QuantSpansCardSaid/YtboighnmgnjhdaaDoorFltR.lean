/-
  flt.Round and the laws' first, walked. By an AI agent. No person has read it.
-/
import Derived.Test.YtboighnmgnjhdaaDoorFltM
import Derived.Test.YtboighnmgnjhdaaDoorFltT
namespace Go.Proofs.YtboighnmgnjhdaaDoor
open Go.RowKit

/-- The nearest whole number, of two the even one, as the model has it. -/
def Flt.round (b : Nat) : Nat := if Flt.expo b = 2047 then b else Ieee.double.write ((Ieee.double.read b).integral .even)
theorem run_rte (b : Nat) (hb : b < 18446744073709551616) (he : Flt.expo b ≠ 2047) (w : World) : (callFunc 85 #[.float .f64 b]).run Tryd.prog w = .ok (.value (.float .f64 (Flt.round b))) w := by
  obtain ⟨m, i, e1, -⟩ := Flt.read_num b hb (by unfold Flt.expo at he; omega)
  have hd : FloatKind.f64.decode b = Ieee.Datum.number (decide (9223372036854775808 ≤ b)) m i := e1
  have hr : (Extern.MathFloor.toIntegral "math.RoundToEven" .even #[.float .f64 b]).run Tryd.prog w = .ok (.float .f64 (Flt.round b)) w := by
    unfold Flt.round
    rw [if_neg he, e1]
    obtain ⟨F, hF⟩ : ∃ F : Nat → Bool → Nat → Sem Value, ∀ b', Extern.MathFloor.toIntegral "math.RoundToEven" .even #[.float .f64 b'] = Extern.MathFloor.toIntegral.match_1 (fun _ => Sem Value) (FloatKind.f64.decode b') (fun s t => F b' s t) (fun d => pure (.float .f64 (FloatKind.f64.encode (d.integral .even)))) := ⟨_, fun b' => rfl⟩
    rw [hF, hd]
    rfl
  rw [run_callFunc_extern Tryd.func85 (by kernel_rfl) (by kernel_rfl) (by kernel_rfl) (show Extern.find Tryd.f85 = some (Extern.MathFloor.toIntegral "math.RoundToEven" .even) by kernel_rfl), hr]
  rfl
set_option maxRecDepth 100000 in
theorem round_c (b : Nat) (hb : b < 18446744073709551616) (w : World) :
    Calls Tryd.prog 51 #[.float .f64 b] w fun e w' => e = .returned (.float .f64 (Flt.round b)) ∧ w' = w := by
  have hk := kind_c b hb w
  obtain ⟨kg, hkg⟩ : ∃ x, Hid (Flt.kindNeg b = x) := ⟨_, hide rfl⟩
  rw [hkg.out] at hk
  by_cases he : Flt.expo b = 2047
  · have hp : Flt.round b = b := by unfold Flt.round; rw [if_pos he]
    rw [hp]
    have hkk : Flt.kindNo b = 1 ∨ Flt.kindNo b = 2 := by
      unfold Flt.kindNo
      by_cases hf : Flt.frac b = 0
      · exact .inr (by simp [he, hf])
      · exact .inl (by simp [he, hf])
    rcases hkk with h | h
    all_goals
      rw [h] at hk
      have HK := hide hk
      clear hk h he hp
      go_enter Tryd.func51, Tryd.ntmps51
      go_wp2_with fail
      refine HK.out.mono ?_
      rintro e w1 ⟨rfl, rfl⟩
      go_wp2_with fail
      go_ret
      exact ⟨rfl, rfl⟩
  · have hr := run_rte b hb he
    obtain ⟨r, hrr⟩ : ∃ x, Hid (Flt.round b = x) := ⟨_, hide rfl⟩
    rw [hrr.out] at hr ⊢
    have h12 : Flt.kindNo b ≠ 1 ∧ Flt.kindNo b ≠ 2 := by
      unfold Flt.kindNo
      rw [if_neg (fun h => he h.1), if_neg he]
      split
      · decide
      · split <;> decide
    obtain ⟨kn, hkn⟩ : ∃ x, Hid (Flt.kindNo b = x) := ⟨_, hide rfl⟩
    rw [hkn.out] at hk h12
    have h1 : ¬ ((kn : Int) = 1) := by omega
    have h2 : ¬ ((kn : Int) = 2) := by omega
    have h1' : ((kn : Int) == 1) = false := by simp; omega
    have h2' : ((kn : Int) == 2) = false := by simp; omega
    have HK := hide hk
    clear hk h12 he
    go_enter Tryd.func51, Tryd.ntmps51
    go_wp2_with fail
    refine HK.out.mono ?_
    rintro e w1 ⟨rfl, rfl⟩
    go_wp2_with fail
    go_ret
    exact ⟨rfl, rfl⟩

theorem andNot_top (a : Nat) (ha : a < 18446744073709551616) : bits .andNot .u64 (a : Int) 9223372036854775808 = ((a % 9223372036854775808 : Nat) : Int) := by
  have h := u64_andNot_nat a 9223372036854775808 ha (by decide)
  rw [show (18446744073709551615 - 9223372036854775808 : Nat) = 2 ^ 63 - 1 by decide, Nat.and_two_pow_sub_one_eq_mod] at h
  exact h
set_option maxRecDepth 100000 in
theorem copysign_c0 (w : World) :
    Calls Tryd.prog 45 #[.float .f64 0, .float .f64 13830554455654793216] w fun e w' => e = .returned (.float .f64 9223372036854775808) ∧ w' = w := by
  have hfb := run_f64bits
  have hff : ∀ w : World, (callFunc 60 #[.int .u64 9223372036854775808]).run Tryd.prog w = .ok (.value (.float .f64 9223372036854775808)) w := run_f64from 9223372036854775808
  have h1 : bits .andNot .u64 0 9223372036854775808 = 0 := by decide
  have h2 : bits .and .u64 13830554455654793216 9223372036854775808 = 9223372036854775808 := by decide
  have h3 : bits .or .u64 0 9223372036854775808 = 9223372036854775808 := by decide
  go_enter Tryd.func45, Tryd.ntmps45
  go_wp2_with fail
  go_ret
  exact ⟨rfl, rfl⟩

set_option maxRecDepth 100000 in
theorem first_c (w : World) (hT : Tz w) :
    Calls Tryd.prog 12 #[] w fun e w' => e = .returned (.bool true) ∧ w' = w := by
  have hp := parts_c 4618441417868443648 (by decide) w hT
  rw [show (Flt.parts 4618441417868443648) = (3, 1, true) by decide +kernel] at hp
  have hr := round_c 4612811918334230528 (by decide) w
  rw [show Flt.round 4612811918334230528 = 4611686018427387904 by decide +kernel] at hr
  have ho : FloatKind.f64.format.order 4611686018427387904 4611686018427387904 = some .eq := by decide +kernel
  have hc := copysign_c0 w
  have hl := less_c 9223372036854775808 0 (by decide) (by decide) w
  rw [show Flt.less 9223372036854775808 0 = true by decide +kernel] at hl
  have HP := hide hp
  have HR := hide hr
  have HC := hide hc
  have HL := hide hl
  clear hp hr hc hl
  go_enter Tryd.func12, Tryd.ntmps12
  go_wp2_with fail
  refine HP.out.mono ?_
  rintro e w1 ⟨rfl, rfl⟩
  go_wp2_with fail
  refine HR.out.mono ?_
  rintro e w1 ⟨rfl, rfl⟩
  go_wp2_with fail
  refine HC.out.mono ?_
  rintro e w1 ⟨rfl, rfl⟩
  go_wp2_with fail
  refine HL.out.mono ?_
  rintro e w1 ⟨rfl, rfl⟩
  go_wp2_with fail
  go_ret
  exact ⟨rfl, rfl⟩
end Go.Proofs.YtboighnmgnjhdaaDoor
