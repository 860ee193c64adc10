/-
  Package flt's kinds and orders, and the reference's, walked. By an AI agent. No person has read it.
-/
import Derived.Test.YtboighnmgnjhdaaDoorFltA
import Derived.Test.YtboighnmgnjhdaaDoorChecked
import Derived.StillTailTactics
import Derived.LoopN
import Derived.Lib.Hide
import Derived.Laws.BitsAllLaws
import Derived.WalkLawsBesides
namespace Go.Proofs.YtboighnmgnjhdaaDoor
open Go.RowKit

theorem run_f64bits (b : Nat) (w : World) : (callFunc 57 #[.float .f64 b]).run Tryd.prog w = .ok (.value (.int .u64 b)) w := by kernel_rfl
theorem run_f64from (n : Nat) (w : World) : (callFunc 60 #[.int .u64 n]).run Tryd.prog w = .ok (.value (.float .f64 n)) w := by kernel_rfl

theorem hide {p : Prop} (h : p) : Hid p := h
theorem and_mask (b n : Nat) (hb : b < 18446744073709551616) (M : Int) (hM : M = ((2 ^ n - 1 : Nat) : Int)) (h64 : 2 ^ n - 1 < 18446744073709551616) : bits .and .u64 (b : Int) M = ((b % 2 ^ n : Nat) : Int) := by
  rw [hM, u64_and_nat b _ hb h64, Nat.and_two_pow_sub_one_eq_mod]
theorem expo_and (b : Nat) (hb : b < 18446744073709551616) : bits .and .u64 ((b : Int) / 4503599627370496) 2047 = (Flt.expo b : Int) := by
  have h : ((b : Int) / 4503599627370496) = ((b / 4503599627370496 : Nat) : Int) := by omega
  rw [h, and_mask _ 11 (by omega) 2047 (by decide) (by decide)]
  rfl
theorem frac_and (b : Nat) (hb : b < 18446744073709551616) : bits .and .u64 (b : Int) 4503599627370495 = (Flt.frac b : Int) := by
  rw [and_mask _ 52 hb 4503599627370495 (by decide) (by decide)]
  rfl
theorem neg_div (b : Nat) (hb : b < 18446744073709551616) : ((b : Int) / 9223372036854775808 == 1) = Flt.neg b := by
  unfold Flt.neg
  rw [Bool.eq_iff_iff, beq_iff_eq, decide_eq_true_eq]
  omega
theorem expo_lt (b : Nat) : Flt.expo b < 2048 := Nat.mod_lt _ (by decide)
theorem frac_lt (b : Nat) : Flt.frac b < 4503599627370496 := Nat.mod_lt _ (by decide)

set_option maxRecDepth 100000 in
theorem split_c (b : Nat) (hb : b < 18446744073709551616) (w : World) :
    Calls Tryd.prog 83 #[.float .f64 b] w fun e w' => e = .returned (.tuple #[.bool (Flt.neg b), .int .i64 (Flt.expo b), .int .u64 (Flt.frac b)]) ∧ w' = w := by
  have hfb := run_f64bits
  have h1 := expo_and b hb
  have h2 := frac_and b hb
  have h3 := neg_div b hb
  have h4 := expo_lt b
  obtain ⟨ex, hex⟩ : ∃ x, Hid (Flt.expo b = x) := ⟨_, hide rfl⟩
  obtain ⟨fr, hfr⟩ : ∃ x, Hid (Flt.frac b = x) := ⟨_, hide rfl⟩
  obtain ⟨ng, hng⟩ : ∃ x, Hid (Flt.neg b = x) := ⟨_, hide rfl⟩
  rw [hex.out] at h1 h4 ⊢
  rw [hfr.out] at h2 ⊢
  rw [hng.out] at h3 ⊢
  go_enter Tryd.func83, Tryd.ntmps83
  go_wp2_with fail
  go_ret3
  exact ⟨rfl, rfl⟩

set_option maxRecDepth 100000 in
theorem kind_c (b : Nat) (hb : b < 18446744073709551616) (w : World) :
    Calls Tryd.prog 82 #[.float .f64 b] w fun e w' => e = .returned (.tuple #[.int .i64 (Flt.kindNo b), .bool (Flt.kindNeg b)]) ∧ w' = w := by
  have hs := split_c b hb w
  obtain ⟨ex, hex⟩ : ∃ x, Hid (Flt.expo b = x) := ⟨_, hide rfl⟩
  obtain ⟨fr, hfr⟩ : ∃ x, Hid (Flt.frac b = x) := ⟨_, hide rfl⟩
  obtain ⟨ng, hng⟩ : ∃ x, Hid (Flt.neg b = x) := ⟨_, hide rfl⟩
  have HX := hex
  have HF := hfr
  rw [hex.out, hfr.out, hng.out] at hs
  have HS := hide hs
  clear hs hex hfr
  by_cases h1 : ex = 2047
  · subst h1
    by_cases h2 : fr = 0
    · subst h2
      rw [show Flt.kindNo b = 2 by unfold Flt.kindNo; simp [HX.out, HF.out], show Flt.kindNeg b = ng by unfold Flt.kindNeg; simp [HX.out, HF.out, hng.out]]
      go_enter Tryd.func82, Tryd.ntmps82
      go_wp2_with fail
      refine HS.out.mono ?_
      rintro e w1 ⟨rfl, rfl⟩
      go_wp2_with fail
      go_ret2
      exact ⟨rfl, rfl⟩
    · have h2' : ((fr : Int) != 0) = true := by simp; omega
      rw [show Flt.kindNo b = 1 by unfold Flt.kindNo; simp [HX.out, HF.out, h2], show Flt.kindNeg b = false by unfold Flt.kindNeg; simp [HX.out, HF.out, h2]]
      go_enter Tryd.func82, Tryd.ntmps82
      go_wp2_with fail
      refine HS.out.mono ?_
      rintro e w1 ⟨rfl, rfl⟩
      go_wp2_with fail
      go_ret2
      exact ⟨rfl, rfl⟩
  have h1' : ¬ ((ex : Int) = 2047) := by omega
  have h1'' : ((ex : Int) == 2047) = false := by simp; omega
  by_cases h0 : ex = 0
  · subst h0
    by_cases h2 : fr = 0
    · subst h2
      rw [show Flt.kindNo b = 3 by unfold Flt.kindNo; simp [HX.out, HF.out], show Flt.kindNeg b = ng by unfold Flt.kindNeg; simp [HX.out, HF.out, hng.out]]
      go_enter Tryd.func82, Tryd.ntmps82
      go_wp2_with fail
      refine HS.out.mono ?_
      rintro e w1 ⟨rfl, rfl⟩
      go_wp2_with fail
      go_ret2
      exact ⟨rfl, rfl⟩
    · have h2' : ((fr : Int) != 0) = true := by simp; omega
      rw [show Flt.kindNo b = 4 by unfold Flt.kindNo; simp [HX.out, HF.out, h2], show Flt.kindNeg b = ng by unfold Flt.kindNeg; simp [HX.out, HF.out, h2, hng.out]]
      go_enter Tryd.func82, Tryd.ntmps82
      go_wp2_with fail
      refine HS.out.mono ?_
      rintro e w1 ⟨rfl, rfl⟩
      go_wp2_with fail
      go_ret2
      exact ⟨rfl, rfl⟩
  · have h0' : ((ex : Int) != 0) = true := by simp; omega
    rw [show Flt.kindNo b = 5 by unfold Flt.kindNo; simp [HX.out, HF.out, h1, h0], show Flt.kindNeg b = ng by unfold Flt.kindNeg; simp [HX.out, HF.out, h1, hng.out]]
    go_enter Tryd.func82, Tryd.ntmps82
    go_wp2_with fail
    refine HS.out.mono ?_
    rintro e w1 ⟨rfl, rfl⟩
    go_wp2_with fail
    go_ret2
    exact ⟨rfl, rfl⟩
end Go.Proofs.YtboighnmgnjhdaaDoor
