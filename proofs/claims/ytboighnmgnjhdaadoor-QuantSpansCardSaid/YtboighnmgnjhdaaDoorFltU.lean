/-
  The parts of a number make it again. By an AI agent. No person has read it.
-/
import Derived.Test.YtboighnmgnjhdaaDoorFltNr
namespace Go.Proofs.YtboighnmgnjhdaaDoor
open Go.RowKit

theorem ctz_log (x : Nat) (h0 : x ≠ 0) (hx : x < 18446744073709551616) : x = 2 ^ Lib.ctz 64 x * (x / 2 ^ Lib.ctz 64 x) ∧ (x / 2 ^ Lib.ctz 64 x).log2 + Lib.ctz 64 x = x.log2 ∧ (x / 2 ^ Lib.ctz 64 x) % 2 = 1 := by
  obtain ⟨m, hm, hk⟩ := Lib.ctzFrom_spec 64 x (by omega) hx
  have hc : Lib.ctz 64 x = Lib.ctzFrom 64 x := by unfold Lib.ctz; rw [if_neg h0]
  rw [hc]
  obtain ⟨k, hkk⟩ : ∃ k, Lib.ctzFrom 64 x = k := ⟨_, rfl⟩
  rw [hkk] at hm ⊢
  have hq : x / 2 ^ k = 2 * m + 1 := by
    conv => lhs; rw [hm]
    rw [Nat.mul_div_cancel_left _ (Nat.two_pow_pos k)]
  rw [hq]
  refine ⟨hm, ?_, by omega⟩
  rw [← hq]
  apply log2_step
  rw [hm]
  exact Nat.le_mul_of_pos_right _ (by omega)
/-- A finite number that is no zero: its odd part by its power is it. -/
theorem make_parts (b : Nat) (hb : b < 18446744073709551616) (h7 : Flt.expo b ≠ 2047) (hs : Flt.sig b ≠ 0) : Flt.mk (Flt.parts b).1 (Flt.parts b).2.1 = b := by
  have hsl := sig_lt b
  have hel := expo_lt b
  have hfl := frac_lt b
  obtain ⟨c1, c2, c3⟩ := ctz_log (Flt.sig b) hs (by omega)
  have hp : Flt.parts b = ((if Flt.neg b = true then -(Flt.odd b : Int) else Flt.odd b), -1074 + (Flt.pe b : Int) + (Lib.ctz 64 (Flt.sig b) : Int), true) := by
    unfold Flt.parts
    rw [if_neg h7, if_neg hs]
  have hod : Flt.odd b = Flt.sig b / 2 ^ Lib.ctz 64 (Flt.sig b) := rfl
  rw [← hod] at c1 c2 c3
  have ho0 : Flt.odd b ≠ 0 := by omega
  have hw := Flt.split_word b hb
  rw [hp]
  dsimp only
  have hM0 : (if Flt.neg b = true then -(Flt.odd b : Int) else (Flt.odd b : Int)) ≠ 0 := by split <;> omega
  have hab : (if Flt.neg b = true then -(Flt.odd b : Int) else (Flt.odd b : Int)).natAbs = Flt.odd b := by split <;> omega
  have hng : decide ((if Flt.neg b = true then -(Flt.odd b : Int) else (Flt.odd b : Int)) < 0) = Flt.neg b := by
    cases h : Flt.neg b
    · rw [if_neg (by decide), decide_eq_false_iff_not]; omega
    · rw [if_pos rfl, decide_eq_true_eq]; omega
  unfold Flt.mk
  rw [if_neg hM0, hab, hng, near_sign _ _ _ ho0, near_eq _ _ ho0]
  obtain ⟨c, hc⟩ : ∃ c, Lib.ctz 64 (Flt.sig b) = c := ⟨_, rfl⟩
  rw [hc] at c1 c2 ⊢
  have hcs : Flt.odd b * 2 ^ c = Flt.sig b := by rw [Nat.mul_comm]; exact c1.symm
  by_cases he : Flt.expo b = 0
  · have hsg : Flt.sig b = Flt.frac b := by unfold Flt.sig; rw [if_pos he]
    have hpe : Flt.pe b = 0 := by unfold Flt.pe; rw [if_pos he]
    have hl : (Flt.sig b).log2 < 52 := (Nat.log2_lt hs).2 (by omega)
    have hm : max (-1074 + (Flt.pe b : Int) + (c : Int) + ((Flt.odd b).log2 : Int) - 52) (-1074) = -1074 := by omega
    rw [hm, show ((-1074 : Int) + 1074).toNat = 0 by decide, show (-1074 + (Flt.pe b : Int) + (c : Int) - -1074).toNat = c by omega, show (-1074 - (-1074 + (Flt.pe b : Int) + (c : Int))).toNat = 0 by omega, hcs, half_one, Nat.zero_mul, Nat.zero_add, Nat.min_eq_left (by omega)]
    omega
  · have hsg : Flt.sig b = Flt.frac b + 4503599627370496 := by unfold Flt.sig; rw [if_neg he]
    have hpe : Flt.pe b + 1 = Flt.expo b := by unfold Flt.pe; rw [if_neg he]; omega
    have hl : (Flt.sig b).log2 = 52 := Flt.log2_of (by omega) (by omega)
    have hm : max (-1074 + (Flt.pe b : Int) + (c : Int) + ((Flt.odd b).log2 : Int) - 52) (-1074) = -1074 + (Flt.pe b : Int) := by omega
    rw [hm, show ((-1074 : Int) + (Flt.pe b : Int) + 1074).toNat = Flt.pe b by omega, show (-1074 + (Flt.pe b : Int) + (c : Int) - (-1074 + (Flt.pe b : Int))).toNat = c by omega, show (-1074 + (Flt.pe b : Int) - (-1074 + (Flt.pe b : Int) + (c : Int))).toNat = 0 by omega, hcs, half_one]
    have h8 : Flt.pe b ≤ 2045 := by omega
    have h9 := Nat.mul_le_mul_right 4503599627370496 h8
    have h10 : Flt.pe b * 4503599627370496 + Flt.sig b ≤ 9218868437227405312 := Nat.le_trans (Nat.add_le_add h9 (Nat.le_of_lt hsl)) (by decide)
    rw [Nat.min_eq_left h10]
    omega
end Go.Proofs.YtboighnmgnjhdaaDoor
