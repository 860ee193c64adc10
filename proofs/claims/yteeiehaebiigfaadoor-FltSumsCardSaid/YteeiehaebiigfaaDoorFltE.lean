/-
  A whole number and a part below a half: its sum rounded; small ones rounded. By an AI agent. No person has read it.
-/
import Derived.Test.YteeiehaebiigfaaDoorFltP
namespace Go.Proofs.YteeiehaebiigfaaDoor
open Go.RowKit
open Ieee

theorem halfword : (4602678819172646912 : Nat) % 9223372036854775808 < 9218868437227405312 := by decide
/-- A part above zero and below a half. -/
theorem part_facts (p : Nat) (hp : p < 18446744073709551616) (h0 : double.order p 0 = some .gt) (h1 : double.order p 4602678819172646912 = some .lt) :
    p < 9218868437227405312 ∧ 0 < Flt.mag p ∧ Flt.mag p < hunit ∧ Flt.key p = (Flt.mag p : Int) := by
  have hn : Flt.nanb p = false := by
    cases hc : Flt.nanb p
    · rfl
    · exfalso
      have hs := Flt.order_self p
      rw [hc, if_pos rfl] at hs
      unfold Format.order at hs h0
      cases hd : double.read p <;> rw [hd] at hs h0 <;> simp [Datum.order] at hs h0
  by_cases hi : Flt.expo p = 2047
  · exfalso
    have hf : Flt.frac p = 0 := by
      unfold Flt.nanb at hn
      unfold Flt.expo at hi
      unfold Flt.frac
      rw [decide_eq_false_iff_not] at hn
      omega
    rw [Flt.order_inf p 0 hp (by decide) hi hf (by decide)] at h0
    rw [Flt.order_inf p _ hp (by decide) hi hf halfword] at h1
    rw [h0] at h1
    cases h1
  · have hfin : p % 9223372036854775808 < 9218868437227405312 := by unfold Flt.expo at hi; omega
    rw [Flt.order_key p 0 hp (by decide) hfin (by decide), key_zero.1] at h0
    rw [Flt.order_key p _ hp (by decide) hfin halfword, half_key.1] at h1
    have k0 := Int.compare_eq_gt.1 (Option.some.inj h0)
    have k1 := Int.compare_eq_lt.1 (Option.some.inj h1)
    have hk : ¬ 9223372036854775808 ≤ p ∧ Flt.key p = (Flt.mag p : Int) := by
      unfold Flt.key at k0 ⊢
      by_cases h : 9223372036854775808 ≤ p
      · rw [if_pos h] at k0; omega
      · exact ⟨h, if_neg h⟩
    rw [hk.2] at k0 k1
    refine ⟨by omega, by omega, by omega, hk.2⟩
/-- It is rounded to zero, of its own sign. -/
theorem round_part (p : Nat) (hp : p < 9218868437227405312) (h1 : Flt.mag p < hunit) : Flt.round p = 0 ∧ Flt.round (Op.negFloat .f64 p) = 9223372036854775808 := by
  have hu := Flt.unit_pos
  have hu2 := unit_two
  have hw : Flt.whl 0 = 0 := if_pos rfl
  rw [neg_bits p (by omega)]
  have hm : Flt.mag (p + 9223372036854775808) = Flt.mag p := by
    rw [Nat.add_comm]
    exact mag_mod 9223372036854775808 p (.inr rfl)
  constructor
  · rw [round_key p 0 (by omega) (by unfold Flt.expo; omega) (by omega) (by omega), hw]
    rw [if_neg (by unfold Flt.neg; rw [decide_eq_true_eq]; omega)]
  · rw [round_key (p + 9223372036854775808) 0 (by omega) (by unfold Flt.expo; omega) (by rw [hm]; omega) (by rw [hm]; omega), hw]
    rw [if_pos (by unfold Flt.neg; rw [decide_eq_true_eq]; omega)]
/-- The lesser of two that are no zeros and finite says the less. -/
theorem mag_le (a b : Nat) (h : a % 9223372036854775808 ≤ b % 9223372036854775808) : Flt.mag a ≤ Flt.mag b := by
  rcases Nat.lt_or_ge (a % 9223372036854775808) (b % 9223372036854775808) with h' | h'
  · exact Nat.le_of_lt (mag_lt a b h')
  · have he : a % 9223372036854775808 = b % 9223372036854775808 := by omega
    have : Flt.mag a = Flt.mag b := by
      unfold Flt.mag
      rw [he, show a % 4503599627370496 = b % 4503599627370496 by omega]
    omega
theorem near_unit (s k : Nat) (h0 : s ≠ 0) (hs : s < 9007199254740992) (hk : 74 ≤ k) (hk2 : k < 1900) : Flt.near (s * Flt.pw k) (-1074) < 9218868437227405312 ∧ Flt.mag (Flt.near (s * Flt.pw k) (-1074)) = s * Flt.pw k := by
  rw [near_pw _ _ _ h0]
  obtain ⟨-, a2, a3⟩ := near_exact s (-1074 + (k : Int)) h0 hs (by omega) (by omega)
  refine ⟨a2, ?_⟩
  rw [a3]
  congr 2
  omega
/-- A whole number and a part: its sum, where that is below the number and a half, is rounded to the number. -/
theorem add_part (n : Int) (hn : n.natAbs < 1099511627776) (p : Nat) (hp : p < 9218868437227405312) (h0 : 0 < Flt.mag p) (h1 : Flt.mag p < hunit) (hk : Flt.key p = (Flt.mag p : Int)) :
    ∃ y, double.add (Flt.mk n 0) p = some y ∧ y < 18446744073709551616 ∧ y % 9223372036854775808 < 9218868437227405312 ∧ (double.order y (Flt.mk (2 * n + 1) (-1)) = some .lt → Flt.round y = Flt.mk n 0) := by
  obtain ⟨a1, a2, a3, a4⟩ := whole_facts n (by omega)
  obtain ⟨-, x2, x3, -, -, x6⟩ := mk_facts (2 * n + 1) (-1) (by omega) (by omega) (by decide) (by decide)
  have xk : Flt.key (Flt.mk (2 * n + 1) (-1)) = (2 * n + 1) * (hunit : Int) := x6
  have xf : Flt.mk (2 * n + 1) (-1) % 9223372036854775808 < 9218868437227405312 := by unfold Flt.expo at x3; omega
  have hu2 := unit_two
  have hup := Flt.unit_pos
  have hhp := hunit_pos
  by_cases hs : 0 ≤ n
  · -- no number below zero
    obtain ⟨N, rfl⟩ : ∃ N : Nat, n = N := ⟨n.toNat, by omega⟩
    rw [Int.natAbs_natCast] at hn
    have hK : Flt.key (Flt.mk N 0) + Flt.key p = ((N * Flt.unit + Flt.mag p : Nat) : Int) := by
      rw [a4, hk, Int.natCast_add, Int.natCast_mul]
    have hadd := add_key _ p a1 (by omega) a2 (by omega) (by rw [hK]; omega)
    rw [hK, if_neg (by omega), Int.natAbs_natCast, Nat.zero_add] at hadd
    have hE : (2 * N + 1) * Flt.pw 1073 = N * Flt.unit + hunit := by
      show (2 * N + 1) * hunit = _
      rw [hu2, Nat.add_mul, Nat.one_mul, Nat.mul_assoc, Nat.mul_left_comm]
    obtain ⟨b1, b2⟩ := near_unit (2 * N + 1) 1073 (by omega) (by omega) (by decide) (by decide)
    have hle := near_mono (N * Flt.unit + Flt.mag p) ((2 * N + 1) * Flt.pw 1073) (-1074) (by omega) (by rw [hE]; omega)
    refine ⟨_, hadd, by omega, by omega, fun ho => ?_⟩
    have hyf : Flt.near (N * Flt.unit + Flt.mag p) (-1074) % 9223372036854775808 < 9218868437227405312 := by omega
    rw [Flt.order_key _ _ (by omega) x2 hyf xf, xk] at ho
    have ho := Int.compare_eq_lt.1 (Option.some.inj ho)
    obtain ⟨y, hy⟩ : ∃ y, Flt.near (N * Flt.unit + Flt.mag p) (-1074) = y := ⟨_, rfl⟩
    have hlow : N * Flt.unit ≤ Flt.mag y := by
      by_cases hN : N = 0
      · subst hN; omega
      · obtain ⟨c1, c2⟩ := near_unit N 1074 hN (by omega) (by decide) (by decide)
        have hl2 := near_mono (N * Flt.pw 1074) (N * Flt.unit + Flt.mag p) (-1074) (Nat.ne_of_gt (Nat.mul_pos (by omega) hup)) (Nat.le_add_right _ _)
        rw [hy] at hl2
        have := mag_le (Flt.near (N * Flt.pw 1074) (-1074)) y (by omega)
        rw [c2] at this
        exact this
    rw [hy] at ho hyf hle ⊢
    have hky : Flt.key y = (Flt.mag y : Int) := by
      unfold Flt.key
      rw [if_neg (by omega)]
    have hcast : (2 * (N : Int) + 1) * (hunit : Int) = (((2 * N + 1) * Flt.pw 1073 : Nat) : Int) := by
      rw [Int.natCast_mul]
      rfl
    rw [hky, hcast, hE] at ho
    have e1 : 2 * N * Flt.unit = 2 * (N * Flt.unit) := Nat.mul_assoc _ _ _
    have e2 : (2 * N + 1) * Flt.unit = 2 * (N * Flt.unit) + Flt.unit := by rw [Nat.add_mul, Nat.one_mul, e1]
    rw [round_key y N (by omega) (by unfold Flt.expo; omega) (by omega) (by omega), if_neg (by unfold Flt.neg; rw [decide_eq_true_eq]; omega), Nat.zero_add]
    by_cases hN : N = 0
    · subst hN
      rw [show ((0 : Nat) : Int) = 0 from rfl, mk_zero]
      exact if_pos rfl
    · rw [whl_mk N (by omega) (by omega), if_neg (by omega), Nat.zero_add, Int.natAbs_natCast]
  · -- one below zero
    obtain ⟨N, rfl, hN⟩ : ∃ N : Nat, n = -(N : Int) ∧ N ≠ 0 := ⟨n.natAbs, by omega, by omega⟩
    rw [Int.natAbs_neg, Int.natAbs_natCast] at hn
    have hNu : Flt.unit ≤ N * Flt.unit := Nat.le_mul_of_pos_left _ (by omega)
    have hK : Flt.key (Flt.mk (-(N : Int)) 0) + Flt.key p = -((N * Flt.unit - Flt.mag p : Nat) : Int) := by
      rw [a4, hk, Int.neg_mul, ← Int.natCast_mul]
      omega
    have hadd := add_key _ p a1 (by omega) a2 (by omega) (by rw [hK]; omega)
    rw [hK, if_pos (by omega), Int.natAbs_neg, Int.natAbs_natCast] at hadd
    obtain ⟨M, hM⟩ : ∃ M, 2 * N - 1 = M := ⟨_, rfl⟩
    have hE : M * Flt.pw 1073 = N * Flt.unit - hunit := by
      show M * hunit = _
      rw [hu2, ← hM, Nat.sub_mul, Nat.one_mul, Nat.mul_assoc, Nat.mul_left_comm]
    obtain ⟨b1, b2⟩ := near_unit N 1074 hN (by omega) (by decide) (by decide)
    obtain ⟨c1, c2⟩ := near_unit M 1073 (by omega) (by omega) (by decide) (by decide)
    have hle := near_mono (N * Flt.unit - Flt.mag p) (N * Flt.pw 1074) (-1074) (by omega) (Nat.sub_le _ _)
    have hge := near_mono (M * Flt.pw 1073) (N * Flt.unit - Flt.mag p) (-1074) (by rw [hE]; omega) (by rw [hE]; omega)
    refine ⟨_, hadd, by omega, by omega, fun ho => ?_⟩
    have hyf : (9223372036854775808 + Flt.near (N * Flt.unit - Flt.mag p) (-1074)) % 9223372036854775808 < 9218868437227405312 := by omega
    rw [Flt.order_key _ _ (by omega) x2 hyf xf, xk] at ho
    have ho := Int.compare_eq_lt.1 (Option.some.inj ho)
    obtain ⟨z, hz⟩ : ∃ y, Flt.near (N * Flt.unit - Flt.mag p) (-1074) = y := ⟨_, rfl⟩
    rw [hz] at ho hyf hle hge ⊢
    obtain ⟨y, hy⟩ : ∃ y, 9223372036854775808 + z = y := ⟨_, rfl⟩
    have m1 := mag_le z (Flt.near (N * Flt.pw 1074) (-1074)) (by omega)
    rw [b2] at m1
    have m1 : Flt.mag z ≤ N * Flt.unit := m1
    have mz : Flt.mag y = Flt.mag z := by rw [← hy]; exact mag_mod 9223372036854775808 z (.inr rfl)
    rw [hy] at ho hyf ⊢
    have hky : Flt.key y = -(Flt.mag z : Int) := by
      unfold Flt.key
      rw [if_pos (by omega), mz]
    have hcast : (2 * -(N : Int) + 1) * (hunit : Int) = -((M * Flt.pw 1073 : Nat) : Int) := by
      rw [show 2 * -(N : Int) + 1 = -(M : Int) by omega, Int.neg_mul, Int.natCast_mul]
      rfl
    rw [hky, hcast, hE] at ho
    have e1 : 2 * N * Flt.unit = 2 * (N * Flt.unit) := Nat.mul_assoc _ _ _
    have e2 : (2 * N + 1) * Flt.unit = 2 * (N * Flt.unit) + Flt.unit := by rw [Nat.add_mul, Nat.one_mul, e1]
    rw [round_key y N (by omega) (by unfold Flt.expo; omega) (by omega) (by omega), if_pos (by unfold Flt.neg; rw [decide_eq_true_eq]; omega)]
    rw [whl_mk (-(N : Int)) (by omega) (by omega), if_pos (by omega), Int.natAbs_neg, Int.natAbs_natCast]
end Go.Proofs.YteeiehaebiigfaaDoor
