/-
  Products with and quotients by powers of two are exact. By an AI agent. No person has read it.
-/
import Derived.Test.YtboighnmgnjhdaaDoorQuaP
import Derived.Test.YtboighnmgnjhdaaDoorQuaI
namespace Go.Proofs.YtboighnmgnjhdaaDoor
open Go.RowKit
open Ieee

theorem near_val (s t : Nat) (e f b : Int) (hs : s ≠ 0) (ht : t ≠ 0) (hbe : b ≤ e) (hbf : b ≤ f) (h : s * 2 ^ (e - b).toNat = t * 2 ^ (f - b).toNat) : Flt.near s e = Flt.near t f := by
  have h1 := near_scale s (e - b).toNat b hs
  have h2 := near_scale t (f - b).toNat b ht
  rw [show b + ((e - b).toNat : Int) = e by omega] at h1
  rw [show b + ((f - b).toNat : Int) = f by omega] at h2
  rw [← h1, ← h2, h]
/-- A power of two as a number. -/
def Qua.p2 (e : Int) : Nat := (1023 + e).toNat * 4503599627370496
theorem p2_facts (e : Int) (h1 : -1000 ≤ e) (h2 : e ≤ 1000) : Qua.p2 e < 9218868437227405312 ∧ 0 < Qua.p2 e ∧ Qua.pos (Qua.p2 e) = true ∧ double.read (Qua.p2 e) = .number false 4503599627370496 (e - 52) ∧ Flt.key (Qua.p2 e) = ((4503599627370496 * Flt.pw ((1023 + e).toNat - 1) : Nat) : Int) ∧ Flt.neg (Qua.p2 e) = false := by
  obtain ⟨-, k2, k3, k4, k5, k6⟩ := mag_norm (1023 + e).toNat 0 (by omega) (by omega) (by decide)
  rw [Nat.add_zero] at k2 k3 k4 k5 k6
  have hp : 0 < Qua.p2 e := by unfold Qua.p2; omega
  have hl : Qua.p2 e < 9218868437227405312 := k6
  refine ⟨hl, hp, ?_, ?_, k2, k5⟩
  · unfold Qua.pos
    rw [decide_eq_true_eq]
    exact ⟨hp, hl⟩
  · have h := Flt.read_usual (Qua.p2 e) (by omega) (by unfold Qua.p2; rw [k3]; omega) (by unfold Qua.p2; rw [k3]; omega)
    rw [h]
    unfold Qua.p2
    rw [k3, k4, k5]
    congr 1
    omega
theorem mk_read (M e : Int) (h0 : M ≠ 0) (hs : M.natAbs < 9007199254740992) (h1 : -900 ≤ e) (h2 : e ≤ 900) :
    ∃ (m : Nat) (i : Int), double.read (Flt.mk M e) = .number (decide (M < 0)) m i ∧ 4503599627370496 ≤ m ∧ m < 9007199254740992 ∧ -1074 ≤ i ∧ i ≤ 971 ∧ m * 2 ^ (i + 1074).toNat = M.natAbs * 2 ^ (e + 1074).toNat := by
  obtain ⟨a1, a2, a3, a4, a5, -⟩ := mk_facts M e h0 hs (by omega) h2
  obtain ⟨b1, b2, b3⟩ := near_exact M.natAbs e (by omega) hs (by omega) h2
  have hl : M.natAbs.log2 < 53 := (Nat.log2_lt (by omega)).2 hs
  have hx : Flt.expo (Flt.mk M e) = (e + M.natAbs.log2 + 1023).toNat := by
    rw [← b1, a1]
    unfold Flt.expo
    split <;> omega
  have hf := Flt.frac_lt' (Flt.mk M e)
  have h := Flt.read_usual (Flt.mk M e) a2 (by omega) (by omega)
  rw [a4] at h
  refine ⟨_, _, h, by omega, by omega, by omega, by omega, ?_⟩
  have hm : Flt.mag (Flt.mk M e) = (4503599627370496 + Flt.frac (Flt.mk M e)) * 2 ^ (Flt.expo (Flt.mk M e) - 1) := by
    unfold Flt.mag
    have hx0 : Flt.expo (Flt.mk M e) ≠ 0 := by omega
    unfold Flt.expo at hx0
    rw [if_neg (by omega)]
    unfold Flt.frac Flt.expo
    rw [show Flt.mk M e % 9223372036854775808 / 4503599627370496 = Flt.mk M e / 4503599627370496 % 2048 by omega]
  rw [hm] at a5
  rw [show ((Flt.expo (Flt.mk M e) : Int) - 1075 + 1074).toNat = Flt.expo (Flt.mk M e) - 1 by omega]
  exact a5
theorem mk_near (M e : Int) (h0 : M ≠ 0) : Flt.mk M e = (if decide (M < 0) = true then 9223372036854775808 else 0) + Flt.near M.natAbs e := by
  unfold Flt.mk
  rw [if_neg h0, near_sign _ _ _ (by omega)]
theorem mul_p2 (d e : Int) (h0 : d ≠ 0) (hs : d.natAbs < 9007199254740992) (h1 : -400 ≤ e) (h2 : e ≤ 400) : double.mul (Qua.p2 e) (Flt.mk d 0) = some (Flt.mk d e) := by
  obtain ⟨m, i, hr, m1, m2, i1, i2, hv⟩ := mk_read d 0 h0 hs (by decide) (by decide)
  obtain ⟨-, -, -, hp, -, -⟩ := p2_facts e (by omega) (by omega)
  unfold Format.mul
  rw [hr, hp]
  simp only [Datum.product, Option.map_some, Format.write, Bool.false_xor]
  rw [near_sign _ _ _ (by omega), mk_near d e h0]
  congr 2
  refine near_val _ _ _ _ (e - 52 - 1074) (by omega) (by omega) (by omega) (by omega) ?_
  rw [show (e - 52 + i - (e - 52 - 1074)).toNat = (i + 1074).toNat by omega, show (e - (e - 52 - 1074)).toNat = 52 + (0 + 1074 : Int).toNat by omega, Nat.mul_assoc, hv, Nat.pow_add, show (2 : Nat) ^ 52 = 4503599627370496 by decide]
  exact Nat.mul_left_comm _ _ _
theorem div_p2 (M f e : Int) (h0 : M ≠ 0) (hs : M.natAbs < 9007199254740992) (h1 : -400 ≤ e) (h2 : e ≤ 400) (h3 : -400 ≤ f) (h4 : f ≤ 400) : double.div (Flt.mk M f) (Qua.p2 e) = some (Flt.mk M (f - e)) := by
  obtain ⟨m, i, hr, m1, m2, i1, i2, hv⟩ := mk_read M f h0 hs (by omega) (by omega)
  obtain ⟨-, -, -, hp, -, -⟩ := p2_facts e (by omega) (by omega)
  have hl : m.log2 = 52 := Flt.log2_of (by omega) (by omega)
  unfold Format.div
  rw [hr, hp]
  simp only [Datum.quotient, Bool.xor_false]
  rw [if_neg (by decide), show (4503599627370496 : Nat).log2 = 52 by decide +kernel, hl, show double.fractionBits + 2 + 52 - 52 = 54 by decide]
  simp only [Option.map_some, Format.write]
  rw [show m <<< 54 = m * 4 * 4503599627370496 by rw [Nat.shiftLeft_eq, Nat.mul_assoc], Nat.mul_div_cancel _ (by decide), Nat.mul_mod_left, show ((0 : Nat) != 0).toNat = 0 by decide, near_sign _ _ _ (by omega), mk_near M (f - e) h0]
  congr 2
  refine near_val _ _ _ _ (-1074 - e - 3) (by omega) (by omega) (by omega) (by omega) ?_
  rw [show (i - (e - 52) - ((54 : Nat) : Int) - 1 - (-1074 - e - 3)).toNat = (i + 1074).toNat by omega, show (f - e - (-1074 - e - 3)).toNat = 3 + (f + 1074).toNat by omega, Nat.pow_add]
  rw [show (2 : Nat) ^ 3 = 8 by decide, Nat.mul_left_comm M.natAbs 8, ← hv]
  generalize 2 ^ (i + 1074).toNat = U
  rw [Nat.add_zero, show 2 * (m * 4) = 8 * m by omega, Nat.mul_assoc]
end Go.Proofs.YtboighnmgnjhdaaDoor
