/-
  Halves of whole numbers, and what lies near a whole one. By an AI agent. No person has read it.
-/
import Derived.Test.YtboighnmgnjhdaaDoorFltQ
namespace Go.Proofs.YtboighnmgnjhdaaDoor
open Go.RowKit
open Ieee

theorem near_pw (s k : Nat) (e : Int) (h0 : s ≠ 0) : Flt.near (s * Flt.pw k) e = Flt.near s (e + k) := near_scale s k e h0
theorem mag_mod (g r : Nat) (hg : g = 0 ∨ g = 9223372036854775808) : Flt.mag (g + r) = Flt.mag r := by
  unfold Flt.mag
  rw [show (g + r) % 9223372036854775808 = r % 9223372036854775808 by omega, show (g + r) % 4503599627370496 = r % 4503599627370496 by omega]
/-- What a whole number by a power says. -/
theorem mk_facts (M e : Int) (h0 : M ≠ 0) (hs : M.natAbs < 9007199254740992) (h1 : -1000 ≤ e) (h2 : e ≤ 900) :
    Flt.mk M e = (if M < 0 then 9223372036854775808 else 0) + Flt.near M.natAbs e ∧ Flt.mk M e < 18446744073709551616 ∧ Flt.expo (Flt.mk M e) ≠ 2047 ∧ Flt.neg (Flt.mk M e) = decide (M < 0) ∧ Flt.mag (Flt.mk M e) = M.natAbs * Flt.pw (e + 1074).toNat ∧ Flt.key (Flt.mk M e) = M * (Flt.pw (e + 1074).toNat : Int) := by
  obtain ⟨a1, a2, a3⟩ := near_exact M.natAbs e (by omega) hs h1 h2
  have hl : M.natAbs.log2 < 53 := (Nat.log2_lt (by omega)).2 hs
  have hmk : Flt.mk M e = (if M < 0 then 9223372036854775808 else 0) + Flt.near M.natAbs e := by
    unfold Flt.mk
    rw [if_neg h0, near_sign _ _ _ (by omega)]
    congr 1
    by_cases h : M < 0
    · rw [if_pos (decide_eq_true h), if_pos h]
    · rw [if_neg (by simpa using h), if_neg h]
  obtain ⟨g, hg⟩ : ∃ g : Nat, (if M < 0 then 9223372036854775808 else 0) = g := ⟨_, rfl⟩
  have hgg : (M < 0 ∧ g = 9223372036854775808) ∨ (¬ M < 0 ∧ g = 0) := by
    by_cases h : M < 0
    · rw [if_pos h] at hg; exact .inl ⟨h, hg.symm⟩
    · rw [if_neg h] at hg; exact .inr ⟨h, hg.symm⟩
  rw [hg] at hmk ⊢
  have hm := mag_mod g (Flt.near M.natAbs e) (by omega)
  rw [a3, ← hmk] at hm
  have hn : Flt.neg (Flt.mk M e) = decide (M < 0) := by
    unfold Flt.neg
    congr 1
    apply propext
    omega
  refine ⟨hmk, by omega, ?_, hn, hm, ?_⟩
  · have : Flt.expo (Flt.mk M e) = Flt.expo (Flt.near M.natAbs e) := by unfold Flt.expo; omega
    rw [this, a1]
    omega
  · unfold Flt.key
    rw [hm, Int.natCast_mul]
    rcases hgg with ⟨h, rfl⟩ | ⟨h, rfl⟩
    · rw [if_pos (by omega), show (M.natAbs : Int) = -M by omega, Int.neg_mul, Int.neg_neg]
    · rw [if_neg (by omega), show (M.natAbs : Int) = M by omega]
theorem half_key : Flt.key 4602678819172646912 = (hunit : Int) ∧ Flt.mag 4602678819172646912 = hunit := by
  have h1 : Flt.near 1 (-1) = 4602678819172646912 := by decide +kernel
  have h2 := (near_exact 1 (-1) (by decide) (by decide) (by decide) (by decide)).2.2
  rw [h1, Nat.one_mul, show ((-1 : Int) + 1074).toNat = 1073 by decide] at h2
  have h3 : Flt.mag 4602678819172646912 = hunit := h2
  refine ⟨?_, h3⟩
  unfold Flt.key
  rw [if_neg (by decide), h3]
theorem mk_zero (e : Int) : Flt.mk 0 e = 0 := if_pos rfl
theorem key_zero : Flt.key 0 = 0 ∧ Flt.mag 0 = 0 := by
  have hm0 : Flt.mag 0 = 0 := rfl
  refine ⟨?_, hm0⟩
  unfold Flt.key
  rw [if_neg (by decide), hm0]
  rfl
/-- A whole number as such. -/
theorem whole_facts (n : Int) (hn : n.natAbs < 9007199254740992) : Flt.mk n 0 < 18446744073709551616 ∧ Flt.mk n 0 % 9223372036854775808 < 9218868437227405312 ∧ Flt.mag (Flt.mk n 0) = n.natAbs * Flt.unit ∧ Flt.key (Flt.mk n 0) = n * (Flt.unit : Int) := by
  by_cases h0 : n = 0
  · subst h0
    rw [mk_zero, key_zero.1, key_zero.2]
    simp
  · obtain ⟨-, a2, a3, -, a5, a6⟩ := mk_facts n 0 h0 hn (by decide) (by decide)
    refine ⟨a2, by unfold Flt.expo at a3; omega, a5, a6⟩
theorem float_of_any (n : Int) : floatOfInt .f64 n = Flt.mk n 0 := by
  unfold Flt.mk
  by_cases h0 : n = 0
  · subst h0
    rw [if_pos rfl]
    decide +kernel
  · rw [if_neg h0]
    rfl
/-- A whole number and a half. -/
theorem add_half (n : Int) (hn : n.natAbs < 1099511627776) : double.add (Flt.mk n 0) 4602678819172646912 = some (Flt.mk (2 * n + 1) (-1)) := by
  obtain ⟨a1, a2, -, a4⟩ := whole_facts n (by omega)
  have hk : Flt.key (Flt.mk n 0) + Flt.key 4602678819172646912 = (2 * n + 1) * (hunit : Int) := by
    rw [a4, half_key.1, unit_two, Int.natCast_mul, Int.add_mul, Int.one_mul, ← Int.mul_assoc, Int.mul_comm n]
    rfl
  have hp : (0 : Int) < (hunit : Int) := by have := hunit_pos; omega
  have h0 : (2 * n + 1) * (hunit : Int) ≠ 0 := Int.mul_ne_zero (by omega) (by omega)
  have hneg : (2 * n + 1) * (hunit : Int) < 0 ↔ 2 * n + 1 < 0 := by
    constructor
    · intro h
      by_cases hc : 2 * n + 1 < 0
      · exact hc
      · have := Int.mul_nonneg (show 0 ≤ 2 * n + 1 by omega) (Int.le_of_lt hp)
        omega
    · intro h
      exact Int.mul_neg_of_neg_of_pos h hp
  rw [add_key _ _ a1 (by decide) a2 (by decide) (by rw [hk]; exact h0), hk, Int.natAbs_mul, Int.natAbs_natCast, show hunit = Flt.pw 1073 from rfl, near_pw _ _ _ (by omega)]
  rw [show Flt.pw 1073 = hunit from rfl, show (-1074 : Int) + ((1073 : Nat) : Int) = -1 by decide]
  rw [(mk_facts (2 * n + 1) (-1) (by omega) (by omega) (by decide) (by decide)).1]
  congr 2
  by_cases h : 2 * n + 1 < 0
  · rw [if_pos h, if_pos (hneg.2 h)]
  · rw [if_neg h, if_neg (fun h' => h (hneg.1 h'))]
/-- Rounded, it is the even one. -/
theorem round_half (n E : Int) (hn : n.natAbs < 1099511627776) (hE : E = if n % 2 = 0 then n else n + 1) : Flt.round (Flt.mk (2 * n + 1) (-1)) = (if n < 0 then 9223372036854775808 else 0) + Flt.whl E.natAbs := by
  obtain ⟨a1, a2, a3, a4, a5, -⟩ := mk_facts (2 * n + 1) (-1) (by omega) (by omega) (by decide) (by decide)
  have hm : Flt.mag (Flt.mk (2 * n + 1) (-1)) = (2 * n + 1).natAbs * hunit := a5
  obtain ⟨N, hN⟩ : ∃ N : Nat, (2 * n + 1).natAbs = 2 * N + 1 := ⟨(2 * n + 1).natAbs / 2, by omega⟩
  rw [round_tie _ N a2 a3 (by rw [hm, hN, unit_two, Nat.mul_left_comm]), a4]
  have hNE : (if N % 2 = 1 then N + 1 else N) = E.natAbs := by
    subst hE
    split <;> split <;> omega
  rw [hNE]
  congr 1
  by_cases h : n < 0
  · rw [if_pos h, if_pos (decide_eq_true (by omega))]
  · rw [if_neg h, if_neg (by simp; omega)]
theorem whl_mk (E : Int) (h0 : E ≠ 0) (hE : E.natAbs < 9007199254740992) : Flt.mk E 0 = (if E < 0 then 9223372036854775808 else 0) + Flt.whl E.natAbs := by
  rw [(mk_facts E 0 h0 hE (by decide) (by decide)).1]
  unfold Flt.whl
  rw [if_neg (by omega : ¬ E.natAbs = 0)]
theorem fin_nan (b : Nat) (h7 : Flt.expo b ≠ 2047) : Flt.nanb b = false := by
  unfold Flt.nanb
  unfold Flt.expo at h7
  rw [decide_eq_false_iff_not]
  omega
/-- What was rounded is the even number, and is it as an int. -/
theorem even_facts (n E : Int) (hn : n.natAbs < 1073741824) (hE : E = if n % 2 = 0 then n else n + 1) (r : Nat) (hr : r = (if n < 0 then 9223372036854775808 else 0) + Flt.whl E.natAbs) :
    FloatKind.f64.format.order r (Flt.mk E 0) = some .eq ∧ Flt.clamp (Flt.wv r) (-1099511627776) 1099511627776 = E := by
  have hEl : E.natAbs < 1073741826 := by subst hE; split <;> omega
  by_cases h0 : E = 0
  · subst h0
    have hw : Flt.whl (0 : Int).natAbs = 0 := if_pos rfl
    rw [hw, Nat.add_zero] at hr
    rw [mk_zero]
    by_cases h : n < 0
    · rw [if_pos h] at hr
      subst hr
      exact ⟨by decide +kernel, by decide +kernel⟩
    · rw [if_neg h] at hr
      subst hr
      exact ⟨by decide +kernel, by decide +kernel⟩
  · have hrE : r = Flt.mk E 0 := by
      rw [hr, whl_mk E h0 (by omega)]
      congr 1
      have : n < 0 ↔ E < 0 := by subst hE; split at h0 <;> split <;> omega
      by_cases h : n < 0
      · rw [if_pos h, if_pos (this.1 h)]
      · rw [if_neg h, if_neg (fun h' => h (this.2 h'))]
    subst hrE
    obtain ⟨-, a2, a3, a4, a5, a6⟩ := mk_facts E 0 h0 (by omega) (by decide) (by decide)
    have hnn := fin_nan _ a3
    refine ⟨order_num' hnn, ?_⟩
    have hu := Flt.unit_pos
    have hfin : Flt.mk E 0 % 9223372036854775808 < 9218868437227405312 := by unfold Flt.expo at a3; omega
    have hk : Flt.key (Flt.mk E 0) = E * (Flt.unit : Int) := a6
    have hmg : Flt.mag (Flt.mk E 0) = E.natAbs * Flt.unit := a5
    have o1 := Flt.order_key (Flt.mk E 0) 4890909195324358656 a2 (by decide) hfin (by decide)
    have o2 := Flt.order_key (Flt.mk E 0) 14114281232179134464 a2 (by decide) hfin (by decide)
    have hT := Flt.toInt_key (Flt.mk E 0) a2 hfin
    have hup : (0 : Int) < (Flt.unit : Int) := by omega
    rw [Flt.key_b63, hk, Flt.cmp_lt (Int.mul_lt_mul_of_pos_right (by omega) hup)] at o1
    rw [Flt.key_n63, hk, ← Int.neg_mul, Flt.cmp_gt (Int.mul_lt_mul_of_pos_right (by omega) hup)] at o2
    rw [hmg, Nat.mul_div_cancel _ hu] at hT
    have hv : floatToIntVal .f64 (Flt.mk E 0) .i64 = some E := by
      have hE1 : (if 9223372036854775808 ≤ Flt.mk E 0 then -(E.natAbs : Int) else (E.natAbs : Int)) = E := by
        unfold Flt.neg at a4
        by_cases h : E < 0
        · rw [decide_eq_true h, decide_eq_true_eq] at a4
          rw [if_pos a4]; omega
        · rw [decide_eq_false h, decide_eq_false_iff_not] at a4
          rw [if_neg a4]; omega
      rw [hE1] at hT
      unfold floatToIntVal
      rw [show FloatKind.f64.decode (Flt.mk E 0) = double.read (Flt.mk E 0) from rfl, hT]
      dsimp only
      have e1 : IntKind.i64.min = -9223372036854775808 := by decide
      have e2 : IntKind.i64.max = 9223372036854775807 := by decide
      rw [e1, e2, if_pos (by omega)]
    rw [wv_mid hnn o1 o2 (by decide) hv]
    unfold Flt.clamp
    rw [if_pos (show E < 1099511627776 by omega), if_neg (show ¬ E < -1099511627776 by omega)]
end Go.Proofs.YtboighnmgnjhdaaDoor
