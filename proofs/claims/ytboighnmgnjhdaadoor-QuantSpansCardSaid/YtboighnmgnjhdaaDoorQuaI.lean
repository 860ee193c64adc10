/-
  The difference of two finite numbers: the number nearest to the difference of what they say. By an AI agent. No person has read it.
-/
import Derived.Test.YtboighnmgnjhdaaDoorFltP
namespace Go.Proofs.YtboighnmgnjhdaaDoor
open Ieee

theorem read_opp (b : Nat) (hb : b < 18446744073709551616) (h : b % 9223372036854775808 < 9218868437227405312) :
    ∃ m i, (double.read b).opposite = .number (!(decide (9223372036854775808 ≤ b))) m i ∧ -1074 ≤ i ∧ -Flt.key b = signed (!(decide (9223372036854775808 ≤ b))) m (i + 1074).toNat := by
  obtain ⟨n, j, e2, hj, hn, -⟩ := Flt.read_num b hb h
  refine ⟨n, j, ?_, hj, ?_⟩
  · rw [e2]; rfl
  · rw [Flt.signed_eq, hn]
    unfold Flt.key
    by_cases h : 9223372036854775808 ≤ b <;> simp [h]
theorem sub_read (a b : Nat) (ha : a < 18446744073709551616) (hb : b < 18446744073709551616) (h1 : a % 9223372036854775808 < 9218868437227405312) (h2 : b % 9223372036854775808 < 9218868437227405312) :
    ∃ (T : Int) (base : Int) (k : Nat), Flt.key a - Flt.key b = T * ((2 ^ k : Nat) : Int) ∧ -1074 + (k : Int) = base ∧ double.sub a b = some (double.nearest (if T = 0 then Flt.neg a && !Flt.neg b else T < 0) T.natAbs base) := by
  obtain ⟨m, i, e1, hi, hm, -⟩ := Flt.read_num a ha h1
  obtain ⟨n, j, e2, hj, kb⟩ := read_opp b hb h2
  have ka : Flt.key a = signed (decide (9223372036854775808 ≤ a)) m (i + 1074).toNat := by
    rw [Flt.signed_eq, hm]
    unfold Flt.key
    by_cases h : 9223372036854775808 ≤ a <;> simp [h]
  obtain ⟨base, hbase⟩ : ∃ base : Int, min i j = base := ⟨_, rfl⟩
  obtain ⟨k, hk⟩ : ∃ k : Nat, (base + 1074).toNat = k := ⟨_, rfl⟩
  obtain ⟨T, hT⟩ : ∃ T, signed (decide (9223372036854775808 ≤ a)) m (i - base).toNat + signed (!(decide (9223372036854775808 ≤ b))) n (j - base).toNat = T := ⟨_, rfl⟩
  have hkey : Flt.key a + -Flt.key b = T * ((2 ^ k : Nat) : Int) := by
    rw [ka, kb, ← hT, show (i + 1074).toNat = (i - base).toNat + k by omega, show (j + 1074).toNat = (j - base).toNat + k by omega, Flt.signed_add, Flt.signed_add, Int.add_mul]
  refine ⟨T, base, k, by rw [← hkey]; omega, by omega, ?_⟩
  unfold Format.sub
  rw [e1, e2]
  simp only [Datum.sum, Option.map_some, Format.write]
  rw [hbase, hT]
  unfold Flt.neg
  rfl
/-- Of different numbers. -/
theorem sub_ne (a b : Nat) (ha : a < 18446744073709551616) (hb : b < 18446744073709551616) (h1 : a % 9223372036854775808 < 9218868437227405312) (h2 : b % 9223372036854775808 < 9218868437227405312) (h0 : Flt.key a - Flt.key b ≠ 0) :
    double.sub a b = some ((if Flt.key a - Flt.key b < 0 then 9223372036854775808 else 0) + Flt.near (Flt.key a - Flt.key b).natAbs (-1074)) := by
  obtain ⟨T, base, k, hkey, hbk, hs⟩ := sub_read a b ha hb h1 h2
  have hp : (0 : Int) < ((2 ^ k : Nat) : Int) := by exact_mod_cast Nat.two_pow_pos k
  rw [hkey] at h0 ⊢
  have hT0 : T ≠ 0 := fun h => h0 (by rw [h, Int.zero_mul])
  have hneg : T * ((2 ^ k : Nat) : Int) < 0 ↔ T < 0 := by
    constructor
    · intro h
      by_cases hc : T < 0
      · exact hc
      · have := Int.mul_nonneg (show 0 ≤ T by omega) (Int.le_of_lt hp)
        omega
    · intro h
      exact Int.mul_neg_of_neg_of_pos h hp
  have hab : (T * ((2 ^ k : Nat) : Int)).natAbs = T.natAbs * 2 ^ k := by rw [Int.natAbs_mul, Int.natAbs_natCast]
  rw [hs, if_neg hT0, hab, near_scale _ _ _ (by omega), hbk, near_sign _ _ _ (by omega)]
  congr 2
  by_cases h : T < 0
  · rw [if_pos (decide_eq_true h), if_pos (hneg.2 h)]
  · rw [if_neg (by simpa using h), if_neg (fun h' => h (hneg.1 h'))]
/-- Of equal numbers, the first of which has no sign. -/
theorem sub_eq (a b : Nat) (ha : a < 18446744073709551616) (hb : b < 18446744073709551616) (h1 : a % 9223372036854775808 < 9218868437227405312) (h2 : b % 9223372036854775808 < 9218868437227405312) (h0 : Flt.key a - Flt.key b = 0) (hn : Flt.neg a = false) :
    double.sub a b = some 0 := by
  obtain ⟨T, base, k, hkey, hbk, hs⟩ := sub_read a b ha hb h1 h2
  have hp : (0 : Int) < ((2 ^ k : Nat) : Int) := by exact_mod_cast Nat.two_pow_pos k
  have hT0 : T = 0 := by
    rw [h0] at hkey
    rcases Int.mul_eq_zero.1 hkey.symm with h | h
    · exact h
    · omega
  subst hT0
  rw [hs, if_pos rfl, hn, Bool.false_and, Int.natAbs_zero, Flt.nearest_zero]
  rfl
theorem mag_norm (t f : Nat) (h1 : 1 ≤ t) (h2 : t < 2047) (hf : f < 4503599627370496) : Flt.mag (t * 4503599627370496 + f) = (4503599627370496 + f) * Flt.pw (t - 1) ∧ Flt.key (t * 4503599627370496 + f) = ((4503599627370496 + f) * Flt.pw (t - 1) : Nat) ∧ Flt.expo (t * 4503599627370496 + f) = t ∧ Flt.frac (t * 4503599627370496 + f) = f ∧ Flt.neg (t * 4503599627370496 + f) = false ∧ t * 4503599627370496 + f < 9218868437227405312 := by
  have hm : Flt.mag (t * 4503599627370496 + f) = (4503599627370496 + f) * Flt.pw (t - 1) := by
    unfold Flt.mag Flt.pw
    rw [if_neg (by omega), show (t * 4503599627370496 + f) % 4503599627370496 = f by omega, show (t * 4503599627370496 + f) % 9223372036854775808 / 4503599627370496 = t by omega]
  refine ⟨hm, ?_, by unfold Flt.expo; omega, by unfold Flt.frac; omega, by unfold Flt.neg; rw [decide_eq_false_iff_not]; omega, by omega⟩
  unfold Flt.key
  rw [if_neg (by omega), hm]
theorem pw_add (a b : Nat) : Flt.pw (a + b) = Flt.pw a * Flt.pw b := Nat.pow_add 2 a b
/-- A whole number of 31 bits as a number. -/
theorem mk_31 (M : Nat) (h1 : 1073741824 ≤ M) (h2 : M < 2147483648) : Flt.mk (M : Int) 0 = 1053 * 4503599627370496 + (M * 4194304 - 4503599627370496) := by
  obtain ⟨a1, a2, a3⟩ := near_exact M 0 (by omega) (by omega) (by decide) (by decide)
  have hl : M.log2 = 30 := Flt.log2_of (by omega) (by omega)
  have hmk : Flt.mk (M : Int) 0 = Flt.near M 0 := by
    unfold Flt.mk
    rw [if_neg (by omega), near_sign _ _ _ (by omega), if_neg (by simp), Nat.zero_add]
    rfl
  rw [hmk]
  rw [hl] at a1
  have hfl := Flt.frac_lt' (Flt.near M 0)
  have hb : Flt.near M 0 = 1053 * 4503599627370496 + Flt.frac (Flt.near M 0) := by
    have e1 : Flt.expo (Flt.near M 0) = 1053 := by omega
    unfold Flt.expo at e1
    unfold Flt.frac
    omega
  have hm := (mag_norm 1053 (Flt.frac (Flt.near M 0)) (by decide) (by decide) hfl).1
  rw [← hb, a3, show ((0 : Int) + 1074).toNat = 22 + 1052 by decide, show 1053 - 1 = 1052 by decide, pw_add, ← Nat.mul_assoc] at hm
  have := Nat.eq_of_mul_eq_mul_right (Flt.pw_pos 1052) hm
  have e22 : Flt.pw 22 = 4194304 := by decide
  rw [e22] at this
  omega
end Go.Proofs.YtboighnmgnjhdaaDoor
