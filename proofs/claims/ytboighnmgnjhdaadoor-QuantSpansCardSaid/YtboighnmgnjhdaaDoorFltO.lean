/-
  A number as a whole one, between two ends: what the comparisons and the conversion give. By an AI agent. No person has read it.
-/
import Derived.Test.YtboighnmgnjhdaaDoorFltN
namespace Go.Proofs.YtboighnmgnjhdaaDoor
namespace Flt
open Ieee
theorem pw_add (a b : Nat) : pw (a + b) = pw a * 2 ^ b := Nat.pow_add 2 a b
theorem mag_pw (b : Nat) (h : 4503599627370496 ≤ b % 9223372036854775808) : mag b = (4503599627370496 + b % 4503599627370496) * pw (b % 9223372036854775808 / 4503599627370496 - 1) := by
  unfold mag pw
  rw [if_neg (by omega)]
theorem mag_at (b e m k : Nat) (h : 4503599627370496 ≤ b % 9223372036854775808) (he : b % 9223372036854775808 / 4503599627370496 - 1 = 1074 + e) (hm : (4503599627370496 + b % 4503599627370496) * 2 ^ e = k) (_h : m = k) : mag b = m * unit := by
  rw [mag_pw b h, he, pw_add, ← Nat.mul_assoc, Nat.mul_right_comm, hm, _h]
  rfl
theorem key_b63 : key 4890909195324358656 = (9223372036854775808 : Int) * (unit : Int) := by
  unfold key
  rw [if_neg (by decide), mag_at 4890909195324358656 11 9223372036854775808 _ (by decide) (by decide) rfl (by decide)]
  exact Int.natCast_mul 9223372036854775808 unit
theorem key_n63 : key 14114281232179134464 = -((9223372036854775808 : Int) * (unit : Int)) := by
  unfold key
  rw [if_pos (by decide), mag_at 14114281232179134464 11 9223372036854775808 _ (by decide) (by decide) rfl (by decide)]
  exact congrArg _ (Int.natCast_mul 9223372036854775808 unit)
theorem key_p9 : key 4890691058569617664 = (9000000000000000000 : Int) * (unit : Int) := by
  unfold key
  rw [if_neg (by decide), mag_at 4890691058569617664 10 9000000000000000000 _ (by decide) (by decide) rfl (by decide)]
  exact Int.natCast_mul 9000000000000000000 unit
theorem key_n9 : key 14114063095424393472 = -((9000000000000000000 : Int) * (unit : Int)) := by
  unfold key
  rw [if_pos (by decide), mag_at 14114063095424393472 10 9000000000000000000 _ (by decide) (by decide) rfl (by decide)]
  exact congrArg _ (Int.natCast_mul 9000000000000000000 unit)
theorem cmp_lt {a b : Int} (h : a < b) : compare a b = .lt := Int.compare_eq_lt.2 h
theorem cmp_gt {a b : Int} (h : b < a) : compare a b = .gt := Int.compare_eq_gt.2 h
theorem read_inf (r : Nat) (hr : r < 18446744073709551616) (he : expo r = 2047) (hf : frac r = 0) : double.read r = .infinity (neg r) := by
  have hn : (r / 9223372036854775808 % 2 == 1) = neg r := by
    unfold neg
    rw [Bool.eq_iff_iff]
    simp
    omega
  unfold expo at he
  unfold frac at hf
  unfold Format.read
  rw [sw, bn, ir]
  dsimp only
  rw [hn, if_neg (by omega), if_neg (by omega), if_pos (by omega)]
theorem order_inf (r c : Nat) (hr : r < 18446744073709551616) (hc : c < 18446744073709551616) (he : expo r = 2047) (hf : frac r = 0) (h : c % 9223372036854775808 < 9218868437227405312) : double.order r c = some (if neg r = true then .lt else .gt) := by
  obtain ⟨m, i, e1, -⟩ := read_num c hc h
  unfold Format.order
  rw [read_inf r hr he hf, e1]
  rfl
/-- A number against the ends of 64 bits: beyond, below, or it has a whole part. -/
theorem wv_cases (r : Nat) (hr : r < 18446744073709551616) (hn : nanb r = false) :
    ((double.order r 4890909195324358656 = some .gt ∨ double.order r 4890909195324358656 = some .eq) ∧ double.order r 4890691058569617664 = some .gt ∧ double.order r 14114063095424393472 = some .gt) ∨
    (double.order r 4890909195324358656 = some .lt ∧ double.order r 14114281232179134464 = some .lt ∧ double.order r 14114063095424393472 = some .lt) ∨
    (∃ n o o9 p9, double.order r 4890909195324358656 = some .lt ∧ double.order r 14114281232179134464 = some o ∧ o ≠ .lt ∧ double.order r 14114063095424393472 = some o9 ∧ double.order r 4890691058569617664 = some p9 ∧
      floatToIntVal .f64 r .i64 = some n ∧ -9223372036854775808 ≤ n ∧ n ≤ 9223372036854775807) := by
  have hel : expo r < 2048 := Nat.mod_lt _ (by decide)
  by_cases he : expo r = 2047
  · have hf : frac r = 0 := by
      cases Nat.decEq (frac r) 0 with
      | isTrue h => exact h
      | isFalse h => rw [(nan_iff r).2 ⟨he, h⟩] at hn; cases hn
    have o1 := order_inf r 4890909195324358656 hr (by decide) he hf (by decide)
    have o2 := order_inf r 14114281232179134464 hr (by decide) he hf (by decide)
    have o3 := order_inf r 4890691058569617664 hr (by decide) he hf (by decide)
    have o4 := order_inf r 14114063095424393472 hr (by decide) he hf (by decide)
    by_cases hs : neg r = true
    · rw [if_pos hs] at o1 o2 o3 o4
      exact .inr (.inl ⟨o1, o2, o4⟩)
    · rw [if_neg hs] at o1 o2 o3 o4
      exact .inl ⟨.inl o1, o3, o4⟩
  · have hfin : r % 9223372036854775808 < 9218868437227405312 := by unfold expo at he hel; omega
    have o1 := order_key r 4890909195324358656 hr (by decide) hfin (by decide)
    have o2 := order_key r 14114281232179134464 hr (by decide) hfin (by decide)
    have o3 := order_key r 4890691058569617664 hr (by decide) hfin (by decide)
    have o4 := order_key r 14114063095424393472 hr (by decide) hfin (by decide)
    rw [key_b63] at o1
    rw [key_n63] at o2
    rw [key_p9] at o3
    rw [key_n9] at o4
    have hu := unit_pos
    have hT := toInt_key r hr hfin
    have hk : key r = if 9223372036854775808 ≤ r then - (mag r : Int) else mag r := rfl
    have hd1 := Nat.div_add_mod (mag r) unit
    have hd2 := Nat.mod_lt (mag r) hu
    have hmul : (unit * (mag r / unit) : Nat) = (unit : Nat) * (mag r / unit) := rfl
    generalize hq : mag r / unit = q at *
    generalize mag r % unit = z at *
    generalize mag r = M at *
    generalize unit = U at *
    have hqM : M < (q + 1) * U := by rw [Nat.add_mul, Nat.mul_comm q]; omega
    have hqm : q * U ≤ M := by rw [Nat.mul_comm q]; omega
    by_cases c1 : (9223372036854775808 : Int) * (U : Int) ≤ key r
    · refine .inl ⟨?_, ?_, ?_⟩
      · rw [o1]
        rcases Int.lt_or_eq_of_le c1 with h | h
        · exact .inl (congrArg _ (cmp_gt h))
        · rw [← h]
          exact .inr (congrArg _ (Int.compare_eq_eq.2 rfl))
      · rw [o3]; exact congrArg _ (cmp_gt (by omega))
      · rw [o4]; exact congrArg _ (cmp_gt (by omega))
    · rw [cmp_lt (by omega)] at o1
      by_cases c2 : key r < -((9223372036854775808 : Int) * (U : Int))
      · rw [cmp_lt c2] at o2
        exact .inr (.inl ⟨o1, o2, by rw [o4]; exact congrArg _ (cmp_lt (by omega))⟩)
      · have hn1 : -9223372036854775808 ≤ (if 9223372036854775808 ≤ r then -(q : Int) else q) ∧ (if 9223372036854775808 ≤ r then -(q : Int) else q) ≤ 9223372036854775807 := by
          by_cases h : 9223372036854775808 ≤ r
          · rw [if_pos h] at hk ⊢
            have h1 : q * U ≤ 9223372036854775808 * U := by omega
            have h2 := Nat.le_of_mul_le_mul_right h1 hu
            omega
          · rw [if_neg h] at hk ⊢
            have h1 : q * U < 9223372036854775808 * U := by omega
            have h2 := Nat.lt_of_mul_lt_mul_right h1
            omega
        refine .inr (.inr ⟨if 9223372036854775808 ≤ r then -(q : Int) else q, _, _, _, o1, o2, ?_, o4, o3, ?_, hn1.1, hn1.2⟩)
        · intro h
          exact c2 (Int.compare_eq_lt.1 h)
        · unfold floatToIntVal
          rw [show FloatKind.f64.decode r = double.read r from rfl, hT]
          dsimp only
          have e1 : IntKind.i64.min = -9223372036854775808 := by decide
          have e2 : IntKind.i64.max = 9223372036854775807 := by decide
          rw [e1, e2, if_pos hn1]
/-- A number as a whole one, cut to 64 bits; of none 0. -/
def wv (r : Nat) : Int :=
  if nanb r = true then 0 else if double.order r 4890909195324358656 = some .lt then
    (if double.order r 14114281232179134464 = some .lt then -9223372036854775808 else (floatToIntVal .f64 r .i64).getD 0) else 9223372036854775807
/-- .. cut to two ends, the first going ahead. -/
def clamp (v a b : Int) : Int := if (if v < b then v else b) < a then a else (if v < b then v else b)
def cutv (n a b : Int) : Int := if n < a then a else if b < n then b else n
theorem clamp_cut (v a b : Int) : clamp v a b = cutv v a (if b < a then a else b) := by
  unfold clamp cutv
  generalize hm : (if v < b then v else b) = m
  generalize ht : (if b < a then a else b) = t
  have hm' : (v < b ∧ m = v) ∨ (¬ v < b ∧ m = b) := by
    by_cases h : v < b
    · rw [if_pos h] at hm; exact .inl ⟨h, hm.symm⟩
    · rw [if_neg h] at hm; exact .inr ⟨h, hm.symm⟩
  have ht' : (b < a ∧ t = a) ∨ (¬ b < a ∧ t = b) := by
    by_cases h : b < a
    · rw [if_pos h] at ht; exact .inl ⟨h, ht.symm⟩
    · rw [if_neg h] at ht; exact .inr ⟨h, ht.symm⟩
  clear hm ht
  by_cases h1 : m < a
  · rw [if_pos h1]
    by_cases h2 : v < a
    · rw [if_pos h2]
    · rw [if_neg h2]
      by_cases h3 : t < v
      · rw [if_pos h3]; omega
      · rw [if_neg h3]; omega
  · rw [if_neg h1]
    by_cases h2 : v < a
    · rw [if_pos h2]; omega
    · rw [if_neg h2]
      by_cases h3 : t < v
      · rw [if_pos h3]; omega
      · rw [if_neg h3]; omega
theorem nan_rround (b : Nat) (hb : b < 18446744073709551616) : nanb (rround b) = nanb b := by
  have hel : expo b < 2048 := Nat.mod_lt _ (by decide)
  unfold rround
  by_cases h1 : 1075 ≤ expo b
  · rw [if_pos h1]
  have hnb : nanb b = false := by
    unfold nanb
    unfold expo at h1 hel
    rw [decide_eq_false_iff_not]
    omega
  rw [if_neg h1, hnb]
  by_cases h2 : expo b < 1022
  · rw [if_pos h2]
    split <;> decide
  rw [if_neg h2]
  by_cases h3 : expo b = 1022
  · rw [if_pos h3]
    split <;> split <;> decide
  rw [if_neg h3]
  have hlow : b % 2 ^ (1075 - expo b) < 2 ^ (1075 - expo b) := Nat.mod_lt _ (Nat.two_pow_pos _)
  have hp : 2 ^ (1075 - expo b) ≤ 2 ^ 52 := Nat.pow_le_pow_right (by decide) (by omega)
  generalize 2 ^ (1075 - expo b) = P at *
  generalize b % P = low at *
  unfold nanb
  unfold expo at h1 h2 h3 hel
  rw [decide_eq_false_iff_not]
  split <;> omega
theorem rround_lt (b : Nat) (hb : b < 18446744073709551616) : rround b < 18446744073709551616 := by
  have hel : expo b < 2048 := Nat.mod_lt _ (by decide)
  unfold rround
  by_cases h1 : 1075 ≤ expo b
  · rw [if_pos h1]; exact hb
  rw [if_neg h1]
  by_cases h2 : expo b < 1022
  · rw [if_pos h2]
    split <;> decide
  rw [if_neg h2]
  by_cases h3 : expo b = 1022
  · rw [if_pos h3]
    split <;> split <;> decide
  rw [if_neg h3]
  have hp : 2 ^ (1075 - expo b) ≤ 2 ^ 52 := Nat.pow_le_pow_right (by decide) (by omega)
  generalize 2 ^ (1075 - expo b) = P at *
  generalize b % P = low at *
  unfold expo at h1 h2 h3 hel
  split <;> omega
end Flt
end Go.Proofs.YtboighnmgnjhdaaDoor
