/-
  Rounding by what a number says: near a whole one, and at a half. By an AI agent. No person has read it.
-/
import Derived.Test.YtboighnmgnjhdaaDoorFltS
import Derived.Test.YtboighnmgnjhdaaDoorFltLd
import Derived.Test.YtboighnmgnjhdaaDoorFltX
namespace Go.Proofs.YtboighnmgnjhdaaDoor
open Go.RowKit
open Ieee

/-- A half, in the smallest place. -/
def hunit : Nat := Flt.pw 1073
theorem hunit_pos : 0 < hunit := Flt.pw_pos 1073
theorem unit_two : Flt.unit = 2 * hunit := by
  unfold Flt.unit hunit
  rw [show 1074 = 1073 + 1 by decide, Flt.pw_add, Nat.pow_one, Nat.mul_comm]
theorem shift_up (m : Nat) (i : Int) (K : Nat) (hi : -(K : Int) ≤ i) : m * 2 ^ i.toNat * Flt.pw K = m * 2 ^ (i + K).toNat * 2 ^ (-i).toNat := by
  unfold Flt.pw
  rw [Nat.mul_assoc, Nat.mul_assoc, ← Nat.pow_add, ← Nat.pow_add]
  congr 2
  omega
/-- A whole number's number. -/
def Flt.whl (N : Nat) : Nat := if N = 0 then 0 else Flt.near N 0
theorem nearest_whl (g : Bool) (N : Nat) : double.nearest g N 0 = (if g = true then 9223372036854775808 else 0) + Flt.whl N := by
  unfold Flt.whl
  by_cases h : N = 0
  · subst h
    rw [Flt.nearest_zero, if_pos rfl, Nat.add_zero]
  · rw [if_neg h, near_sign _ _ _ h]
theorem round_read (y : Nat) (hy : y < 18446744073709551616) (h7 : Flt.expo y ≠ 2047) : ∃ A P : Nat, 0 < P ∧ A * Flt.unit = Flt.mag y * P ∧ Flt.round y = (if Flt.neg y = true then 9223372036854775808 else 0) + Flt.whl (Flt.half A P) := by
  obtain ⟨m, i, e1, hi, hm, -⟩ := Flt.read_num y hy (by unfold Flt.expo at h7; omega)
  refine ⟨m * 2 ^ i.toNat, 2 ^ (-i).toNat, Nat.two_pow_pos _, ?_, ?_⟩
  · rw [← hm]
    exact shift_up m i 1074 hi
  · unfold Flt.round
    rw [if_neg h7, e1]
    simp only [Datum.integral, Format.write]
    rw [Flt.cut_even, Nat.shiftLeft_eq, nearest_whl]
    rfl
theorem half_near (A P N : Nat) (hP : 0 < P) (h1 : 2 * N * P < 2 * A + P) (h2 : 2 * A < (2 * N + 1) * P) : Flt.half A P = N := by
  have hd := Nat.div_add_mod A P
  have hm : A % P < P := Nat.mod_lt _ hP
  obtain ⟨q, hq⟩ : ∃ q, A / P = q := ⟨_, rfl⟩
  unfold Flt.half
  rw [hq] at hd ⊢
  generalize A % P = r at *
  have hA : A = q * P + r := by rw [Nat.mul_comm]; exact hd.symm
  rw [Nat.add_mul, Nat.mul_assoc] at h2
  rw [Nat.mul_assoc] at h1
  have hNq : N = q ∨ N = q + 1 := by
    rcases Nat.lt_trichotomy N q with h | h | h
    · obtain ⟨d, rfl⟩ : ∃ d, q = N + (d + 1) := ⟨q - N - 1, by omega⟩
      have e : (N + (d + 1)) * P = N * P + d * P + P := by rw [Nat.add_mul, Nat.add_mul, Nat.one_mul]; omega
      omega
    · exact .inl h
    · obtain ⟨d, rfl⟩ : ∃ d, N = q + (d + 1) := ⟨N - q - 1, by omega⟩
      rcases d with _ | d
      · exact .inr (by omega)
      · have e : (q + (d + 1 + 1)) * P = q * P + d * P + 2 * P := by rw [Nat.add_mul, Nat.add_mul, Nat.add_mul, Nat.one_mul]; omega
        omega
  rcases hNq with rfl | rfl
  · rw [if_neg (by omega)]
    omega
  · have e : (q + 1) * P = q * P + P := by rw [Nat.add_mul, Nat.one_mul]
    rw [if_pos (by omega)]
theorem half_tie (A P N : Nat) (hP : 0 < P) (h : 2 * A = (2 * N + 1) * P) : Flt.half A P = if N % 2 = 1 then N + 1 else N := by
  have hd := Nat.div_add_mod A P
  have hm : A % P < P := Nat.mod_lt _ hP
  obtain ⟨q, hq⟩ : ∃ q, A / P = q := ⟨_, rfl⟩
  unfold Flt.half
  rw [hq] at hd ⊢
  generalize A % P = r at *
  have hA : A = q * P + r := by rw [Nat.mul_comm]; exact hd.symm
  rw [Nat.add_mul, Nat.mul_assoc] at h
  have hNq : N = q := by
    rcases Nat.lt_trichotomy N q with h' | h' | h'
    · obtain ⟨d, rfl⟩ : ∃ d, q = N + (d + 1) := ⟨q - N - 1, by omega⟩
      have e : (N + (d + 1)) * P = N * P + d * P + P := by rw [Nat.add_mul, Nat.add_mul, Nat.one_mul]; omega
      omega
    · exact h'
    · obtain ⟨d, rfl⟩ : ∃ d, N = q + (d + 1) := ⟨N - q - 1, by omega⟩
      have e : (q + (d + 1)) * P = q * P + d * P + P := by rw [Nat.add_mul, Nat.add_mul, Nat.one_mul]; omega
      omega
  subst hNq
  by_cases ho : N % 2 = 1
  · rw [if_pos ho, if_pos (by omega)]
  · rw [if_neg ho, if_neg (by omega)]
    omega
theorem round_key (y N : Nat) (hy : y < 18446744073709551616) (h7 : Flt.expo y ≠ 2047) (h1 : 2 * N * Flt.unit < 2 * Flt.mag y + Flt.unit) (h2 : 2 * Flt.mag y < (2 * N + 1) * Flt.unit) : Flt.round y = (if Flt.neg y = true then 9223372036854775808 else 0) + Flt.whl N := by
  obtain ⟨A, P, hP, hA, hr⟩ := round_read y hy h7
  have hu := Flt.unit_pos
  rw [hr, half_near A P N hP]
  · apply Nat.lt_of_mul_lt_mul_right (a := Flt.unit)
    have := Nat.mul_lt_mul_of_pos_right h1 hP
    rw [Nat.add_mul, Nat.mul_assoc 2 (Flt.mag y), ← hA] at this
    rw [Nat.add_mul, Nat.mul_assoc 2 A, Nat.mul_right_comm (2 * N), Nat.mul_comm P]
    exact this
  · apply Nat.lt_of_mul_lt_mul_right (a := Flt.unit)
    have := Nat.mul_lt_mul_of_pos_right h2 hP
    rw [Nat.mul_assoc 2 (Flt.mag y), ← hA] at this
    rw [Nat.mul_assoc 2 A, Nat.mul_right_comm (2 * N + 1)]
    exact this
theorem round_tie (y N : Nat) (hy : y < 18446744073709551616) (h7 : Flt.expo y ≠ 2047) (h : 2 * Flt.mag y = (2 * N + 1) * Flt.unit) : Flt.round y = (if Flt.neg y = true then 9223372036854775808 else 0) + Flt.whl (if N % 2 = 1 then N + 1 else N) := by
  obtain ⟨A, P, hP, hA, hr⟩ := round_read y hy h7
  have hu := Flt.unit_pos
  rw [hr, half_tie A P N hP]
  apply Nat.eq_of_mul_eq_mul_right hu
  have := congrArg (· * P) h
  simp only [Nat.mul_assoc 2 (Flt.mag y), ← hA] at this
  rw [Nat.mul_assoc 2 A, this, Nat.mul_right_comm]
/-- What a whole number of few digits by a power says. -/
theorem near_exact (s : Nat) (e : Int) (h0 : s ≠ 0) (hs : s < 9007199254740992) (h1 : -1000 ≤ e) (h2 : e ≤ 900) :
    Flt.expo (Flt.near s e) = (e + s.log2 + 1023).toNat ∧ Flt.near s e < 9218868437227405312 ∧ Flt.mag (Flt.near s e) = s * Flt.pw (e + 1074).toNat := by
  have hl : s.log2 < 53 := (Nat.log2_lt h0).2 hs
  obtain ⟨a, -, -⟩ := near_usual s e h0 (by omega) (by omega) (by omega)
  have hlo : 2 ^ s.log2 ≤ s := Nat.log2_self_le h0
  have hhi : s < 2 ^ (s.log2 + 1) := Nat.lt_log2_self
  have e1 : s * 2 ^ (63 - s.log2) = s * 2 ^ (52 - s.log2) * 2 ^ 11 := by
    rw [Nat.mul_assoc, ← Nat.pow_add]
    congr 2
    omega
  rw [e1, half_exact _ _ (by decide)] at a
  have b1 : 4503599627370496 ≤ s * 2 ^ (52 - s.log2) := by
    have b : 2 ^ s.log2 * 2 ^ (52 - s.log2) ≤ s * 2 ^ (52 - s.log2) := Nat.mul_le_mul_right _ hlo
    rw [← Nat.pow_add, show s.log2 + (52 - s.log2) = 52 by omega] at b
    exact b
  have b2 : s * 2 ^ (52 - s.log2) < 9007199254740992 := by
    have b : s * 2 ^ (52 - s.log2) < 2 ^ (s.log2 + 1) * 2 ^ (52 - s.log2) := Nat.mul_lt_mul_of_pos_right hhi (Nat.two_pow_pos _)
    rw [← Nat.pow_add, show s.log2 + 1 + (52 - s.log2) = 53 by omega] at b
    exact b
  obtain ⟨E, hE⟩ : ∃ E : Nat, (e + (s.log2 : Int) + 1022).toNat = E := ⟨_, rfl⟩
  rw [hE] at a
  have hZ : s * Flt.pw (e + 1074).toNat = s * 2 ^ (52 - s.log2) * Flt.pw E := by
    unfold Flt.pw
    rw [Nat.mul_assoc, ← Nat.pow_add]
    congr 2
    omega
  rw [hZ]
  obtain ⟨Z, hZZ⟩ : ∃ Z, s * 2 ^ (52 - s.log2) = Z := ⟨_, rfl⟩
  rw [hZZ] at a b1 b2 ⊢
  have hE2 : E ≤ 2000 := by omega
  refine ⟨by unfold Flt.expo; omega, by omega, ?_⟩
  rw [Flt.mag_pw _ (by omega), show Flt.near s e % 9223372036854775808 / 4503599627370496 - 1 = E by omega, show 4503599627370496 + Flt.near s e % 4503599627370496 = Z by omega]
end Go.Proofs.YtboighnmgnjhdaaDoor
