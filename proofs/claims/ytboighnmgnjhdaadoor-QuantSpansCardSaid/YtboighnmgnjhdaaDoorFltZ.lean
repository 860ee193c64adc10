/-
  The reference's Make, walked: the nearest number. By an AI agent. No person has read it.
-/
import Derived.Test.YtboighnmgnjhdaaDoorFltNr
namespace Go.Proofs.YtboighnmgnjhdaaDoor
open Go.RowKit

/-- A number cut at a bit: what stays, and what is left over, at the top of a word. -/
theorem shift_facts (s d c : Nat) (hc : d + c = 64) :
    IntKind.u64.wrap ((s : Int) * 2 ^ c) = ((s % 2 ^ d * 2 ^ c : Nat) : Int) ∧
    Flt.half s (2 ^ d) = s / 2 ^ d + (if 9223372036854775808 < s % 2 ^ d * 2 ^ c ∨ s % 2 ^ d * 2 ^ c = 9223372036854775808 ∧ s / 2 ^ d % 2 = 1 then 1 else 0) := by
  have hPC : 2 ^ d * 2 ^ c = 18446744073709551616 := by rw [← Nat.pow_add, hc]
  have hP0 := Nat.two_pow_pos d
  have hC0 := Nat.two_pow_pos c
  have hdm := Nat.div_add_mod s (2 ^ d)
  have hlow : s % 2 ^ d < 2 ^ d := Nat.mod_lt _ hP0
  constructor
  · rw [IntKind.wrap_u64]
    have e1 : (s : Int) * 2 ^ c = ((s * 2 ^ c : Nat) : Int) := by simp
    have e2 : s * 2 ^ c = 18446744073709551616 * (s / 2 ^ d) + s % 2 ^ d * 2 ^ c := by
      rw [← hPC, Nat.mul_right_comm, ← Nat.add_mul, hdm]
    have e3 : s % 2 ^ d * 2 ^ c < 18446744073709551616 := by
      rw [← hPC]
      exact Nat.mul_lt_mul_of_pos_right hlow hC0
    rw [e1, e2]
    omega
  · have hc1 : 2 ^ d < 2 * (s % 2 ^ d) ↔ 9223372036854775808 < s % 2 ^ d * 2 ^ c := by
      constructor
      · intro h
        have := Nat.mul_lt_mul_of_pos_right h hC0
        rw [hPC, Nat.mul_assoc] at this
        omega
      · intro h
        apply Nat.lt_of_mul_lt_mul_right (a := 2 ^ c)
        rw [hPC, Nat.mul_assoc]
        omega
    have hc2 : 2 ^ d = 2 * (s % 2 ^ d) ↔ s % 2 ^ d * 2 ^ c = 9223372036854775808 := by
      constructor
      · intro h
        have := congrArg (· * 2 ^ c) h
        simp only [hPC, Nat.mul_assoc] at this
        omega
      · intro h
        apply Nat.eq_of_mul_eq_mul_right hC0
        rw [hPC, Nat.mul_assoc]
        omega
    unfold Flt.half
    simp only [hc1, hc2]
theorem half_exact (x P : Nat) (hP : 0 < P) : Flt.half (x * P) P = x := by
  unfold Flt.half
  rw [Nat.mul_div_cancel _ hP, Nat.mul_mod_left, if_neg (by omega), Nat.add_zero]
theorem half_scale (x P t : Nat) (ht : 0 < t) : Flt.half (x * t) (P * t) = Flt.half x P := by
  unfold Flt.half
  rw [Nat.mul_div_mul_right _ _ ht, Nat.mul_mod_mul_right]
  generalize x % P = y
  have e1 : P * t < 2 * (y * t) ↔ P < 2 * y := by
    rw [← Nat.mul_assoc]
    exact Nat.mul_lt_mul_right ht
  have e2 : P * t = 2 * (y * t) ↔ P = 2 * y := by
    rw [← Nat.mul_assoc]
    exact ⟨fun h => Nat.eq_of_mul_eq_mul_right ht h, fun h => by rw [h]⟩
  simp only [e1, e2]
/-- The kept digits, off the number moved to the top of a word. -/
theorem kept_eq (s : Nat) (e last : Int) (t d : Nat) (h : last - e = (d : Int) - t) : Flt.half (s * 2 ^ t) (2 ^ d) = Flt.half (s * 2 ^ (e - last).toNat) (2 ^ (last - e).toNat) := by
  by_cases hle : t ≤ d
  · obtain ⟨j, rfl⟩ : ∃ j, d = j + t := ⟨d - t, by omega⟩
    rw [show (e - last).toNat = 0 by omega, show (last - e).toNat = j by omega, Nat.pow_zero, Nat.mul_one, Nat.pow_add, half_scale _ _ _ (Nat.two_pow_pos t)]
  · obtain ⟨j, rfl⟩ : ∃ j, t = j + d := ⟨t - d, by omega⟩
    rw [show (e - last).toNat = j by omega, show (last - e).toNat = 0 by omega, Nat.pow_add, ← Nat.mul_assoc, half_exact _ _ (Nat.two_pow_pos d)]
    exact (half_one _).symm
theorem or_sgn (g x : Nat) (hg : g = 0 ∨ g = 9223372036854775808) (hx : x < 9223372036854775808) : bits .or .u64 (g : Int) (x : Int) = ((g + x : Nat) : Int) := by
  rw [u64_or_nat _ _ (by omega) (by omega)]
  rcases hg with rfl | rfl
  · simp
  · have h1 := Nat.two_pow_add_eq_or_of_lt (b := x) (i := 63) (by omega) 1
    have h2 : 9223372036854775808 + x = 9223372036854775808 ||| x := h1
    rw [h2]
/-- The cases of the nearest number, as the reference has them. -/
theorem near_top (s : Nat) (e : Int) (h0 : s ≠ 0) (hs : s < 18446744073709551616) (ht : 1023 < e + s.log2) : Flt.near s e = 9218868437227405312 := by
  have hl64 : s.log2 < 64 := (Nat.log2_lt h0).2 hs
  have hlo : 2 ^ s.log2 ≤ s := Nat.log2_self_le h0
  rw [near_eq s e h0]
  apply Nat.min_eq_right
  have hm : max (e + (s.log2 : Int) - 52) (-1074) = e + s.log2 - 52 := by omega
  rw [hm]
  have h1 : 2046 ≤ (e + (s.log2 : Int) - 52 + 1074).toNat := by omega
  have h2 := Nat.mul_le_mul_right 4503599627370496 h1
  have h3 : 4503599627370496 ≤ Flt.half (s * 2 ^ (e - (e + (s.log2 : Int) - 52)).toNat) (2 ^ (e + (s.log2 : Int) - 52 - e).toNat) := by
    rw [← kept_eq s e (e + s.log2 - 52) (63 - s.log2) 11 (by omega)]
    unfold Flt.half
    have h4 : 4503599627370496 ≤ s * 2 ^ (63 - s.log2) / 2 ^ 11 := by
      rw [Nat.le_div_iff_mul_le (by decide)]
      have h5 : 2 ^ s.log2 * 2 ^ (63 - s.log2) ≤ s * 2 ^ (63 - s.log2) := Nat.mul_le_mul_right _ hlo
      rw [← Nat.pow_add, show s.log2 + (63 - s.log2) = 63 by omega] at h5
      omega
    omega
  omega
theorem near_low (s : Nat) (e : Int) (h0 : s ≠ 0) (ht : e + s.log2 < -1075) : Flt.near s e = 0 := by
  have hhi : s < 2 ^ (s.log2 + 1) := Nat.lt_log2_self
  rw [near_eq s e h0]
  have hm : max (e + (s.log2 : Int) - 52) (-1074) = -1074 := by omega
  rw [hm, show (e - -1074).toNat = 0 by omega, Nat.pow_zero, Nat.mul_one, Flt.half_small]
  · decide
  · have h1 := Flt.pow_le (s.log2 + 1 + 1) (-1074 - e).toNat (by omega)
    rw [Nat.pow_succ] at h1
    omega
theorem near_usual (s : Nat) (e : Int) (h0 : s ≠ 0) (hs : s < 18446744073709551616) (h1 : -1022 ≤ e + s.log2) (h2 : e + s.log2 ≤ 1023) : Flt.near s e = (e + s.log2 + 1022).toNat * 4503599627370496 + Flt.half (s * 2 ^ (63 - s.log2)) (2 ^ 11) ∧ 4503599627370496 ≤ Flt.half (s * 2 ^ (63 - s.log2)) (2 ^ 11) ∧ Flt.half (s * 2 ^ (63 - s.log2)) (2 ^ 11) ≤ 9007199254740992 := by
  have hl64 : s.log2 < 64 := (Nat.log2_lt h0).2 hs
  have hlo : 2 ^ s.log2 ≤ s := Nat.log2_self_le h0
  have hhi : s < 2 ^ (s.log2 + 1) := Nat.lt_log2_self
  have h5 : 2 ^ s.log2 * 2 ^ (63 - s.log2) ≤ s * 2 ^ (63 - s.log2) := Nat.mul_le_mul_right _ hlo
  rw [← Nat.pow_add, show s.log2 + (63 - s.log2) = 63 by omega] at h5
  have h6 : s * 2 ^ (63 - s.log2) < 2 ^ (s.log2 + 1) * 2 ^ (63 - s.log2) := Nat.mul_lt_mul_of_pos_right hhi (Nat.two_pow_pos _)
  rw [← Nat.pow_add, show s.log2 + 1 + (63 - s.log2) = 64 by omega] at h6
  have h7 : 4503599627370496 ≤ Flt.half (s * 2 ^ (63 - s.log2)) (2 ^ 11) ∧ Flt.half (s * 2 ^ (63 - s.log2)) (2 ^ 11) ≤ 9007199254740992 := by
    generalize s * 2 ^ (63 - s.log2) = U at *
    unfold Flt.half
    split <;> omega
  refine ⟨?_, h7⟩
  rw [near_eq s e h0]
  have hm : max (e + (s.log2 : Int) - 52) (-1074) = e + s.log2 - 52 := by omega
  rw [hm, ← kept_eq s e (e + s.log2 - 52) (63 - s.log2) 11 (by omega), show (e + (s.log2 : Int) - 52 + 1074).toNat = (e + s.log2 + 1022).toNat by omega]
  apply Nat.min_eq_left
  have h8 : (e + (s.log2 : Int) + 1022).toNat ≤ 2045 := by omega
  have h9 := Nat.mul_le_mul_right 4503599627370496 h8
  exact Nat.le_trans (Nat.add_le_add h9 h7.2) (by decide)
theorem near_small (s : Nat) (e : Int) (h0 : s ≠ 0) (hs : s < 18446744073709551616) (h1 : e + s.log2 < -1022) (d : Nat) (hd : (d : Int) = -1011 - (e + s.log2)) : Flt.near s e = Flt.half (s * 2 ^ (63 - s.log2)) (2 ^ d) ∧ Flt.half (s * 2 ^ (63 - s.log2)) (2 ^ d) ≤ 4503599627370496 := by
  have hl64 : s.log2 < 64 := (Nat.log2_lt h0).2 hs
  have hhi : s < 2 ^ (s.log2 + 1) := Nat.lt_log2_self
  have h6 : s * 2 ^ (63 - s.log2) < 2 ^ (s.log2 + 1) * 2 ^ (63 - s.log2) := Nat.mul_lt_mul_of_pos_right hhi (Nat.two_pow_pos _)
  rw [← Nat.pow_add, show s.log2 + 1 + (63 - s.log2) = 64 by omega] at h6
  have h7 : Flt.half (s * 2 ^ (63 - s.log2)) (2 ^ d) ≤ 4503599627370496 := by
    have h8 := half_le2 (s * 2 ^ (63 - s.log2)) (2 ^ d)
    have h9 : s * 2 ^ (63 - s.log2) / 2 ^ d ≤ s * 2 ^ (63 - s.log2) / 2 ^ 12 := Nat.div_le_div_left (Flt.pow_le 12 d (by omega)) (by decide)
    have h10 : s * 2 ^ (63 - s.log2) / 2 ^ 12 < 4503599627370496 := by
      rw [Nat.div_lt_iff_lt_mul (by decide)]
      omega
    omega
  refine ⟨?_, h7⟩
  rw [near_eq s e h0]
  have hm : max (e + (s.log2 : Int) - 52) (-1074) = -1074 := by omega
  rw [hm, ← kept_eq s e (-1074) (63 - s.log2) d (by omega), show ((-1074 : Int) + 1074).toNat = 0 by decide, Nat.zero_mul, Nat.zero_add]
  apply Nat.min_eq_left
  omega
end Go.Proofs.YtboighnmgnjhdaaDoor
