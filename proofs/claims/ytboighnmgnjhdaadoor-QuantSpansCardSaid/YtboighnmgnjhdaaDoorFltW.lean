/-
  Products by a power of two; the odd part and the power of an odd number's number. By an AI agent. No person has read it.
-/
import Derived.Test.YtboighnmgnjhdaaDoorFltU
import Derived.Test.YtboighnmgnjhdaaDoorFltZ
namespace Go.Proofs.YtboighnmgnjhdaaDoor
open Go.RowKit
open Ieee

/-- A usual number: its significand and its place. -/
theorem mul_pow (x : Nat) (hx : x < 18446744073709551616) (h0 : Flt.expo x ≠ 0) (h7 : Flt.expo x ≠ 2047) (c : Nat) (j : Nat) (hc : double.read c = .number false 4503599627370496 ((j : Int) - 52)) (hj : Flt.expo x + j < 2047) : double.mul c x = some (x + j * 4503599627370496) := by
  have hf := frac_lt x
  unfold Format.mul
  rw [hc, Flt.read_usual x hx h0 h7]
  simp only [Datum.product, Option.map_some, Format.write, Bool.false_bne]
  congr 1
  obtain ⟨m, hm⟩ : ∃ m, 4503599627370496 + Flt.frac x = m := ⟨_, rfl⟩
  rw [hm]
  have hm1 : 4503599627370496 ≤ m := by omega
  have hm2 : m < 9007199254740992 := by omega
  have hK : 4503599627370496 * m ≠ 0 := by omega
  have hl : (4503599627370496 * m).log2 = 104 := by
    apply Flt.log2_of
    · have := Nat.mul_le_mul_left 4503599627370496 hm1
      omega
    · have : 4503599627370496 * m < 4503599627370496 * 9007199254740992 := Nat.mul_lt_mul_of_pos_left hm2 (by decide)
      omega
  unfold Format.nearest
  rw [if_neg hK, hl, Flt.lp, Flt.bn, Flt.ir, Flt.word_eq]
  have hfb : double.fractionBits = 52 := rfl
  rw [hfb]
  have hp : ((j : Int) - 52 + ((Flt.expo x : Int) - 1075) : Int) = (j : Int) + Flt.expo x - 1127 := by omega
  rw [hp]
  have hmx : max ((j : Int) + Flt.expo x - 1127 + (104 : Nat) - (52 : Nat)) (-1074) = (j : Int) + Flt.expo x - 1075 := by omega
  rw [hmx, show ((j : Int) + (Flt.expo x : Int) - 1127 - ((j : Int) + Flt.expo x - 1075)).toNat = 0 by omega, show ((j : Int) + (Flt.expo x : Int) - 1075 - ((j : Int) + Flt.expo x - 1127)).toNat = 52 by omega, show ((j : Int) + (Flt.expo x : Int) - 1075 - -1074).toNat = j + Flt.expo x - 1 by omega, Nat.shiftLeft_zero, Flt.cut_even]
  have hh : Flt.half (4503599627370496 * m) (2 ^ 52) = m := by
    rw [Nat.mul_comm]
    exact half_exact m (2 ^ 52) (by decide)
  rw [hh]
  have h8 : j + Flt.expo x - 1 ≤ 2045 := by omega
  have h9 := Nat.mul_le_mul_right 4503599627370496 h8
  have h10 : (j + Flt.expo x - 1) * 4503599627370496 + m ≤ 9218868437227405312 := Nat.le_trans (Nat.add_le_add h9 (Nat.le_of_lt hm2)) (by decide)
  rw [Nat.min_eq_left h10]
  have hw := Flt.split_word x hx
  have hg : (Flt.neg x = true ∧ (if Flt.neg x = true then 9223372036854775808 else 0) = 9223372036854775808) ∨ (Flt.neg x = false ∧ (if Flt.neg x = true then 9223372036854775808 else 0) = 0) := by
    cases h : Flt.neg x <;> simp
  omega
/-- What an odd number's number is, in its bits. -/
theorem near_odd (s : Nat) (e : Int) (h0 : s % 2 = 1) (hs : s < 9007199254740992) (h1 : -1000 ≤ e) (h2 : e ≤ 900) :
    Flt.near s e = (e + s.log2 + 1022).toNat * 4503599627370496 + s * 2 ^ (52 - s.log2) ∧ 4503599627370496 ≤ s * 2 ^ (52 - s.log2) ∧ s * 2 ^ (52 - s.log2) < 9007199254740992 := by
  have hs0 : s ≠ 0 := by omega
  have hl : s.log2 < 53 := (Nat.log2_lt hs0).2 hs
  obtain ⟨a, -, -⟩ := near_usual s e hs0 (by omega) (by omega) (by omega)
  have hlo : 2 ^ s.log2 ≤ s := Nat.log2_self_le hs0
  have hhi : s < 2 ^ (s.log2 + 1) := Nat.lt_log2_self
  have e1 : s * 2 ^ (63 - s.log2) = s * 2 ^ (52 - s.log2) * 2 ^ 11 := by
    rw [Nat.mul_assoc, ← Nat.pow_add]
    congr 2
    omega
  rw [e1, half_exact _ _ (by decide)] at a
  refine ⟨a, ?_, ?_⟩
  · have b : 2 ^ s.log2 * 2 ^ (52 - s.log2) ≤ s * 2 ^ (52 - s.log2) := Nat.mul_le_mul_right _ hlo
    rw [← Nat.pow_add, show s.log2 + (52 - s.log2) = 52 by omega] at b
    exact b
  · have b : s * 2 ^ (52 - s.log2) < 2 ^ (s.log2 + 1) * 2 ^ (52 - s.log2) := Nat.mul_lt_mul_of_pos_right hhi (Nat.two_pow_pos _)
    rw [← Nat.pow_add, show s.log2 + 1 + (52 - s.log2) = 53 by omega] at b
    exact b
theorem ctz_odd (s j : Nat) (h0 : s % 2 = 1) (hs : s * 2 ^ j < 18446744073709551616) : Lib.ctz 64 (s * 2 ^ j) = j := by
  have hx0 : s * 2 ^ j ≠ 0 := Nat.ne_of_gt (Nat.mul_pos (by omega) (Nat.two_pow_pos j))
  obtain ⟨c1, -, c3⟩ := ctz_log (s * 2 ^ j) hx0 hs
  obtain ⟨k, hk⟩ : ∃ k, Lib.ctz 64 (s * 2 ^ j) = k := ⟨_, rfl⟩
  rw [hk] at c1 c3 ⊢
  generalize s * 2 ^ j / 2 ^ k = o at *
  rcases Nat.lt_trichotomy k j with h | h | h
  · obtain ⟨d, rfl⟩ : ∃ d, j = k + (d + 1) := ⟨j - k - 1, by omega⟩
    rw [Nat.pow_add, Nat.mul_left_comm] at c1
    have := Nat.eq_of_mul_eq_mul_left (Nat.two_pow_pos k) c1
    rw [Nat.pow_succ, ← Nat.mul_assoc] at this
    omega
  · exact h
  · obtain ⟨d, rfl⟩ : ∃ d, k = j + (d + 1) := ⟨k - j - 1, by omega⟩
    rw [Nat.pow_add, Nat.mul_comm s, Nat.mul_assoc] at c1
    have := Nat.eq_of_mul_eq_mul_left (Nat.two_pow_pos j) c1
    rw [Nat.pow_succ, Nat.mul_right_comm] at this
    omega
/-- The number of an odd number by a power, in its bits and its parts. -/
theorem mk_odd (M e : Int) (h0 : M.natAbs % 2 = 1) (hs : M.natAbs < 9007199254740992) (h1 : -1000 ≤ e) (h2 : e ≤ 900) :
    Flt.mk M e < 18446744073709551616 ∧ Flt.expo (Flt.mk M e) = (e + M.natAbs.log2 + 1023).toNat ∧ Flt.neg (Flt.mk M e) = decide (M < 0) ∧ Flt.frac (Flt.mk M e) + 4503599627370496 = M.natAbs * 2 ^ (52 - M.natAbs.log2) ∧ Flt.parts (Flt.mk M e) = (M, e, true) := by
  have hs0 : M.natAbs ≠ 0 := by omega
  have hl : M.natAbs.log2 < 53 := (Nat.log2_lt hs0).2 hs
  obtain ⟨a1, a2, a3⟩ := near_odd M.natAbs e h0 hs h1 h2
  have hmk : Flt.mk M e = (if decide (M < 0) = true then 9223372036854775808 else 0) + Flt.near M.natAbs e := by
    unfold Flt.mk
    rw [if_neg (by omega), near_sign _ _ _ hs0]
  have hc := ctz_odd M.natAbs (52 - M.natAbs.log2) h0 (by omega)
  obtain ⟨Z, hZ⟩ : ∃ Z, M.natAbs * 2 ^ (52 - M.natAbs.log2) = Z := ⟨_, rfl⟩
  have hZd : Z / 2 ^ (52 - M.natAbs.log2) = M.natAbs := by rw [← hZ, Nat.mul_div_cancel _ (Nat.two_pow_pos _)]
  rw [hZ] at a1 a2 a3 hc ⊢
  obtain ⟨E, hE⟩ : ∃ E : Nat, e + (M.natAbs.log2 : Int) + 1022 = (E : Int) := ⟨(e + (M.natAbs.log2 : Int) + 1022).toNat, by omega⟩
  rw [show (e + (M.natAbs.log2 : Int) + 1022).toNat = E by omega] at a1
  obtain ⟨g, hg⟩ : ∃ g : Nat, (if decide (M < 0) = true then 9223372036854775808 else 0) = g := ⟨_, rfl⟩
  have hgg : (M < 0 ∧ g = 9223372036854775808) ∨ (¬ M < 0 ∧ g = 0) := by
    by_cases h : M < 0
    · rw [if_pos (decide_eq_true h)] at hg; exact .inl ⟨h, hg.symm⟩
    · rw [if_neg (by simpa using h)] at hg; exact .inr ⟨h, hg.symm⟩
  rw [hg, a1] at hmk
  have hxl : Flt.mk M e < 18446744073709551616 := by omega
  have hex : Flt.expo (Flt.mk M e) = E + 1 := by unfold Flt.expo; omega
  have hfr : Flt.frac (Flt.mk M e) + 4503599627370496 = Z := by unfold Flt.frac; omega
  have hng : Flt.neg (Flt.mk M e) = decide (M < 0) := by
    unfold Flt.neg
    congr 1
    apply propext
    omega
  refine ⟨hxl, by omega, hng, hfr, ?_⟩
  have hsg : Flt.sig (Flt.mk M e) = Z := by unfold Flt.sig; rw [if_neg (by omega), hfr]
  have hpe : Flt.pe (Flt.mk M e) = E := by unfold Flt.pe; rw [if_neg (by omega), hex]; omega
  unfold Flt.parts Flt.odd
  rw [if_neg (by omega), hsg, if_neg (by omega), hng, hc, hZd, hpe]
  congr 1
  · by_cases h : M < 0
    · rw [if_pos (decide_eq_true h)]; omega
    · rw [if_neg (by simpa using h)]; omega
  · congr 1
    omega
end Go.Proofs.YtboighnmgnjhdaaDoor
