/-
  Rounding to a whole number, of two the even one: as the model has it, it is the reference's by bits. By an AI agent. No person has read it.
-/
import Derived.Test.YtboighnmgnjhdaaDoorFltA
namespace Go.Proofs.YtboighnmgnjhdaaDoor
namespace Flt
open Ieee
theorem log2_of {K q : Nat} (h1 : 2 ^ q ≤ K) (h2 : K < 2 ^ (q + 1)) : K.log2 = q := by
  have hk : K ≠ 0 := by have := Nat.two_pow_pos q; omega
  have a := (Nat.le_log2 hk).2 h1
  have b := (Nat.log2_lt hk).2 h2
  omega
theorem cut_none (w : Toward) (s : Bool) (n : Nat) : w.cut s n 0 = n := by
  unfold Toward.cut
  rw [Nat.zero_min, Nat.shiftLeft_zero]
  dsimp only
  rw [Nat.div_one, Nat.mod_one]
  cases w <;> simp
/-- Half to even. -/
def half (m P : Nat) : Nat := m / P + if P < 2 * (m % P) ∨ P = 2 * (m % P) ∧ m / P % 2 = 1 then 1 else 0
theorem cut_even (s : Bool) (m n : Nat) : Toward.even.cut s m n = half m (2 ^ n) := by
  unfold Toward.cut half
  dsimp only
  rw [Nat.shiftLeft_eq, Nat.one_mul]
  have hb : ∀ (p : Bool) (q : Prop) [Decidable q], (p = true ↔ q) → p.toNat = if q then 1 else 0 := by
    intro p q _ h
    cases p
    · rw [if_neg (by rw [← h]; simp)]; rfl
    · rw [if_pos (h.1 rfl)]; rfl
  by_cases h : n ≤ m.log2 + 2
  · rw [Nat.min_eq_left h]
    congr 1
    apply hb
    simp
  · rw [Nat.min_eq_right (by omega)]
    have h1 : m < 2 ^ (m.log2 + 1) := Nat.lt_log2_self
    have h2 : 2 ^ (m.log2 + 2) = 2 * 2 ^ (m.log2 + 1) := by rw [Nat.pow_succ, Nat.mul_comm]
    have h3 : 2 ^ (m.log2 + 2) ≤ 2 ^ n := Nat.pow_le_pow_right (by decide) (by omega)
    generalize 2 ^ (m.log2 + 2) = G at *
    generalize 2 ^ (m.log2 + 1) = G1 at *
    generalize 2 ^ n = N at *
    have e1 : m / G = 0 := Nat.div_eq_of_lt (by omega)
    have e2 : m / N = 0 := Nat.div_eq_of_lt (by omega)
    have e3 : m % G = m := Nat.mod_eq_of_lt (by omega)
    have e4 : m % N = m := Nat.mod_eq_of_lt (by omega)
    rw [e1, e2, e3, e4]
    rw [if_neg (by omega)]
    have : (decide (G < 2 * m) || (G == 2 * m && 0 % 2 == 1)) = false := by
      simp
      omega
    rw [this]
    rfl
theorem word_eq (s : Bool) (r : Nat) : double.word s r = (if s then 9223372036854775808 else 0) + r := by
  unfold Format.word
  rw [sw]
  split <;> simp_all
theorem nearest_zero (s : Bool) (p : Int) : double.nearest s 0 p = if s then 9223372036854775808 else 0 := by
  unfold Format.nearest
  rw [if_pos rfl, word_eq, Nat.add_zero]
/-- A small whole number is one of them. -/
theorem nearest_small (s : Bool) (K q : Nat) (hq : q ≤ 52) (h1 : 2 ^ q ≤ K) (h2 : K < 2 ^ (q + 1)) : double.nearest s K 0 = (if s then 9223372036854775808 else 0) + ((1022 + q) * 4503599627370496 + K * 2 ^ (52 - q)) := by
  have hl := log2_of h1 h2
  have hK : K ≠ 0 := by have := Nat.two_pow_pos q; omega
  unfold Format.nearest
  rw [if_neg hK, hl, lp, bn, ir, word_eq]
  have hf : double.fractionBits = 52 := rfl
  rw [hf]
  have e1 : max (0 + (q : Int) - (52 : Nat)) (-1074) = (q : Int) - 52 := by omega
  rw [e1, show ((q : Int) - 52 - 0).toNat = 0 by omega, show (0 - ((q : Int) - 52)).toNat = 52 - q by omega, show ((q : Int) - 52 - -1074).toNat = 1022 + q by omega, cut_none, Nat.shiftLeft_eq]
  have h3 : K * 2 ^ (52 - q) < 2 ^ (q + 1) * 2 ^ (52 - q) := Nat.mul_lt_mul_of_pos_right h2 (Nat.two_pow_pos _)
  rw [← Nat.pow_add, show q + 1 + (52 - q) = 53 by omega] at h3
  have h4 : (1022 + q) * 4503599627370496 ≤ 1074 * 4503599627370496 := Nat.mul_le_mul_right _ (by omega)
  have h6 : (1022 + q) * 4503599627370496 + K * 2 ^ (52 - q) ≤ 9218868437227405312 := Nat.le_trans (Nat.add_le_add h4 (Nat.le_of_lt h3)) (by decide)
  rw [Nat.min_eq_left h6]
/-- One that is whole is itself. -/
theorem nearest_great (s : Bool) (m i : Nat) (h1 : 4503599627370496 ≤ m) (h2 : m < 9007199254740992) (hi : i ≤ 971) : double.nearest s (m * 2 ^ i) 0 = (if s then 9223372036854775808 else 0) + ((i + 1074) * 4503599627370496 + m) := by
  have hp := Nat.two_pow_pos i
  have hl : (m * 2 ^ i).log2 = 52 + i := by
    apply log2_of
    · rw [Nat.pow_add]
      exact Nat.mul_le_mul_right _ h1
    · rw [show 52 + i + 1 = 53 + i by omega, Nat.pow_add]
      exact Nat.mul_lt_mul_of_pos_right h2 hp
  have hK : m * 2 ^ i ≠ 0 := Nat.ne_of_gt (Nat.mul_pos (by omega) hp)
  unfold Format.nearest
  rw [if_neg hK, hl, lp, bn, ir, word_eq]
  have hf : double.fractionBits = 52 := rfl
  rw [hf]
  have e1 : max (0 + ((52 + i : Nat) : Int) - (52 : Nat)) (-1074) = (i : Int) := by omega
  rw [e1, show (0 - (i : Int)).toNat = 0 by omega, show ((i : Int) - 0).toNat = i by omega, show ((i : Int) - -1074).toNat = i + 1074 by omega, Nat.shiftLeft_zero, cut_even]
  have hh : half (m * 2 ^ i) (2 ^ i) = m := by
    unfold half
    rw [Nat.mul_div_cancel _ hp, Nat.mul_mod_left]
    rw [if_neg (by omega)]
    rfl
  have h4 : (i + 1074) * 4503599627370496 ≤ 2045 * 4503599627370496 := Nat.mul_le_mul_right _ (by omega)
  have h6 : (i + 1074) * 4503599627370496 + m ≤ 9218868437227405312 := Nat.le_trans (Nat.add_le_add h4 (Nat.le_of_lt h2)) (by decide)
  rw [hh, Nat.min_eq_left h6]
/-- The rounding by bits, as the reference has it. -/
def rround (b : Nat) : Nat :=
  if 1075 ≤ expo b then b else if expo b < 1022 then (if neg b = true then 9223372036854775808 else 0)
  else if expo b = 1022 then (if neg b = true then 9223372036854775808 else 0) + (if frac b = 0 then 0 else 4607182418800017408)
  else b - b % 2 ^ (1075 - expo b) + (if 2 ^ (1075 - expo b) < 2 * (b % 2 ^ (1075 - expo b)) ∨ 2 ^ (1075 - expo b) = 2 * (b % 2 ^ (1075 - expo b)) ∧ b / 2 ^ (1075 - expo b) % 2 = 1 then 2 ^ (1075 - expo b) else 0)
theorem split_word (b : Nat) (hb : b < 18446744073709551616) : b = (if neg b = true then 9223372036854775808 else 0) + (expo b * 4503599627370496 + frac b) := by
  unfold neg expo frac
  by_cases h : 9223372036854775808 ≤ b
  · rw [if_pos (decide_eq_true h)]
    omega
  · rw [if_neg (by simpa using h)]
    omega
theorem read_usual (b : Nat) (hb : b < 18446744073709551616) (h0 : expo b ≠ 0) (h1 : expo b ≠ 2047) : double.read b = .number (neg b) (4503599627370496 + frac b) ((expo b : Int) - 1075) := by
  have hn : (b / 9223372036854775808 % 2 == 1) = neg b := by
    unfold neg
    rw [Bool.eq_iff_iff]
    simp
    omega
  unfold Format.read
  rw [sw, bn, ir, lp]
  dsimp only
  rw [hn]
  unfold expo at h0 h1
  rw [if_neg (by omega), if_pos (by omega)]
  congr 1
  · unfold frac; omega
  · unfold expo; omega
theorem read_small (b : Nat) (hb : b < 18446744073709551616) (h0 : expo b = 0) : double.read b = .number (neg b) (frac b) (-1074) := by
  have hn : (b / 9223372036854775808 % 2 == 1) = neg b := by
    unfold neg
    rw [Bool.eq_iff_iff]
    simp
    omega
  unfold Format.read
  rw [sw, bn, ir, lp]
  dsimp only
  rw [hn]
  unfold expo at h0
  rw [if_pos (by omega)]
  congr 1
  unfold frac; omega
theorem half_small {m P : Nat} (h : 2 * m < P) : half m P = 0 := by
  unfold half
  rw [Nat.div_eq_of_lt (by omega), Nat.mod_eq_of_lt (by omega), if_neg (by omega)]
theorem frac_lt' (b : Nat) : frac b < 4503599627370496 := Nat.mod_lt _ (by decide)
theorem pow_le (a b : Nat) (h : a ≤ b) : 2 ^ a ≤ 2 ^ b := Nat.pow_le_pow_right (by decide) h
theorem round_eq (b : Nat) (hb : b < 18446744073709551616) : (if expo b = 2047 then b else double.write ((double.read b).integral .even)) = rround b := by
  have hf := frac_lt' b
  have hel : expo b < 2048 := Nat.mod_lt _ (by decide)
  unfold rround
  by_cases h7 : expo b = 2047
  · rw [if_pos h7, if_pos (by omega)]
  rw [if_neg h7]
  by_cases h0 : expo b = 0
  · rw [if_neg (by omega), if_pos (by omega), read_small b hb h0]
    simp only [Datum.integral, Format.write]
    rw [show (-1074 : Int).toNat = 0 by rfl, show (-(-1074) : Int).toNat = 1074 by rfl, Nat.shiftLeft_zero, cut_even, half_small, nearest_zero]
    have := pow_le 53 1074 (by decide)
    omega
  rw [read_usual b hb h0 h7]
  simp only [Datum.integral, Format.write]
  by_cases h1 : 1075 ≤ expo b
  · rw [if_pos h1, show (-((expo b : Int) - 1075)).toNat = 0 by omega, show ((expo b : Int) - 1075).toNat = expo b - 1075 by omega, cut_none, Nat.shiftLeft_eq, nearest_great _ _ _ (by omega) (by omega) (by omega)]
    have := split_word b hb
    omega
  rw [if_neg h1, show ((expo b : Int) - 1075).toNat = 0 by omega, show (-((expo b : Int) - 1075)).toNat = 1075 - expo b by omega, Nat.shiftLeft_zero, cut_even]
  by_cases h2 : expo b < 1022
  · rw [if_pos h2, half_small, nearest_zero]
    have := pow_le 54 (1075 - expo b) (by omega)
    omega
  rw [if_neg h2]
  by_cases h3 : expo b = 1022
  · rw [if_pos h3, h3, show 1075 - 1022 = 53 by decide]
    by_cases h4 : frac b = 0
    · rw [if_pos h4, h4]
      rw [show half (4503599627370496 + 0) (2 ^ 53) = 0 by decide, nearest_zero, Nat.add_zero]
    · rw [if_neg h4]
      have : half (4503599627370496 + frac b) (2 ^ 53) = 1 := by
        unfold half
        rw [show (2 : Nat) ^ 53 = 9007199254740992 by decide, Nat.div_eq_of_lt (by omega), Nat.mod_eq_of_lt (by omega), if_pos (by omega)]
      rw [this, nearest_small _ 1 0 (by decide) (by decide) (by decide)]
  rw [if_neg h3]
  -- the usual case
  obtain ⟨n, hn⟩ : ∃ n, n = 1075 - expo b := ⟨_, rfl⟩
  rw [← hn]
  have hn1 : 1 ≤ n := by omega
  have hn2 : n ≤ 52 := by omega
  have hsp : 2 ^ n * 2 ^ (52 - n) = 4503599627370496 := by rw [← Nat.pow_add, show n + (52 - n) = 52 by omega]
  have hP := Nat.two_pow_pos n
  have hQ := Nat.two_pow_pos (52 - n)
  have hq1 : 2 ^ (52 - n + 1) = 2 * 2 ^ (52 - n) := by rw [Nat.pow_succ, Nat.mul_comm]
  have hw := split_word b hb
  have hE : expo b = 1075 - n := by omega
  rw [hE] at hw
  generalize frac b = f at *
  generalize hS : (if neg b = true then 9223372036854775808 else 0) = S at *
  have hSS : S = 0 ∨ S = 9223372036854775808 := by
    rw [← hS]
    split
    · exact .inr rfl
    · exact .inl rfl
  obtain ⟨m, hm⟩ : ∃ m, m = 4503599627370496 + f := ⟨_, rfl⟩
  rw [← hm]
  obtain ⟨t, ht⟩ : ∃ t, t = S / 4503599627370496 + (1074 - n) := ⟨_, rfl⟩
  have hbt : b = 4503599627370496 * t + m := by omega
  have hpar : n = 52 → t % 2 = 0 := by omega
  have hdm := Nat.div_add_mod m (2 ^ n)
  have hml : m % 2 ^ n < 2 ^ n := Nat.mod_lt _ hP
  have hbm : b % 2 ^ n = m % 2 ^ n := by
    rw [hbt, ← hsp, Nat.mul_assoc, Nat.mul_add_mod]
  have hbd : b / 2 ^ n = 2 ^ (52 - n) * t + m / 2 ^ n := by
    rw [hbt, ← hsp, Nat.mul_assoc, Nat.mul_add_div hP]
  have hodd : b / 2 ^ n % 2 = m / 2 ^ n % 2 := by
    rw [hbd]
    have hev : 2 ^ (52 - n) * t % 2 = 0 := by
      by_cases h52 : n = 52
      · subst h52
        simp [hpar rfl]
      · obtain ⟨j, hj⟩ : ∃ j, 52 - n = j + 1 := ⟨51 - n, by omega⟩
        rw [hj, Nat.pow_succ, Nat.mul_comm (2 ^ j) 2, Nat.mul_assoc]
        exact Nat.mul_mod_right _ _
    omega
  rw [hbm, hodd]
  have hlo : 2 ^ (52 - n) ≤ m / 2 ^ n := by
    rw [Nat.le_div_iff_mul_le hP, Nat.mul_comm, hsp]
    omega
  have hhi : m / 2 ^ n < 2 * 2 ^ (52 - n) := by
    rw [Nat.div_lt_iff_lt_mul hP, Nat.mul_assoc, Nat.mul_comm (2 ^ (52 - n)), hsp]
    omega
  have hhalf : half m (2 ^ n) = m / 2 ^ n + (if 2 ^ n < 2 * (m % 2 ^ n) ∨ 2 ^ n = 2 * (m % 2 ^ n) ∧ m / 2 ^ n % 2 = 1 then 1 else 0) := rfl
  have hP2 : n = (n - 1) + 1 := by omega
  have hPP : 2 ^ n = 2 * 2 ^ (n - 1) := by
    have h := Nat.pow_succ (n := 2) (m := n - 1)
    rw [Nat.succ_eq_add_one, ← hP2, Nat.mul_comm] at h
    exact h
  have hbb : b - m % 2 ^ n = S + (1074 - n) * 4503599627370496 + 2 ^ n * (m / 2 ^ n) := by omega
  rw [hbb]
  have key : ∀ K, half m (2 ^ n) = K → 2 ^ (52 - n) ≤ K → K ≤ 2 * 2 ^ (52 - n) → double.nearest (neg b) (half m (2 ^ n)) 0 = S + (1074 - n) * 4503599627370496 + 2 ^ n * K := by
    intro K hK h8 h9
    rw [hK]
    by_cases hlt : K < 2 * 2 ^ (52 - n)
    · rw [nearest_small _ K (52 - n) (by omega) h8 (by omega), hS, show 52 - (52 - n) = n by omega, Nat.mul_comm K]
      omega
    · obtain rfl : K = 2 * 2 ^ (52 - n) := by omega
      have e1 : 2 ^ (53 - n) = 2 * 2 ^ (52 - n) := by rw [← hq1]; congr 1; omega
      have e2 : 2 ^ (53 - n + 1) = 2 * 2 ^ (53 - n) := by rw [Nat.pow_succ, Nat.mul_comm]
      rw [nearest_small _ _ (53 - n) (by omega) (by omega) (by omega), hS, show 52 - (53 - n) = n - 1 by omega]
      have e3 : 2 * 2 ^ (52 - n) * 2 ^ (n - 1) = 4503599627370496 := by
        rw [← hsp, hPP]
        ac_rfl
      have e4 : 2 ^ n * (2 * 2 ^ (52 - n)) = 2 * 4503599627370496 := by rw [Nat.mul_comm 2 (2 ^ (52 - n)), ← Nat.mul_assoc, hsp, Nat.mul_comm]
      rw [e3, e4]
      omega
  by_cases hc : 2 ^ n < 2 * (m % 2 ^ n) ∨ 2 ^ n = 2 * (m % 2 ^ n) ∧ m / 2 ^ n % 2 = 1
  · rw [if_pos hc] at hhalf ⊢
    rw [key _ hhalf (by omega) (by omega), Nat.mul_add, Nat.mul_one]
    omega
  · rw [if_neg hc, Nat.add_zero] at hhalf ⊢
    rw [key _ hhalf (by omega) (by omega)]
end Flt
end Go.Proofs.YtboighnmgnjhdaaDoor
