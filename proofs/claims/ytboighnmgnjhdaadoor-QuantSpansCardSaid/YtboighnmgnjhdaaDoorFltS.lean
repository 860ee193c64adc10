/-
  Sums of numbers of 64 bits, as whole numbers of the smallest place; rounding keeps the order. By an AI agent. No person has read it.
-/
import Derived.Test.YtboighnmgnjhdaaDoorFltW
import Derived.Test.YtboighnmgnjhdaaDoorFltO
namespace Go.Proofs.YtboighnmgnjhdaaDoor
open Go.RowKit
open Ieee

/-- The same value at another place: the same number. -/
theorem near_scale (s k : Nat) (e : Int) (h0 : s ≠ 0) : Flt.near (s * 2 ^ k) e = Flt.near s (e + k) := by
  have hk := Nat.two_pow_pos k
  have hs : s * 2 ^ k ≠ 0 := Nat.ne_of_gt (Nat.mul_pos (by omega) hk)
  have hl : (s * 2 ^ k).log2 = s.log2 + k := by
    apply Flt.log2_of
    · rw [Nat.pow_add]
      exact Nat.mul_le_mul_right _ (Nat.log2_self_le h0)
    · rw [show s.log2 + k + 1 = s.log2 + 1 + k by omega, Nat.pow_add]
      exact Nat.mul_lt_mul_of_pos_right Nat.lt_log2_self hk
  rw [near_eq _ e hs, near_eq s _ h0, hl]
  obtain ⟨last, hla⟩ : ∃ last : Int, max (e + ((s.log2 + k : Nat) : Int) - 52) (-1074) = last := ⟨_, rfl⟩
  rw [hla, show max (e + (k : Int) + (s.log2 : Int) - 52) (-1074) = last by omega]
  rw [← kept_eq s (e + k) last (k + (e - last).toNat) (last - e).toNat (by omega), Nat.pow_add, ← Nat.mul_assoc]
theorem half_mono (x y P : Nat) (h : x ≤ y) : Flt.half x P ≤ Flt.half y P := by
  have h1 : x / P ≤ y / P := Nat.div_le_div_right h
  have hx := Nat.div_add_mod x P
  have hy := Nat.div_add_mod y P
  unfold Flt.half
  by_cases h2 : x / P = y / P
  · rw [h2] at hx ⊢
    generalize P * (y / P) = Z at *
    split
    · rw [if_pos (by omega)]
      exact Nat.le_refl _
    · omega
  · split <;> omega
theorem half_bound (x P B : Nat) (hP : 0 < P) (h : x ≤ B * P) : Flt.half x P ≤ B := by
  have := half_mono x (B * P) P h
  rwa [half_exact B P hP] at this
theorem half_least (x P B : Nat) (hP : 0 < P) (h : B * P ≤ x) : B ≤ Flt.half x P := by
  have := half_mono (B * P) x P h
  rwa [half_exact B P hP] at this
/-- A greater one has no lesser number. -/
theorem near_mono (s t : Nat) (e : Int) (h0 : s ≠ 0) (h : s ≤ t) : Flt.near s e ≤ Flt.near t e := by
  have ht : t ≠ 0 := by omega
  rw [near_eq s e h0, near_eq t e ht]
  have hlo := Nat.log2_self_le ht
  have hhi : s < 2 ^ (s.log2 + 1) := Nat.lt_log2_self
  have hll : s.log2 ≤ t.log2 := by
    by_cases hc : s.log2 ≤ t.log2
    · exact hc
    · have h1 := Nat.log2_self_le h0
      have h2 : t < 2 ^ (t.log2 + 1) := Nat.lt_log2_self
      have h3 := Flt.pow_le (t.log2 + 1) s.log2 (by omega)
      omega
  obtain ⟨la, hla⟩ : ∃ last : Int, max (e + (s.log2 : Int) - 52) (-1074) = last := ⟨_, rfl⟩
  obtain ⟨lb, hlb⟩ : ∃ last : Int, max (e + (t.log2 : Int) - 52) (-1074) = last := ⟨_, rfl⟩
  rw [hla, hlb]
  have hmin : ∀ a b c : Nat, a ≤ b → min a c ≤ min b c := fun a b c h => by omega
  apply hmin
  by_cases heq : la = lb
  · rw [heq]
    have := half_mono (s * 2 ^ (e - lb).toNat) (t * 2 ^ (e - lb).toNat) (2 ^ (lb - e).toNat) (Nat.mul_le_mul_right _ h)
    omega
  · have hlt : la < lb := by omega
    have hP1 := Nat.two_pow_pos (la - e).toNat
    have hP2 := Nat.two_pow_pos (lb - e).toNat
    have hA : Flt.half (s * 2 ^ (e - la).toNat) (2 ^ (la - e).toNat) ≤ 2 ^ 53 := by
      apply half_bound _ _ _ hP1
      have a1 : s * 2 ^ (e - la).toNat ≤ 2 ^ (s.log2 + 1) * 2 ^ (e - la).toNat := Nat.mul_le_mul_right _ (Nat.le_of_lt hhi)
      rw [← Nat.pow_add] at a1 ⊢
      exact Nat.le_trans a1 (Flt.pow_le _ _ (by omega))
    have hB : 2 ^ 52 ≤ Flt.half (t * 2 ^ (e - lb).toNat) (2 ^ (lb - e).toNat) := by
      apply half_least _ _ _ hP2
      have a1 : 2 ^ t.log2 * 2 ^ (e - lb).toNat ≤ t * 2 ^ (e - lb).toNat := Nat.mul_le_mul_right _ hlo
      rw [← Nat.pow_add] at a1 ⊢
      exact Nat.le_trans (Flt.pow_le _ _ (by omega)) a1
    have hr : (la + 1074).toNat + 1 ≤ (lb + 1074).toNat := by omega
    have hr2 := Nat.mul_le_mul_right 4503599627370496 hr
    rw [Nat.add_mul] at hr2
    have e53 : (2 : Nat) ^ 53 = 9007199254740992 := by decide
    have e52 : (2 : Nat) ^ 52 = 4503599627370496 := by decide
    omega
/-- A finite number that is no zero is the number of what it says. -/
theorem near_self (b : Nat) (hb : b < 18446744073709551616) (h7 : Flt.expo b ≠ 2047) (h0 : b % 9223372036854775808 ≠ 0) : Flt.near (Flt.mag b) (-1074) = b % 9223372036854775808 := by
  have hel := expo_lt b
  have hfl := frac_lt b
  by_cases he : Flt.expo b = 0
  · have hm : Flt.mag b = Flt.frac b := by
      unfold Flt.mag
      unfold Flt.expo at he
      rw [if_pos (by omega)]
      unfold Flt.frac
      omega
    have hf0 : Flt.frac b ≠ 0 := by unfold Flt.frac; unfold Flt.expo at he; omega
    rw [hm, near_eq _ _ hf0]
    have hl : (Flt.frac b).log2 < 52 := (Nat.log2_lt hf0).2 (by omega)
    have hmx : max (-1074 + ((Flt.frac b).log2 : Int) - 52) (-1074) = -1074 := by omega
    rw [hmx, show ((-1074 : Int) + 1074).toNat = 0 by decide, show ((-1074 : Int) - -1074).toNat = 0 by decide, Nat.pow_zero, Nat.mul_one, show Flt.half (Flt.frac b) 1 = Flt.frac b from half_one _, Nat.zero_mul, Nat.zero_add, Nat.min_eq_left (by omega)]
    unfold Flt.frac
    unfold Flt.expo at he
    omega
  · have hm : Flt.mag b = (4503599627370496 + Flt.frac b) * 2 ^ (Flt.expo b - 1) := by
      unfold Flt.mag
      unfold Flt.expo at he
      rw [if_neg (by omega)]
      have e1 : b % 9223372036854775808 / 4503599627370496 - 1 = Flt.expo b - 1 := by unfold Flt.expo; omega
      rw [e1]
      rfl
    rw [hm, near_scale _ _ _ (by omega)]
    obtain ⟨m, hmm⟩ : ∃ m, 4503599627370496 + Flt.frac b = m := ⟨_, rfl⟩
    rw [hmm]
    have hl : m.log2 = 52 := Flt.log2_of (by omega) (by omega)
    rw [near_eq _ _ (by omega), hl]
    have hmx : max (-1074 + ((Flt.expo b - 1 : Nat) : Int) + (52 : Nat) - 52) (-1074) = -1074 + ((Flt.expo b - 1 : Nat) : Int) := by omega
    rw [hmx, show ((-1074 : Int) + ((Flt.expo b - 1 : Nat) : Int) + 1074).toNat = Flt.expo b - 1 by omega, show ((-1074 : Int) + ((Flt.expo b - 1 : Nat) : Int) - (-1074 + ((Flt.expo b - 1 : Nat) : Int))).toNat = 0 by omega, Nat.pow_zero, Nat.mul_one, show Flt.half m 1 = m from half_one _]
    have h8 : Flt.expo b - 1 ≤ 2045 := by omega
    have h9 := Nat.mul_le_mul_right 4503599627370496 h8
    have h10 : (Flt.expo b - 1) * 4503599627370496 + m ≤ 9218868437227405312 := Nat.le_trans (Nat.add_le_add h9 (show m ≤ 9007199254740992 by omega)) (by decide)
    rw [Nat.min_eq_left h10]
    have hw := Flt.split_word b hb
    unfold Flt.neg at hw
    by_cases hg : 9223372036854775808 ≤ b
    · rw [if_pos (decide_eq_true hg)] at hw; omega
    · rw [if_neg (by simpa using hg)] at hw; omega
/-- The sum of two finite numbers that is no zero: the number of the sum of what they say. -/
theorem add_key (a b : Nat) (ha : a < 18446744073709551616) (hb : b < 18446744073709551616) (h1 : a % 9223372036854775808 < 9218868437227405312) (h2 : b % 9223372036854775808 < 9218868437227405312) (h0 : Flt.key a + Flt.key b ≠ 0) :
    double.add a b = some ((if Flt.key a + Flt.key b < 0 then 9223372036854775808 else 0) + Flt.near (Flt.key a + Flt.key b).natAbs (-1074)) := by
  obtain ⟨m, i, e1, hi, hm, -⟩ := Flt.read_num a ha h1
  obtain ⟨n, j, e2, hj, hn, -⟩ := Flt.read_num b hb h2
  have ka : Flt.key a = signed (decide (9223372036854775808 ≤ a)) m (i + 1074).toNat := by
    rw [Flt.signed_eq, hm]
    unfold Flt.key
    by_cases h : 9223372036854775808 ≤ a <;> simp [h]
  have kb : Flt.key b = signed (decide (9223372036854775808 ≤ b)) n (j + 1074).toNat := by
    rw [Flt.signed_eq, hn]
    unfold Flt.key
    by_cases h : 9223372036854775808 ≤ b <;> simp [h]
  obtain ⟨base, hbase⟩ : ∃ base : Int, min i j = base := ⟨_, rfl⟩
  obtain ⟨k, hk⟩ : ∃ k : Nat, (base + 1074).toNat = k := ⟨_, rfl⟩
  obtain ⟨T, hT⟩ : ∃ T, signed (decide (9223372036854775808 ≤ a)) m (i - base).toNat + signed (decide (9223372036854775808 ≤ b)) n (j - base).toNat = T := ⟨_, rfl⟩
  have hkey : Flt.key a + Flt.key b = T * ((2 ^ k : Nat) : Int) := by
    rw [ka, kb, ← hT, show (i + 1074).toNat = (i - base).toNat + k by omega, show (j + 1074).toNat = (j - base).toNat + k by omega, Flt.signed_add, Flt.signed_add, Int.add_mul]
  have hp : (0 : Int) < ((2 ^ k : Nat) : Int) := by exact_mod_cast Nat.two_pow_pos k
  rw [hkey] at h0 ⊢
  have hT0 : T ≠ 0 := fun h => h0 (by rw [h, Int.zero_mul])
  have hneg : T * ((2 ^ k : Nat) : Int) < 0 ↔ T < 0 := by
    constructor
    · intro h
      by_cases hc : T < 0
      · exact hc
      · have := Int.mul_nonneg (show 0 ≤ T by omega) (Int.le_of_lt hp)
        omega
    · intro h
      exact Int.mul_neg_of_neg_of_pos h hp
  have hab : (T * ((2 ^ k : Nat) : Int)).natAbs = T.natAbs * 2 ^ k := by rw [Int.natAbs_mul, Int.natAbs_natCast]
  unfold Format.add
  rw [e1, e2]
  simp only [Datum.sum, Option.map_some, Format.write]
  rw [hbase, hT, if_neg hT0, hab, near_scale _ _ _ (by omega), show (-1074 : Int) + (k : Int) = base by omega, near_sign _ _ _ (by omega)]
  congr 2
  by_cases h : T < 0
  · rw [if_pos (decide_eq_true h), if_pos (hneg.2 h)]
  · rw [if_neg (by simpa using h), if_neg (fun h' => h (hneg.1 h'))]
end Go.Proofs.YtboighnmgnjhdaaDoor
