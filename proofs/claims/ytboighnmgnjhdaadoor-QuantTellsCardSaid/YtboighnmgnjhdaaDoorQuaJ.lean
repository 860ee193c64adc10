/-
  A number as a whole one and a shift is near it: the facts of the numbers. By an AI agent. No person has read it.
-/
import Derived.Test.YtboighnmgnjhdaaDoorQuaI
import Derived.Test.YtboighnmgnjhdaaDoorQuaE
namespace Go.Proofs.YtboighnmgnjhdaaDoor
open Ieee

theorem near_dist (x a h E X A H : Nat) (hE : 100 ≤ E) (hE2 : E ≤ 1900) (hx : x < 9218868437227405312) (ha : a < 9218868437227405312) (hh : h < 9218868437227405312)
    (kx : Flt.key x = ((X * Flt.pw (E - 1) : Nat) : Int)) (ka : Flt.key a = ((A * Flt.pw (E - 1) : Nat) : Int)) (kh : Flt.key h = (H : Int)) (hnx : Flt.neg x = false)
    (d1 : X ≤ A + 2097152) (d2 : A ≤ X + 2097152) (hH : 2097152 * Flt.pw (E - 1) ≤ H) (hH0 : 0 < H) :
    ∃ r, double.sub x a = some r ∧ r < 18446744073709551616 ∧ (double.order (r % 9223372036854775808) h = some .lt ∨ double.order (r % 9223372036854775808) h = some .eq) := by
  obtain ⟨U, hU⟩ : ∃ U, Flt.pw (E - 1) = U := ⟨_, rfl⟩
  have hU0 : 0 < U := by rw [← hU]; exact Flt.pw_pos _
  rw [hU] at kx ka hH
  have hd : Flt.key x - Flt.key a = ((X : Int) - A) * U := by rw [kx, ka, Int.natCast_mul, Int.natCast_mul, Int.sub_mul]
  by_cases hD : X = A
  · refine ⟨0, sub_eq x a (by omega) (by omega) (by omega) (by omega) ?_ hnx, by decide, .inl ?_⟩
    · rw [hd, hD, Int.sub_self, Int.zero_mul]
    · rw [Flt.order_key _ _ (by decide) (by omega) (by decide) (by omega), kh, show Flt.key (0 % 9223372036854775808) = 0 from key_zero.1]
      congr 1
      exact Int.compare_eq_lt.2 (by omega)
  · have hne : Flt.key x - Flt.key a ≠ 0 := by
      rw [hd]
      intro h0
      rcases Int.mul_eq_zero.1 h0 with h | h <;> omega
    obtain ⟨D, hDD⟩ : ∃ D : Nat, ((X : Int) - A).natAbs = D := ⟨_, rfl⟩
    have hD0 : D ≠ 0 := by omega
    have hDb : D ≤ 2097152 := by omega
    have hs := sub_ne x a (by omega) (by omega) (by omega) (by omega) hne
    rw [hd, Int.natAbs_mul, hDD, Int.natAbs_natCast, ← hU, near_pw D (E - 1) (-1074) hD0] at hs
    obtain ⟨a1, a2, a3⟩ := near_exact D (-1074 + ((E - 1 : Nat) : Int)) hD0 (by omega) (by omega) (by omega)
    rw [show (-1074 + ((E - 1 : Nat) : Int) + 1074).toNat = E - 1 by omega, hU] at a3
    obtain ⟨n, hn⟩ : ∃ n, Flt.near D (-1074 + ((E - 1 : Nat) : Int)) = n := ⟨_, rfl⟩
    rw [hn] at hs a2 a3
    obtain ⟨g, hg⟩ : ∃ g : Nat, (if ((X : Int) - A) * (Flt.pw (E - 1) : Nat) < 0 then 9223372036854775808 else 0) = g := ⟨_, rfl⟩
    rw [hg] at hs
    have hgg : g = 0 ∨ g = 9223372036854775808 := by
      rw [← hg]
      split
      · exact .inr rfl
      · exact .inl rfl
    refine ⟨g + n, hs, by omega, ?_⟩
    rw [show (g + n) % 9223372036854775808 = n by omega, Flt.order_key _ _ (by omega) (by omega) (by omega) (by omega), kh]
    have kn : Flt.key n = ((D * U : Nat) : Int) := by
      unfold Flt.key
      rw [if_neg (by omega), a3]
    rw [kn]
    have hle : D * U ≤ H := Nat.le_trans (Nat.mul_le_mul_right U hDb) hH
    rcases Nat.lt_or_ge (D * U) H with h | h
    · exact .inl (congrArg some (Int.compare_eq_lt.2 (by omega)))
    · exact .inr (congrArg some (Int.compare_eq_eq.2 (by omega)))
theorem half_far (m : Nat) : Flt.half m 4194304 * 4194304 ≤ m + 2097152 ∧ m ≤ Flt.half m 4194304 * 4194304 + 2097152 := by
  unfold Flt.half
  split <;> omega
theorem tells_facts (a : Nat) (h1 : 4472074429978902528 ≤ a) (h2 : a ≤ 4742290407621132288) : ∃ M s r : Nat, Qua.fx a = ((M : Int), (s : Int)) ∧ 1073741824 ≤ M ∧ M ≤ 2147483647 ∧ s ≤ 60 ∧
    double.sub ((1053 - s) * 4503599627370496 + (M * 4194304 - 4503599627370496)) a = some r ∧ r < 18446744073709551616 ∧ (double.order (r % 9223372036854775808) ((1022 - s) * 4503599627370496) = some .lt ∨ double.order (r % 9223372036854775808) ((1022 - s) * 4503599627370496) = some .eq) := by
  have hfl := frac_lt a
  obtain ⟨f, hf⟩ : ∃ f, Flt.frac a = f := ⟨_, rfl⟩
  obtain ⟨E, hE⟩ : ∃ E, Flt.expo a = E := ⟨_, rfl⟩
  have haE : a = E * 4503599627370496 + f := by rw [← hE, ← hf]; unfold Flt.expo Flt.frac; omega
  have hx : 993 ≤ E ∧ E ≤ 1053 := by rw [← hE]; unfold Flt.expo; omega
  unfold Qua.fx
  rw [hf] at hfl
  rw [hf, hE]
  have hb := half_in f hfl
  obtain ⟨f1, f2⟩ := half_far (4503599627370496 + f)
  have hone : f = 0 → Flt.half (4503599627370496 + f) 4194304 = 1073741824 := by
    rintro rfl
    decide +kernel
  obtain ⟨K, hK⟩ : ∃ K, Flt.half (4503599627370496 + f) 4194304 = K := ⟨_, rfl⟩
  rw [hK] at hb f1 f2 hone ⊢
  obtain ⟨-, ka, -⟩ := mag_norm E f (by omega) (by omega) hfl
  rw [← haE] at ka
  by_cases hKt : K = 2147483648
  · rw [if_pos hKt]
    have hE3 : E ≤ 1052 := by
      rcases Nat.lt_or_ge E 1053 with h | h
      · omega
      · have : f = 0 := by omega
        have := hone this
        omega
    obtain ⟨-, kx, -, -, nx, lx⟩ := mag_norm (E + 1) 0 (by omega) (by omega) (by decide)
    obtain ⟨-, kh, -, -, -, lh⟩ := mag_norm (E - 30) 0 (by omega) (by omega) (by decide)
    rw [Nat.add_zero] at kh lh
    have p1 : Flt.pw (E + 1 - 1) = 2 * Flt.pw (E - 1) := by rw [show E + 1 - 1 = 1 + (E - 1) by omega, pw_add]; rfl
    have p2 : Flt.pw (E - 1) = 1073741824 * Flt.pw (E - 30 - 1) := by
      rw [show E - 1 = 30 + (E - 30 - 1) by omega, pw_add, show Flt.pw 30 = 1073741824 by decide]
    obtain ⟨r, r1, r2, r3⟩ := near_dist ((E + 1) * 4503599627370496 + 0) a ((E - 30) * 4503599627370496) E (K * 4194304) (4503599627370496 + f) ((4503599627370496 + 0) * Flt.pw (E - 30 - 1)) (by omega) (by omega) lx (by omega) lh
      (by rw [kx, p1, hKt]; congr 1; omega) ka kh nx (by omega) (by omega) (by rw [p2]; omega) (by have := Flt.pw_pos (E - 30 - 1); omega)
    refine ⟨1073741824, 1052 - E, r, Prod.ext rfl (show (1052 : Int) - E = ((1052 - E : Nat) : Int) by omega), by decide, by decide, by omega, ?_, r2, ?_⟩
    · rw [show 1053 - (1052 - E) = E + 1 by omega]
      exact r1
    · rw [show 1022 - (1052 - E) = E - 30 by omega]
      exact r3
  · rw [if_neg hKt]
    obtain ⟨-, kx, -, -, nx, lx⟩ := mag_norm E (K * 4194304 - 4503599627370496) (by omega) (by omega) (by omega)
    obtain ⟨-, kh, -, -, -, lh⟩ := mag_norm (E - 31) 0 (by omega) (by omega) (by decide)
    rw [Nat.add_zero] at kh lh
    have p2 : Flt.pw (E - 1) = 2147483648 * Flt.pw (E - 31 - 1) := by
      rw [show E - 1 = 31 + (E - 31 - 1) by omega, pw_add, show Flt.pw 31 = 2147483648 by decide]
    obtain ⟨r, r1, r2, r3⟩ := near_dist (E * 4503599627370496 + (K * 4194304 - 4503599627370496)) a ((E - 31) * 4503599627370496) E (K * 4194304) (4503599627370496 + f) ((4503599627370496 + 0) * Flt.pw (E - 31 - 1)) (by omega) (by omega) lx (by omega) lh
      (by rw [kx, show 4503599627370496 + (K * 4194304 - 4503599627370496) = K * 4194304 by omega]) ka kh nx (by omega) (by omega) (by rw [p2]; omega) (by have := Flt.pw_pos (E - 31 - 1); omega)
    refine ⟨K, 1053 - E, r, Prod.ext rfl (show (1053 : Int) - E = ((1053 - E : Nat) : Int) by omega), by omega, by omega, by omega, ?_, r2, ?_⟩
    · rw [show 1053 - (1053 - E) = E by omega]
      exact r1
    · rw [show 1022 - (1053 - E) = E - 31 by omega]
      exact r3
end Go.Proofs.YtboighnmgnjhdaaDoor
