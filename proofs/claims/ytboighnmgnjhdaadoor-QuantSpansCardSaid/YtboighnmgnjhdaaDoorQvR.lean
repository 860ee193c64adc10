/-
  The scale that fits reaches from its end to its end: the numbers. By an AI agent. No person has read it.
-/
import Derived.Test.YtboighnmgnjhdaaDoorQvN
namespace Go.Proofs.YtboighnmgnjhdaaDoor
open Go.RowKit
open Ieee

theorem wv_whl (g : Bool) (N : Nat) (hN : N < 1099511627776) : Flt.wv ((if g = true then 9223372036854775808 else 0) + Flt.whl N) = if g = true then -(N : Int) else N := by
  by_cases h0 : N = 0
  · subst h0
    cases g <;> decide +kernel
  · cases g
    · have e := wv_whole (N : Int) (by omega) (by omega)
      rw [whl_mk (N : Int) (by omega) (by omega), if_neg (by omega), Int.natAbs_natCast] at e
      rw [if_neg (by decide), if_neg (by decide)]
      exact e
    · have e := wv_whole (-(N : Int)) (by omega) (by omega)
      rw [whl_mk (-(N : Int)) (by omega) (by omega), if_pos (by omega), Int.natAbs_neg, Int.natAbs_natCast] at e
      rw [if_pos rfl, if_pos rfl]
      exact e
theorem round_err (y : Nat) (hy : y < 18446744073709551616) (h7 : Flt.expo y ≠ 2047) (hs : Flt.mag y < 1000000 * Flt.unit) :
    2 * (Flt.wv (Flt.round y) * (Flt.unit : Int)) ≤ 2 * Flt.key y + Flt.unit ∧ 2 * Flt.key y ≤ 2 * (Flt.wv (Flt.round y) * (Flt.unit : Int)) + Flt.unit := by
  have hu := Flt.unit_pos
  obtain ⟨U, hU⟩ : ∃ U, Flt.unit = U := ⟨_, rfl⟩
  have e1 := Nat.div_add_mod (Flt.mag y) U
  have e2 := Nat.mod_lt (Flt.mag y) (show 0 < U by omega)
  have e3 : U * (Flt.mag y / U) = Flt.mag y / U * U := Nat.mul_comm _ _
  have hkey : Flt.key y = if Flt.neg y = true then -(Flt.mag y : Int) else Flt.mag y := by
    unfold Flt.key Flt.neg
    by_cases h : 9223372036854775808 ≤ y
    · rw [if_pos h, if_pos (decide_eq_true h)]
    · rw [if_neg h, if_neg (by simpa using h)]
  have main : ∃ N : Nat, N < 1099511627776 ∧ Flt.round y = (if Flt.neg y = true then 9223372036854775808 else 0) + Flt.whl N ∧ 2 * (N * U) ≤ 2 * Flt.mag y + U ∧ 2 * Flt.mag y ≤ 2 * (N * U) + U := by
    have hk := round_key y
    have ht := round_tie y
    rw [hU] at hk ht hs
    generalize Flt.mag y = m at *
    obtain ⟨q, hq⟩ : ∃ q, m / U = q := ⟨_, rfl⟩
    rw [hq] at e1 e3
    have hqs : q < 1000000 := by
      rw [← hq]
      exact (Nat.div_lt_iff_lt_mul (by omega)).2 hs
    have a1 : 2 * q * U = 2 * (q * U) := Nat.mul_assoc _ _ _
    have a2 : (2 * q + 1) * U = 2 * (q * U) + U := by rw [Nat.add_mul, Nat.mul_assoc, Nat.one_mul]
    have a3 : 2 * (q + 1) * U = 2 * (q * U) + 2 * U := by rw [Nat.mul_assoc, Nat.add_mul, Nat.one_mul, Nat.mul_add]
    have a4 : (2 * (q + 1) + 1) * U = 2 * (q * U) + 3 * U := by rw [Nat.add_mul, a3, Nat.one_mul]; omega
    have a5 : (q + 1) * U = q * U + U := by rw [Nat.add_mul, Nat.one_mul]
    rcases Nat.lt_trichotomy (2 * (m % U)) U with h | h | h
    · exact ⟨q, by omega, hk q hy h7 (by rw [a1]; omega) (by rw [a2]; omega), by omega, by omega⟩
    · have := ht q hy h7 (by rw [a2]; omega)
      by_cases ho : q % 2 = 1
      · rw [if_pos ho] at this
        exact ⟨q + 1, by omega, this, by rw [a5]; omega, by rw [a5]; omega⟩
      · rw [if_neg ho] at this
        exact ⟨q, by omega, this, by omega, by omega⟩
    · exact ⟨q + 1, by omega, hk (q + 1) hy h7 (by rw [a3]; omega) (by rw [a4]; omega), by rw [a5]; omega, by rw [a5]; omega⟩
  obtain ⟨N, hN, hr, b1, b2⟩ := main
  rw [hr, wv_whl _ N hN, hkey, hU]
  have b1' : 2 * ((N : Int) * U) ≤ 2 * (Flt.mag y : Int) + U := by exact_mod_cast b1
  have b2' : 2 * (Flt.mag y : Int) ≤ 2 * ((N : Int) * U) + U := by exact_mod_cast b2
  by_cases hg : Flt.neg y = true
  · rw [if_pos hg, if_pos hg, Int.neg_mul]
    omega
  · rw [if_neg hg, if_neg hg]
    omega
theorem unit_log (s c : Nat) (hs : s < c * Flt.unit) (hc : c ≤ 1048576) (h0 : s ≠ 0) : s.log2 < 2000 := by
  obtain ⟨T, hT⟩ : ∃ T : Nat, Hid (T = 2000) := ⟨_, hide rfl⟩
  obtain ⟨u, hu, hun⟩ : ∃ u : Nat, Hid (u = 1074) ∧ Hid (Flt.unit = 2 ^ u) := ⟨1074, hide rfl, hide (unit_pow 1074 rfl)⟩
  rw [← hT.out]
  refine (Nat.log2_lt h0).2 ?_
  rw [hun.out] at hs
  have h1 : c * 2 ^ u ≤ 2 ^ 20 * 2 ^ u := Nat.mul_le_mul_right _ hc
  rw [← Nat.pow_add] at h1
  exact Nat.lt_of_lt_of_le (Nat.lt_of_lt_of_le hs h1) (Nat.pow_le_pow_right (by decide) (by have := hT.out; have := hu.out; omega))
/-- A difference lies within one part in 2^53 of the true one. -/
theorem sub_err (a b : Nat) (ha : a < 18446744073709551616) (hb : b < 18446744073709551616) (h1 : a % 9223372036854775808 < 9218868437227405312) (h2 : b % 9223372036854775808 < 9218868437227405312) (V : Int) (hV : Flt.key a - Flt.key b = V) (hs : V.natAbs < 1048576 * Flt.unit) :
    ∃ u, double.sub a b = some u ∧ u < 18446744073709551616 ∧ Flt.expo u ≠ 2047 ∧ Flt.key u * 9007199254740992 ≤ V * 9007199254740992 + V.natAbs ∧ V * 9007199254740992 ≤ Flt.key u * 9007199254740992 + V.natAbs := by
  by_cases h0 : V = 0
  · subst h0
    obtain ⟨T, base, k, hkey, -, hsub⟩ := sub_read a b ha hb h1 h2
    have hp : (0 : Int) < ((2 ^ k : Nat) : Int) := by exact_mod_cast Nat.two_pow_pos k
    have hT0 : T = 0 := by
      rw [hV] at hkey
      rcases Int.mul_eq_zero.1 hkey.symm with h | h
      · exact h
      · omega
    subst hT0
    rw [if_pos rfl, Int.natAbs_zero, Flt.nearest_zero] at hsub
    refine ⟨_, hsub, ?_⟩
    have hk0 : Flt.key 0 = 0 := key_zero.1
    have hk1 : Flt.key 9223372036854775808 = 0 := by
      unfold Flt.key
      rw [if_pos (by decide), mag_mod 9223372036854775808 0 (.inr rfl), key_zero.2]
      rfl
    cases (Flt.neg a && !Flt.neg b)
    · rw [if_neg (by decide), hk0]
      exact ⟨by decide, by decide, by decide, by decide⟩
    · rw [if_pos rfl, hk1]
      exact ⟨by decide, by decide, by decide, by decide⟩
  · have hsub := sub_ne a b ha hb h1 h2 (by rw [hV]; exact h0)
    rw [hV] at hsub
    obtain ⟨e1, e2, e3⟩ := near_err V.natAbs (by omega) (unit_log V.natAbs 1048576 hs (by decide) (by omega))
    obtain ⟨R, hR⟩ : ∃ R, Flt.near V.natAbs (-1074) = R := ⟨_, rfl⟩
    rw [hR] at hsub e1 e2 e3
    refine ⟨_, hsub, ?_⟩
    clear hs
    by_cases hn : V < 0
    · rw [if_pos hn]
      have hk : Flt.key (9223372036854775808 + R) = -(Flt.mag R : Int) := by
        unfold Flt.key
        rw [if_pos (by omega), mag_mod 9223372036854775808 R (.inr rfl)]
      rw [hk]
      generalize Flt.mag R = G at *
      exact ⟨by omega, by unfold Flt.expo; omega, by omega, by omega⟩
    · rw [if_neg hn, Nat.zero_add]
      have hk : Flt.key R = (Flt.mag R : Int) := by
        unfold Flt.key
        rw [if_neg (by omega)]
      rw [hk]
      generalize Flt.mag R = G at *
      exact ⟨by omega, by unfold Flt.expo; omega, by omega, by omega⟩
/-- The quotients, from the errors. -/
theorem quo_bounds (U D l H be T Q : Nat) (hU : 0 < U) (hD : 0 < D) (hl : l + H = D)
    (f1 : be * (255 * U) * 9007199254740992 ≤ D * U * U * 9007199254740994) (f2 : D * U * U * 9007199254740990 ≤ be * (255 * U) * 9007199254740992)
    (t1 : T * be * 9007199254740992 ≤ l * U * U * 9007199254740994) (t2 : l * U * U * 9007199254740990 ≤ T * be * 9007199254740992)
    (q1 : Q * be * 9007199254740992 ≤ H * U * U * 9007199254740994) (q2 : H * U * U * 9007199254740990 ≤ Q * be * 9007199254740992) :
    10 * T ≤ 2554 * U ∧ 10 * Q ≤ 2554 * U ∧ 25499 * U ≤ 100 * (Q + T) := by
  obtain ⟨P, hP⟩ : ∃ P, D * U * U = P := ⟨_, rfl⟩
  have hP0 : 0 < P := by rw [← hP]; exact Nat.mul_pos (Nat.mul_pos hD hU) hU
  have hlP : l * U * U ≤ P := by rw [← hP]; exact Nat.mul_le_mul_right _ (Nat.mul_le_mul_right _ (by omega))
  have hHP : H * U * U ≤ P := by rw [← hP]; exact Nat.mul_le_mul_right _ (Nat.mul_le_mul_right _ (by omega))
  have hsum : l * U * U + H * U * U = P := by rw [← hP, ← hl, Nat.add_mul, Nat.add_mul]
  rw [hP] at f1 f2
  have e0 : be * (255 * U) = 255 * (be * U) := Nat.mul_left_comm _ _ _
  rw [e0] at f1 f2
  -- X * be * U against P * X
  have key : ∀ X : Nat, X * (be * U) = X * be * U := fun X => (Nat.mul_assoc X be U).symm
  have up : ∀ X : Nat, X * be * 9007199254740992 ≤ P * 9007199254740994 → 10 * X ≤ 2554 * U := by
    intro X hX
    rcases Nat.lt_or_ge (2554 * U) (10 * X) with h | h
    · exfalso
      have a1 := Nat.mul_le_mul_right (be * U) (Nat.le_of_lt h)
      rw [Nat.mul_assoc 10, key X, Nat.mul_assoc 2554] at a1
      have a2 := Nat.mul_le_mul_right U hX
      have a3 := Nat.mul_le_mul_right U f2
      rw [Nat.mul_right_comm (X * be), Nat.mul_right_comm P] at a2
      rw [Nat.mul_right_comm P, Nat.mul_right_comm (255 * (be * U)), Nat.mul_assoc 255, Nat.mul_comm (be * U) U] at a3
      have hPU : 0 < P * U := Nat.mul_pos hP0 hU
      generalize X * be * U = x at *
      generalize U * (be * U) = y at *
      generalize P * U = z at *
      omega
    · exact h
  refine ⟨up T (Nat.le_trans t1 (Nat.mul_le_mul_right _ hlP)), up Q (Nat.le_trans q1 (Nat.mul_le_mul_right _ hHP)), ?_⟩
  rcases Nat.lt_or_ge (100 * (Q + T)) (25499 * U) with h | h
  · exfalso
    have a1 := Nat.mul_le_mul_right (be * U) (Nat.le_of_lt h)
    rw [Nat.mul_assoc 100, Nat.add_mul, key Q, key T, Nat.mul_assoc 25499] at a1
    have a2 := Nat.mul_le_mul_right U t2
    have a4 := Nat.mul_le_mul_right U q2
    have a3 := Nat.mul_le_mul_right U f1
    rw [Nat.mul_right_comm (T * be)] at a2
    rw [Nat.mul_right_comm (Q * be)] at a4
    rw [Nat.mul_right_comm P, Nat.mul_right_comm (255 * (be * U)), Nat.mul_assoc 255, Nat.mul_comm (be * U) U] at a3
    have hPU : 0 < P * U := Nat.mul_pos hP0 hU
    have hsU : l * U * U * U + H * U * U * U = P * U := by rw [← hsum, Nat.add_mul]
    rw [Nat.mul_right_comm (l * U * U)] at a2
    rw [Nat.mul_right_comm (H * U * U)] at a4
    generalize T * be * U = x at *
    generalize Q * be * U = x2 at *
    generalize U * (be * U) = y at *
    generalize l * U * U * U = z1 at *
    generalize H * U * U * U = z2 at *
    generalize P * U = z at *
    omega
  · exact h
/-- The ends, from the bounds. -/
theorem ends_num (U T Q nu z0 W W' : Int) (hU : 0 < U) (hT0 : 0 ≤ T) (b1 : 10 * T ≤ 2554 * U) (b2 : 10 * Q ≤ 2554 * U) (b3 : 25499 * U ≤ 100 * (Q + T))
    (v1 : nu * 9007199254740992 ≤ (T - 128 * U) * 9007199254740992 + 1000 * U) (v2 : (T - 128 * U) * 9007199254740992 ≤ nu * 9007199254740992 + 1000 * U)
    (z1 : 2 * (z0 * U) ≤ 2 * nu + U) (z2 : 2 * nu ≤ 2 * (z0 * U) + U) (w1 : 2 * (W * U) ≤ -2 * T + U) (w2 : -2 * T ≤ 2 * (W * U) + U)
    (x1 : 2 * (W' * U) ≤ 2 * Q + U) (x2 : 2 * Q ≤ 2 * (W' * U) + U) :
    Flt.clamp (Flt.clamp W (-255) 255 + Flt.clamp z0 (-128) 127) (-128) 127 ≤ -126 ∧ 125 ≤ Flt.clamp (Flt.clamp W' (-255) 255 + Flt.clamp z0 (-128) 127) (-128) 127 := by
  have lower : ∀ (X c : Int), c * U < X * U + U → c ≤ X := by
    intro X c h
    rcases Int.lt_or_le X c with h1 | h1
    · exfalso
      have := Int.mul_le_mul_of_nonneg_right (show X + 1 ≤ c by omega) (Int.le_of_lt hU)
      rw [Int.add_mul, Int.one_mul] at this
      omega
    · exact h1
  have upper : ∀ (X c : Int), X * U < c * U + U → X ≤ c := fun X c h => lower c X h
  have c1 : -128 ≤ z0 := lower z0 (-128) (by omega)
  have c2 : z0 ≤ 128 := upper z0 128 (by omega)
  have c3 : -255 ≤ W := lower W (-255) (by omega)
  have c4 : W ≤ 0 := upper W 0 (by omega)
  have c5 : 0 ≤ W' := lower W' 0 (by omega)
  have c6 : W' ≤ 255 := upper W' 255 (by omega)
  have c7 : W + z0 ≤ -127 := upper (W + z0) (-127) (by rw [Int.add_mul]; omega)
  have c8 : 126 ≤ W' + z0 := lower (W' + z0) 126 (by rw [Int.add_mul]; omega)
  unfold Flt.clamp
  constructor
  · (repeat' split) <;> omega
  · (repeat' split) <;> omega
end Go.Proofs.YtboighnmgnjhdaaDoor
