/-
  A quotient of a small whole number lies within two parts in 2^53 of the true one. By an AI agent. No person has read it.
-/
import Derived.Test.YtboighnmgnjhdaaDoorQuaY
import Derived.Test.YtboighnmgnjhdaaDoorQvB
namespace Go.Proofs.YtboighnmgnjhdaaDoor
open Go.RowKit
open Ieee

theorem half_err (s P : Nat) (hP : 0 < P) : 2 * (Flt.half s P * P) ≤ 2 * s + P ∧ 2 * s ≤ 2 * (Flt.half s P * P) + P := by
  unfold Flt.half
  have h1 := Nat.div_add_mod s P
  have h2 := Nat.mod_lt s hP
  have h3 : P * (s / P) = s / P * P := Nat.mul_comm _ _
  split
  · rw [Nat.add_mul, Nat.one_mul]
    omega
  · rw [Nat.add_zero]
    omega
/-- The number nearest to s units lies within one part in 2^53 of it. -/
theorem near_err (s : Nat) (h0 : s ≠ 0) (hs : s.log2 < 2000) : Flt.near s (-1074) < 9218868437227405312 ∧ Flt.mag (Flt.near s (-1074)) * 9007199254740992 ≤ s * 9007199254740993 ∧ s * 9007199254740991 ≤ Flt.mag (Flt.near s (-1074)) * 9007199254740992 := by
  have hlo : 2 ^ s.log2 ≤ s := Nat.log2_self_le h0
  have hhi : s < 2 ^ (s.log2 + 1) := Nat.lt_log2_self
  have e := near_eq s (-1074) h0
  rcases Nat.lt_or_ge s.log2 53 with hl | hl
  · have hs2 : s < 9007199254740992 := Nat.lt_of_lt_of_le hhi (by
      have := Nat.pow_le_pow_right (n := 2) (by decide) (show s.log2 + 1 ≤ 53 by omega)
      rw [show (2 : Nat) ^ 53 = 9007199254740992 by decide] at this
      exact this)
    rw [show max (-1074 + (s.log2 : Int) - 52) (-1074) = -1074 by omega, show ((-1074 : Int) + 1074).toNat = 0 by decide, show ((-1074 : Int) - -1074).toNat = 0 by decide, Nat.pow_zero, Nat.mul_one, Nat.zero_mul, Nat.zero_add] at e
    have hh : Flt.half s 1 = s := half_one s
    rw [hh] at e
    have hn : Flt.near s (-1074) = s := by omega
    have hm : Flt.mag s = s := by
      unfold Flt.mag
      rcases Nat.lt_or_ge s 4503599627370496 with h | h
      · rw [if_pos (by omega)]; omega
      · rw [if_neg (by omega), show s % 9223372036854775808 / 4503599627370496 = 1 by omega, show s % 4503599627370496 = s - 4503599627370496 by omega]
        simp
        omega
    rw [hn, hm]
    exact ⟨by omega, by omega, by omega⟩
  · obtain ⟨d, hd⟩ : ∃ d, s.log2 = 52 + d := ⟨s.log2 - 52, by omega⟩
    rw [show max (-1074 + (s.log2 : Int) - 52) (-1074) = (d : Int) - 1074 by omega, show ((d : Int) - 1074 + 1074).toNat = d by omega, show ((-1074 : Int) - ((d : Int) - 1074)).toNat = 0 by omega, show ((d : Int) - 1074 - -1074).toNat = d by omega, Nat.pow_zero, Nat.mul_one] at e
    rw [hd] at hlo hhi
    have hp : 0 < 2 ^ d := Nat.two_pow_pos d
    rw [Nat.pow_add] at hlo
    rw [show 52 + d + 1 = 53 + d by omega, Nat.pow_add] at hhi
    rw [show (2 : Nat) ^ 52 = 4503599627370496 by decide] at hlo
    rw [show (2 : Nat) ^ 53 = 9007199254740992 by decide] at hhi
    obtain ⟨e1, e2⟩ := half_err s (2 ^ d) hp
    have b1 := half_least s (2 ^ d) 4503599627370496 hp hlo
    have b2 := half_bound s (2 ^ d) 9007199254740992 hp (Nat.le_of_lt hhi)
    obtain ⟨h, hh⟩ : ∃ h, Flt.half s (2 ^ d) = h := ⟨_, rfl⟩
    rw [hh] at e e1 e2 b1 b2
    have hn : Flt.near s (-1074) = d * 4503599627370496 + h := by omega
    have hm : Flt.mag (d * 4503599627370496 + h) = h * 2 ^ d := by
      rcases Nat.lt_or_ge h 9007199254740992 with hlt | hge
      · have := (mag_norm (d + 1) (h - 4503599627370496) (by omega) (by omega) (by omega)).1
        rw [show (d + 1) * 4503599627370496 + (h - 4503599627370496) = d * 4503599627370496 + h by omega, show 4503599627370496 + (h - 4503599627370496) = h by omega, Nat.add_sub_cancel] at this
        exact this
      · obtain rfl : h = 9007199254740992 := by omega
        have := (mag_norm (d + 2) 0 (by omega) (by omega) (by decide)).1
        rw [show (d + 2) * 4503599627370496 + 0 = d * 4503599627370496 + 9007199254740992 by omega, show d + 2 - 1 = 1 + d by omega, pw_add, ← Nat.mul_assoc] at this
        exact this
    rw [hn, hm]
    generalize 2 ^ d = P at *
    refine ⟨by omega, ?_, ?_⟩
    · omega
    · omega
theorem norm_read (b : Nat) (hb : b < 9218868437227405312) (hm : 4503599627370496 ≤ Flt.mag b) : ∃ (n : Nat) (j : Int), double.read b = .number false n j ∧ 4503599627370496 ≤ n ∧ n < 9007199254740992 ∧ -1074 ≤ j ∧ j ≤ 971 ∧ n * 2 ^ (j + 1074).toNat = Flt.mag b := by
  have h52 : 4503599627370496 ≤ b := by
    rcases Nat.lt_or_ge b 4503599627370496 with h | h
    · unfold Flt.mag at hm
      rw [if_pos (by omega)] at hm
      omega
    · exact h
  have hf := Flt.frac_lt' b
  have he : 1 ≤ Flt.expo b ∧ Flt.expo b < 2047 := by unfold Flt.expo; omega
  have h := Flt.read_usual b (by omega) (by omega) (by omega)
  rw [show Flt.neg b = false by unfold Flt.neg; rw [decide_eq_false_iff_not]; omega] at h
  refine ⟨_, _, h, by omega, by omega, by omega, by omega, ?_⟩
  have hbe : b = Flt.expo b * 4503599627370496 + Flt.frac b := by unfold Flt.expo Flt.frac; omega
  have := (mag_norm (Flt.expo b) (Flt.frac b) he.1 he.2 hf).1
  rw [← hbe] at this
  rw [this, show ((Flt.expo b : Int) - 1075 + 1074).toNat = Flt.expo b - 1 by omega]
  rfl
theorem mk_place (M : Int) (m : Nat) (i : Int) (u : Nat) (hu : Hid (u = 1074)) (h0 : M ≠ 0) (hM : M.natAbs < 1048576) (m1 : 4503599627370496 ≤ m) (m2 : m < 9007199254740992) (i1 : -1074 ≤ i) (hv : Hid (m * 2 ^ (i + 1074).toNat = M.natAbs * 2 ^ u)) : -53 < i ∧ i < -32 := by
  obtain ⟨k, hk⟩ : ∃ k, (i + 1074).toNat = k := ⟨_, rfl⟩
  have hv := hv.out
  rw [hk] at hv
  have p1 : 2 ^ (52 + k) ≤ m * 2 ^ k := by
    rw [Nat.pow_add, show (2 : Nat) ^ 52 = 4503599627370496 by decide]
    exact Nat.mul_le_mul_right _ m1
  have p2 : m * 2 ^ k < 2 ^ (53 + k) := by
    rw [Nat.pow_add, show (2 : Nat) ^ 53 = 9007199254740992 by decide]
    exact Nat.mul_lt_mul_of_pos_right m2 (Nat.two_pow_pos k)
  have q1 : M.natAbs * 2 ^ u < 2 ^ (20 + u) := by
    rw [Nat.pow_add, show (2 : Nat) ^ 20 = 1048576 by decide]
    exact Nat.mul_lt_mul_of_pos_right hM (Nat.two_pow_pos u)
  have q2 : 2 ^ u ≤ M.natAbs * 2 ^ u := Nat.le_mul_of_pos_left _ (by omega)
  rw [hv] at p1 p2
  have r1 := Nat.lt_of_le_of_lt p1 q1
  have r2 := Nat.lt_of_le_of_lt q2 p2
  have s1 := (Nat.pow_lt_pow_iff_right (a := 2) (by decide)).1 r1
  have s2 := (Nat.pow_lt_pow_iff_right (a := 2) (by decide)).1 r2
  clear p1 p2 q1 q2 r1 r2 hv
  have := hu.out
  omega
theorem sticky (dv n Q : Nat) (hn : 0 < n) (hnd : n * 9007199254740992 ≤ dv) (hQ : Q = 2 * (dv / n) + (dv % n != 0).toNat) : 0 < Q ∧ Q * n ≤ 2 * dv + n ∧ 2 * dv ≤ Q * n + n := by
  have h1 := Nat.div_add_mod dv n
  have h2 := Nat.mod_lt dv hn
  have h3 : 0 < dv / n := Nat.div_pos (by omega) hn
  have e : Q * n = 2 * (n * (dv / n)) + (dv % n != 0).toNat * n := by
    rw [hQ, Nat.add_mul, Nat.mul_assoc, Nat.mul_comm (dv / n) n]
  by_cases hr : dv % n = 0
  · have hb : (dv % n != 0).toNat = 0 := by rw [hr]; rfl
    rw [hb] at e hQ
    exact ⟨by omega, by omega, by omega⟩
  · have hb : (dv % n != 0).toNat = 1 := by
      have : (dv % n != 0) = true := by simpa using hr
      rw [this]; rfl
    rw [hb, Nat.one_mul] at e
    rw [hb] at hQ
    exact ⟨by omega, by omega, by omega⟩
theorem unit_pow (u : Nat) (h : u = 1074) : Flt.unit = 2 ^ u := by
  unfold Flt.unit Flt.pw
  rw [h]
theorem nd54 (n m : Nat) (n2 : n < 9007199254740992) (m1 : 4503599627370496 ≤ m) : n * 9007199254740992 ≤ m * 18014398509481984 := by omega
theorem twice54 (m : Nat) : 2 * (m * 18014398509481984) = m * 36028797018963968 := by omega
theorem exps (i j : Int) (k u : Nat) (hk : (k : Int) = i - j - 54 - 1 + 1074) (hu : u = 1074) (i1 : -1074 ≤ i) (j1 : -200 ≤ j) : (i + 1074).toNat + u = 55 + (k + (j + 1074).toNat) := by omega
theorem err_final (A B C E : Nat) (f1 : A * 9007199254740992 ≤ C * 9007199254740993) (f2 : C * 9007199254740991 ≤ A * 9007199254740992) (f3 : C ≤ 2 * B + E) (f4 : 2 * B ≤ C + E) (f5 : E * 9007199254740992 ≤ B) :
    A * 9007199254740992 ≤ 2 * B * 9007199254740994 ∧ 2 * B * 9007199254740990 ≤ A * 9007199254740992 := by omega
theorem div_err (M : Int) (h0 : M ≠ 0) (hM : M.natAbs < 1048576) (y n : Nat) (j : Int) (hy : double.read y = .number false n j) (n1 : 4503599627370496 ≤ n) (n2 : n < 9007199254740992) (j1 : -200 ≤ j) (j2 : j ≤ 500) (hY : n * 2 ^ (j + 1074).toNat = Flt.mag y) :
    ∃ R, double.div (Flt.mk M 0) y = some ((if decide (M < 0) = true then 9223372036854775808 else 0) + R) ∧ R < 9218868437227405312 ∧
      Flt.mag R * Flt.mag y * 9007199254740992 ≤ M.natAbs * Flt.unit * Flt.unit * 9007199254740994 ∧ M.natAbs * Flt.unit * Flt.unit * 9007199254740990 ≤ Flt.mag R * Flt.mag y * 9007199254740992 := by
  obtain ⟨m, i, hr, m1, m2, i1, -, hv'⟩ := mk_read M 0 h0 (by omega) (by decide) (by decide)
  obtain ⟨u, hu, hun⟩ : ∃ u : Nat, Hid (u = 1074) ∧ Hid (Flt.unit = 2 ^ u) := ⟨1074, hide rfl, hide (unit_pow 1074 rfl)⟩
  have hv : Hid (m * 2 ^ (i + 1074).toNat = M.natAbs * 2 ^ u) := by
    have e : ((0 : Int) + 1074).toNat = u := hu.out.symm
    rw [e] at hv'
    exact hide hv'
  clear hv'
  obtain ⟨i2, i3⟩ := mk_place M m i u hu h0 hM m1 m2 i1 hv
  have hl1 : m.log2 = 52 := Flt.log2_of (by omega) (by omega)
  have hl2 : n.log2 = 52 := Flt.log2_of (by omega) (by omega)
  obtain ⟨Q, hQ⟩ : ∃ Q, Q = 2 * (m <<< 54 / n) + (m <<< 54 % n != 0).toNat := ⟨_, rfl⟩
  have hdv : m <<< 54 = m * 18014398509481984 := by rw [Nat.shiftLeft_eq]
  obtain ⟨q0, q1, q2⟩ := sticky (m <<< 54) n Q (by omega) (by rw [hdv]; omega) hQ
  have hd : double.div (Flt.mk M 0) y = some ((if decide (M < 0) = true then 9223372036854775808 else 0) + Flt.near Q (i - j - 54 - 1)) := by
    unfold Format.div
    rw [hr, hy]
    simp only [Datum.quotient, Bool.xor_false]
    rw [if_neg (by omega), hl1, hl2, show double.fractionBits + 2 + 52 - 52 = 54 by decide]
    simp only [Option.map_some, Format.write]
    rw [← hQ, near_sign _ _ _ (by omega)]
    rfl
  obtain ⟨k, hk⟩ : ∃ k : Nat, (k : Int) = i - j - 54 - 1 + 1074 := ⟨(i - j - 54 - 1 + 1074).toNat, by omega⟩
  have hS : Flt.near Q (i - j - 54 - 1) = Flt.near (Q * Flt.pw k) (-1074) := by
    rw [near_pw _ _ _ (by omega), show (-1074 : Int) + (k : Int) = i - j - 54 - 1 by omega]
  obtain ⟨S, hSd⟩ : ∃ S, Q * Flt.pw k = S := ⟨_, rfl⟩
  have hk2 : k < 1300 := by omega
  have hQb : Q < 144115188075855872 := by
    have : m <<< 54 / n ≤ 36028797018963968 := by
      rw [hdv]
      refine Nat.div_le_of_le_mul ?_
      omega
    rw [hQ]
    have : (m <<< 54 % n != 0).toNat ≤ 1 := Bool.toNat_le _
    omega
  have hS0 : S ≠ 0 := by
    rw [← hSd]
    exact Nat.ne_of_gt (Nat.mul_pos q0 (Flt.pw_pos k))
  have hSl : S.log2 < 2000 := by
    obtain ⟨T, hT⟩ : ∃ T : Nat, Hid (T = 2000) := ⟨_, hide rfl⟩
    rw [← hT.out]
    refine (Nat.log2_lt hS0).2 ?_
    rw [← hSd]
    have h1 : Q * Flt.pw k < 2 ^ 57 * 2 ^ k := Nat.mul_lt_mul_of_pos_right (by rw [show (2 : Nat) ^ 57 = 144115188075855872 by decide]; exact hQb) (Flt.pw_pos k)
    rw [← Nat.pow_add] at h1
    exact Nat.lt_of_lt_of_le h1 (Nat.pow_le_pow_right (by decide) (by have := hT.out; omega))
  obtain ⟨e1, e2, e3⟩ := near_err S hS0 hSl
  rw [hS, hSd] at hd
  refine ⟨_, hd, e1, ?_⟩
  obtain ⟨R, hR⟩ : ∃ R, Flt.mag (Flt.near S (-1074)) = R := ⟨_, rfl⟩
  obtain ⟨Y, hYY⟩ : ∃ Y, Flt.mag y = Y := ⟨_, rfl⟩
  rw [hR] at e2 e3 ⊢
  rw [hYY] at hY ⊢
  -- both sides over the same power
  obtain ⟨c, hc⟩ : ∃ c, Flt.pw k * 2 ^ (j + 1074).toNat = c := ⟨_, rfl⟩
  have hSY : S * Y = Q * n * c := by
    rw [← hSd, ← hY, ← hc]
    generalize 2 ^ (j + 1074).toNat = J
    generalize Flt.pw k = K
    simp only [Nat.mul_comm, Nat.mul_left_comm]
  have hXU : M.natAbs * Flt.unit * Flt.unit = 2 * (m <<< 54) * c := by
    have e4 : M.natAbs * Flt.unit = m * 2 ^ (i + 1074).toNat := by rw [hun.out]; exact hv.out.symm
    rw [e4, hdv, ← hc]
    have e5 : 2 ^ (i + 1074).toNat * Flt.unit = 36028797018963968 * (Flt.pw k * 2 ^ (j + 1074).toNat) := by
      rw [show (36028797018963968 : Nat) = 2 ^ 55 by decide, hun.out]
      unfold Flt.pw
      rw [← Nat.pow_add, ← Nat.pow_add, ← Nat.pow_add, exps i j k u hk hu.out i1 j1]
    rw [Nat.mul_assoc, e5]
    generalize Flt.pw k * 2 ^ (j + 1074).toNat = c
    rw [← Nat.mul_assoc, twice54]
  have f1 := Nat.mul_le_mul_right Y e2
  have f2 := Nat.mul_le_mul_right Y e3
  have f3 := Nat.mul_le_mul_right c q1
  have f4 := Nat.mul_le_mul_right c q2
  have hnd : n * 9007199254740992 ≤ m <<< 54 := by rw [hdv]; exact nd54 n m n2 m1
  have f5 := Nat.mul_le_mul_right c hnd
  rw [Nat.mul_right_comm R, Nat.mul_right_comm S, hSY] at f1
  rw [Nat.mul_right_comm R, Nat.mul_right_comm S, hSY] at f2
  rw [Nat.add_mul] at f3 f4
  rw [Nat.mul_right_comm n] at f5
  rw [hXU]
  rw [Nat.mul_assoc 2 (m <<< 54) c] at f3 f4 ⊢
  exact err_final _ _ _ _ f1 f2 f3 f4 f5
end Go.Proofs.YtboighnmgnjhdaaDoor
