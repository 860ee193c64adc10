/-
  What a scale that is a power of two says, and says again. By an AI agent. No person has read it.
-/
import Derived.Test.YtboighnmgnjhdaaDoorQuaX
import Derived.Test.YtboighnmgnjhdaaDoorQuaE
import Derived.Test.YtboighnmgnjhdaaDoorQuaQ
namespace Go.Proofs.YtboighnmgnjhdaaDoor
open Go.RowKit
open Ieee

theorem round_int (y : Nat) (d : Int) (hy : y < 18446744073709551616) (h7 : Flt.expo y ≠ 2047) (hd : d.natAbs < 1099511627776) (h1 : 2 * d.natAbs * Flt.unit < 2 * Flt.mag y + Flt.unit) (h2 : 2 * Flt.mag y < (2 * d.natAbs + 1) * Flt.unit) (hs : d ≠ 0 → Flt.neg y = decide (d < 0)) : Flt.wv (Flt.round y) = d := by
  have h := round_key y d.natAbs hy h7 h1 h2
  by_cases h0 : d = 0
  · subst h0
    rw [h]
    cases Flt.neg y <;> decide +kernel
  · have hw := whl_mk d h0 (by omega)
    rw [h, hs h0]
    have e := wv_whole d h0 hd
    rw [hw] at e
    have e2 : (if decide (d < 0) = true then 9223372036854775808 else 0) = (if d < 0 then 9223372036854775808 else 0 : Nat) := by
      by_cases hn : d < 0
      · rw [if_pos (decide_eq_true hn), if_pos hn]
      · rw [if_neg (by simpa using hn), if_neg hn]
    rw [e2]
    exact e
theorem mk_one (e : Int) (h1 : -900 ≤ e) (h2 : e ≤ 900) : Flt.mk 1 e = Qua.p2 e := by
  obtain ⟨b1, b2, b3⟩ := near_exact 1 e (by decide) (by decide) (by omega) h2
  have hm : Flt.mk 1 e = Flt.near 1 e := by
    rw [mk_near 1 e (by decide), if_neg (by decide), Nat.zero_add]
    rfl
  rw [show Nat.log2 1 = 0 by decide] at b1
  have hf := Flt.frac_lt' (Flt.near 1 e)
  obtain ⟨f, hff⟩ : ∃ f, Flt.frac (Flt.near 1 e) = f := ⟨_, rfl⟩
  rw [hff] at hf
  have hw : Flt.near 1 e = (1023 + e).toNat * 4503599627370496 + f := by
    rw [← hff]
    unfold Flt.expo at b1
    unfold Flt.frac
    omega
  have hg := (mag_norm (1023 + e).toNat f (by omega) (by omega) hf).1
  rw [← hw, b3, show (e + 1074).toNat = 52 + ((1023 + e).toNat - 1) by omega, pw_add, Nat.one_mul] at hg
  have := Nat.eq_of_mul_eq_mul_right (Flt.pw_pos _) hg
  have e52 : Flt.pw 52 = 4503599627370496 := by decide
  rw [e52] at this
  rw [hm, hw]
  unfold Qua.p2
  omega
theorem mk_key (d e : Int) (hd : d.natAbs < 9007199254740992) (h1 : -1000 ≤ e) (h2 : e ≤ 900) : Flt.key (Flt.mk d e) = d * (Flt.pw (e + 1074).toNat : Int) ∧ Flt.mk d e < 18446744073709551616 ∧ Flt.mk d e % 9223372036854775808 < 9218868437227405312 := by
  by_cases h0 : d = 0
  · subst h0
    rw [mk_zero, key_zero.1, Int.zero_mul]
    exact ⟨rfl, by decide, by decide⟩
  · obtain ⟨-, a2, a3, -, -, a6⟩ := mk_facts d e h0 hd h1 h2
    exact ⟨a6, a2, by unfold Flt.expo at a3; omega⟩
theorem mul_p2' (d e : Int) (hs : d.natAbs < 9007199254740992) (h1 : -400 ≤ e) (h2 : e ≤ 400) : double.mul (Qua.p2 e) (Flt.mk d 0) = some (Flt.mk d e) := by
  by_cases h0 : d = 0
  · subst h0
    obtain ⟨-, -, -, hp, -, -⟩ := p2_facts e (by omega) (by omega)
    rw [mk_zero, mk_zero]
    unfold Format.mul
    rw [hp, show double.read 0 = .number false 0 (-1074) by decide +kernel]
    simp only [Datum.product, Option.map_some, Format.write, Bool.xor_false, Nat.mul_zero]
    rw [Flt.nearest_zero]
    rfl
  · exact mul_p2 d e h0 hs h1 h2
/-- A sum and a difference by a quarter. -/
theorem quarter_add (d e : Int) (hd : d.natAbs < 1000000) (h1 : -400 ≤ e) (h2 : e ≤ 400) : double.add (Flt.mk d e) (Flt.mk 1 (e - 2)) = some (Flt.mk (4 * d + 1) (e - 2)) := by
  obtain ⟨k1, l1, m1⟩ := mk_key d e (by omega) (by omega) (by omega)
  obtain ⟨k2, l2, m2⟩ := mk_key 1 (e - 2) (by decide) (by omega) (by omega)
  have hu : (Flt.pw (e + 1074).toNat : Int) = 4 * (Flt.pw (e - 2 + 1074).toNat : Int) := by
    rw [show (e + 1074).toNat = 2 + (e - 2 + 1074).toNat by omega, pw_add, Int.natCast_mul]
    rfl
  obtain ⟨U, hU⟩ : ∃ U, Flt.pw (e - 2 + 1074).toNat = U := ⟨_, rfl⟩
  have hU0 : 0 < U := by rw [← hU]; exact Flt.pw_pos _
  have hk : Flt.key (Flt.mk d e) + Flt.key (Flt.mk 1 (e - 2)) = (4 * d + 1) * (U : Int) := by
    rw [k1, k2, hu, hU, Int.add_mul, Int.mul_assoc, Int.mul_left_comm d 4]
  have h := add_key (Flt.mk d e) (Flt.mk 1 (e - 2)) l1 l2 m1 m2 (by
    rw [hk]
    intro h
    rcases Int.mul_eq_zero.1 h with h | h <;> omega)
  rw [hk, Int.natAbs_mul, Int.natAbs_natCast, ← hU, near_pw _ _ _ (by omega), show -1074 + (((e - 2 + 1074).toNat : Nat) : Int) = e - 2 by omega] at h
  rw [h, mk_near (4 * d + 1) (e - 2) (by omega)]
  congr 2
  by_cases hn : 4 * d + 1 < 0
  · rw [if_pos (Int.mul_neg_of_neg_of_pos hn (by rw [hU]; omega)), if_pos (decide_eq_true hn)]
  · rw [if_neg (by have := Int.mul_nonneg (show 0 ≤ 4 * d + 1 by omega) (show (0 : Int) ≤ (Flt.pw (e - 2 + 1074).toNat : Nat) by omega); omega), if_neg (by simpa using hn)]
theorem quarter_sub (d e : Int) (hd : d.natAbs < 1000000) (h1 : -400 ≤ e) (h2 : e ≤ 400) : double.sub (Flt.mk d e) (Flt.mk 1 (e - 2)) = some (Flt.mk (4 * d - 1) (e - 2)) := by
  obtain ⟨k1, l1, m1⟩ := mk_key d e (by omega) (by omega) (by omega)
  obtain ⟨k2, l2, m2⟩ := mk_key 1 (e - 2) (by decide) (by omega) (by omega)
  have hu : (Flt.pw (e + 1074).toNat : Int) = 4 * (Flt.pw (e - 2 + 1074).toNat : Int) := by
    rw [show (e + 1074).toNat = 2 + (e - 2 + 1074).toNat by omega, pw_add, Int.natCast_mul]
    rfl
  obtain ⟨U, hU⟩ : ∃ U, Flt.pw (e - 2 + 1074).toNat = U := ⟨_, rfl⟩
  have hU0 : 0 < U := by rw [← hU]; exact Flt.pw_pos _
  have hk : Flt.key (Flt.mk d e) - Flt.key (Flt.mk 1 (e - 2)) = (4 * d - 1) * (U : Int) := by
    rw [k1, k2, hu, hU, Int.sub_mul, Int.mul_assoc, Int.mul_left_comm d 4]
  have h := sub_ne (Flt.mk d e) (Flt.mk 1 (e - 2)) l1 l2 m1 m2 (by
    rw [hk]
    intro h
    rcases Int.mul_eq_zero.1 h with h | h <;> omega)
  rw [hk, Int.natAbs_mul, Int.natAbs_natCast, ← hU, near_pw _ _ _ (by omega), show -1074 + (((e - 2 + 1074).toNat : Nat) : Int) = e - 2 by omega] at h
  rw [h, mk_near (4 * d - 1) (e - 2) (by omega)]
  congr 2
  by_cases hn : 4 * d - 1 < 0
  · rw [if_pos (Int.mul_neg_of_neg_of_pos hn (by rw [hU]; omega)), if_pos (decide_eq_true hn)]
  · rw [if_neg (by have := Int.mul_nonneg (show 0 ≤ 4 * d - 1 by omega) (show (0 : Int) ≤ (Flt.pw (e - 2 + 1074).toNat : Nat) by omega); omega), if_neg (by simpa using hn)]
/-- What stands for it: the whole number that lies nearest. -/
theorem val_quarter (M d e : Int) (h0 : M ≠ 0) (hd : d.natAbs < 1000000) (hM : M - 4 * d ≤ 1 ∧ -1 ≤ M - 4 * d) (h1 : -390 ≤ e) (h2 : e ≤ 390) : Qua.val (Flt.mk M (e - 2)) (Qua.p2 e) = d := by
  have h := div_p2 M (e - 2) e h0 (by omega) (by omega) (by omega) (by omega) (by omega)
  rw [show e - 2 - e = -2 by omega] at h
  unfold Qua.val
  rw [h]
  obtain ⟨-, a2, a3, a4, a5, -⟩ := mk_facts M (-2) h0 (by omega) (by decide) (by decide)
  have hu : Flt.unit = 4 * Flt.pw (-2 + 1074 : Int).toNat := by
    unfold Flt.unit
    rw [show 1074 = 2 + (-2 + 1074 : Int).toNat by decide, pw_add, show Flt.pw 2 = 4 by decide]
  have hp := Flt.pw_pos (-2 + 1074 : Int).toNat
  refine round_int (Flt.mk M (-2)) d a2 a3 (by omega) ?_ ?_ (fun hd0 => by rw [a4]; exact decide_eq_decide.2 (by omega))
  · rw [a5, hu]
    generalize Flt.pw (-2 + 1074 : Int).toNat = p at *
    have := Nat.mul_le_mul_right p (show 8 * d.natAbs ≤ 2 * M.natAbs + 2 by omega)
    rw [Nat.add_mul] at this
    rw [show 2 * d.natAbs * (4 * p) = 8 * d.natAbs * p by rw [← Nat.mul_assoc, show 2 * d.natAbs * 4 = 8 * d.natAbs by omega], show 2 * (M.natAbs * p) = 2 * M.natAbs * p by rw [Nat.mul_assoc]]
    omega
  · rw [a5, hu]
    generalize Flt.pw (-2 + 1074 : Int).toNat = p at *
    have := Nat.mul_le_mul_right p (show 2 * M.natAbs ≤ 8 * d.natAbs + 2 by omega)
    rw [Nat.add_mul] at this
    rw [show (2 * d.natAbs + 1) * (4 * p) = 8 * d.natAbs * p + 4 * p by rw [Nat.add_mul, ← Nat.mul_assoc, Nat.one_mul, show 2 * d.natAbs * 4 = 8 * d.natAbs by omega], show 2 * (M.natAbs * p) = 2 * M.natAbs * p by rw [Nat.mul_assoc]]
    omega
theorem val_whole (d e : Int) (hd : d.natAbs < 1000000) (h1 : -400 ≤ e) (h2 : e ≤ 390) : Qua.val (Flt.mk d e) (Qua.p2 e) = d := by
  by_cases h0 : d = 0
  · subst h0
    rw [mk_zero]
    exact val_zero _ (p2_facts e (by omega) (by omega)).2.2.1
  · have h := div_p2 d e e h0 (by omega) h1 (by omega) h1 (by omega)
    rw [Int.sub_self] at h
    unfold Qua.val
    rw [h]
    obtain ⟨-, a2, a3, a4, a5, -⟩ := mk_facts d 0 h0 (by omega) (by decide) (by decide)
    have hu : Flt.unit = Flt.pw (0 + 1074 : Int).toNat := rfl
    have hp := Flt.unit_pos
    rw [← hu] at a5
    refine round_int (Flt.mk d 0) d a2 a3 (by omega) ?_ ?_ (fun _ => a4)
    · rw [a5, Nat.mul_assoc]; omega
    · rw [a5, Nat.add_mul, Nat.mul_assoc]; omega
theorem of_exact (y b : Nat) (z d q : Int) (hv : Qua.val y b = d) (hd : d = q - z) (hz : -128 ≤ z ∧ z ≤ 127) (hq : -128 ≤ q ∧ q ≤ 127) : Qua.of b z y = q := by
  unfold Qua.of
  rw [hv]
  unfold Flt.clamp
  split <;> split <;> split <;> split <;> omega
theorem order_mk (c d e : Int) (hc : c.natAbs < 1000000) (hd : d.natAbs < 1000000) (h1 : -400 ≤ e) (h2 : e ≤ 400) : FloatKind.f64.format.order (Flt.mk c e) (Flt.mk d e) = some (compare c d) := by
  obtain ⟨k1, l1, m1⟩ := mk_key c e (by omega) (by omega) (by omega)
  obtain ⟨k2, l2, m2⟩ := mk_key d e (by omega) (by omega) (by omega)
  have h := Flt.order_key _ _ l1 l2 m1 m2
  rw [k1, k2] at h
  have hm := Flt.compare_mul c d (e + 1074).toNat
  exact h.trans (congrArg some hm)
end Go.Proofs.YtboighnmgnjhdaaDoor
