/-
  The scale that fits whole numbers reaches from its end to its end. By an AI agent. No person has read it.
-/
import Derived.Test.YtboighnmgnjhdaaDoorQvR
namespace Go.Proofs.YtboighnmgnjhdaaDoor
open Go.RowKit
open Ieee

theorem unit_big : 1152921504606846976 ≤ Flt.unit := by
  have : Flt.unit = Flt.pw 60 * Flt.pw 1014 := pw_add 60 1014
  rw [this, show Flt.pw 60 = 1152921504606846976 by decide]
  exact Nat.le_mul_of_pos_right _ (Flt.pw_pos 1014)
theorem mk_mag (M : Int) (h0 : M ≠ 0) (hM : M.natAbs < 1048576) : Flt.mag (Flt.mk M 0) = M.natAbs * Flt.unit ∧ Flt.key (Flt.mk M 0) = M * (Flt.unit : Int) := by
  obtain ⟨-, -, -, -, a5, a6⟩ := mk_facts M 0 h0 (by omega) (by decide) (by decide)
  exact ⟨a5, a6⟩
theorem mk_mag_nat (k : Nat) (h0 : 0 < k) (hk : k < 1048576) : Flt.mag (Flt.mk (k : Int) 0) = k * Flt.unit := by
  have h := (mk_mag (k : Int) (by omega) (by omega)).1
  rw [Int.natAbs_natCast] at h
  exact h
/-- The place of a number about one. -/
theorem place_of (n : Nat) (j : Int) (be : Nat) (n1 : 4503599627370496 ≤ n) (n2 : n < 9007199254740992) (j1 : -1074 ≤ j) (hv : n * 2 ^ (j + 1074).toNat = be) (b1 : be ≤ 1048576 * Flt.unit) (b2 : Flt.unit ≤ 1048576 * be) : -200 ≤ j ∧ j ≤ 500 := by
  obtain ⟨u, hu, hun⟩ : ∃ u : Nat, Hid (u = 1074) ∧ Hid (Flt.unit = 2 ^ u) := ⟨1074, hide rfl, hide (unit_pow 1074 rfl)⟩
  rw [hun.out] at b1 b2
  obtain ⟨k, hk⟩ : ∃ k, (j + 1074).toNat = k := ⟨_, rfl⟩
  rw [hk] at hv
  have p1 : 2 ^ (52 + k) ≤ n * 2 ^ k := by
    rw [Nat.pow_add, show (2 : Nat) ^ 52 = 4503599627370496 by decide]
    exact Nat.mul_le_mul_right _ n1
  have p2 : n * 2 ^ k < 2 ^ (53 + k) := by
    rw [Nat.pow_add, show (2 : Nat) ^ 53 = 9007199254740992 by decide]
    exact Nat.mul_lt_mul_of_pos_right n2 (Nat.two_pow_pos k)
  have e : (1048576 : Nat) = 2 ^ 20 := by decide
  rw [hv] at p1 p2
  have r1 : 2 ^ (52 + k) ≤ 2 ^ (20 + u) := by
    rw [Nat.pow_add 2 20, ← e]
    exact Nat.le_trans p1 b1
  have r2 : 2 ^ u < 2 ^ (20 + (53 + k)) := by
    rw [Nat.pow_add 2 20, ← e]
    exact Nat.lt_of_le_of_lt b2 (Nat.mul_lt_mul_of_pos_left p2 (by decide))
  have s1 := (Nat.pow_le_pow_iff_right (a := 2) (by decide)).1 r1
  have s2 := (Nat.pow_lt_pow_iff_right (a := 2) (by decide)).1 r2
  clear p1 p2 r1 r2 b1 b2 hv
  have := hu.out
  omega
theorem beta_bounds (U D be : Nat) (hU : 1152921504606846976 ≤ U) (hD : 1 ≤ D) (hD2 : D ≤ 2000) (f1 : be * (255 * U) * 9007199254740992 ≤ D * U * U * 9007199254740994) (f2 : D * U * U * 9007199254740990 ≤ be * (255 * U) * 9007199254740992) :
    4503599627370496 ≤ be ∧ be ≤ 1048576 * U ∧ U ≤ 1048576 * be := by
  have e0 : be * (255 * U) = 255 * be * U := by rw [Nat.mul_left_comm, Nat.mul_assoc]
  rw [e0, Nat.mul_right_comm (255 * be), Nat.mul_right_comm (D * U)] at f1 f2
  have g1 := Nat.le_of_mul_le_mul_right f1 (by omega)
  have g2 := Nat.le_of_mul_le_mul_right f2 (by omega)
  have d1 : U ≤ D * U := Nat.le_mul_of_pos_left _ hD
  have d2 : D * U ≤ 2000 * U := Nat.mul_le_mul_right _ hD2
  generalize D * U = x at *
  exact ⟨by omega, by omega, by omega⟩
theorem quo_small (M : Int) (hM : M.natAbs < 1048576) (b : Nat) (hp : Qua.pos b = true) (n : Nat) (j : Int) (hy : double.read b = .number false n j) (n1 : 4503599627370496 ≤ n) (n2 : n < 9007199254740992) (j1 : -200 ≤ j) (j2 : j ≤ 500) (hY : n * 2 ^ (j + 1074).toNat = Flt.mag b) :
    ∃ t T, double.div (Flt.mk M 0) b = some t ∧ t < 18446744073709551616 ∧ t % 9223372036854775808 < 9218868437227405312 ∧ Flt.expo t ≠ 2047 ∧ Flt.mag t = T ∧ (0 ≤ M → Flt.key t = T) ∧ (M ≤ 0 → Flt.key t = -(T : Int)) ∧
      T * Flt.mag b * 9007199254740992 ≤ M.natAbs * Flt.unit * Flt.unit * 9007199254740994 ∧ M.natAbs * Flt.unit * Flt.unit * 9007199254740990 ≤ T * Flt.mag b * 9007199254740992 := by
  by_cases h0 : M = 0
  · subst h0
    refine ⟨0, 0, ?_, by decide, by decide, by decide, rfl, fun _ => key_zero.1, fun _ => key_zero.1, by simp, by simp⟩
    rw [mk_zero]
    obtain ⟨n', j', e2, hn0⟩ := pos_read b hp
    unfold Format.div
    rw [e2, show double.read 0 = .number false 0 (-1074) by decide +kernel]
    simp only [Datum.quotient, if_neg hn0, Option.map_some, Format.write, Nat.zero_shiftLeft, Nat.zero_div, Nat.zero_mod, Bool.xor_false]
    rw [show (2 * 0 + ((0 : Nat) != 0).toNat) = 0 by decide, Flt.nearest_zero]
    rfl
  · obtain ⟨R, hR, hl, e1, e2⟩ := div_err M h0 hM b n j hy n1 n2 j1 j2 hY
    by_cases hn : M < 0
    · rw [if_pos (decide_eq_true hn)] at hR
      have hm : Flt.mag (9223372036854775808 + R) = Flt.mag R := mag_mod 9223372036854775808 R (.inr rfl)
      refine ⟨_, Flt.mag R, hR, by omega, by omega, by unfold Flt.expo; omega, hm, fun h => by omega, fun _ => ?_, e1, e2⟩
      unfold Flt.key
      rw [if_pos (by omega), hm]
    · rw [if_neg (by simpa using hn), Nat.zero_add] at hR
      refine ⟨_, Flt.mag R, hR, by omega, by omega, by unfold Flt.expo; omega, rfl, fun _ => ?_, fun h => by omega, e1, e2⟩
      unfold Flt.key
      rw [if_neg (by omega)]
theorem c255 : ∃ (n : Nat) (j : Int), double.read 4643176031446892544 = .number false n j ∧ 4503599627370496 ≤ n ∧ n < 9007199254740992 ∧ -200 ≤ j ∧ j ≤ 500 ∧ n * 2 ^ (j + 1074).toNat = Flt.mag 4643176031446892544 ∧ Flt.mag 4643176031446892544 = 255 * Flt.unit := by
  have h255 : Flt.mk ((255 : Nat) : Int) 0 = 4643176031446892544 := by decide +kernel
  have hm255 := mk_mag_nat 255 (by decide) (by decide)
  rw [h255] at hm255
  have h := (mag_norm 1030 4468415255281664 (by decide) (by decide) (by decide)).1
  rw [show 1030 * 4503599627370496 + 4468415255281664 = 4643176031446892544 from rfl, show 4503599627370496 + 4468415255281664 = 8972014882652160 from rfl, show 1030 - 1 = 1029 from rfl] at h
  unfold Flt.pw at h
  refine ⟨8972014882652160, -45, by decide +kernel, by decide, by decide, by decide, by decide, ?_, hm255⟩
  rw [show ((-45 : Int) + 1074).toNat = 1029 from rfl]
  exact h.symm
theorem spans_facts (l H : Nat) (hl : l ≤ 1000) (hH : H ≤ 1000) (hD : 1 ≤ l + H) (b : Nat) (hb : double.div ((double.sub (Flt.mk (H : Int) 0) (Flt.mk (-(l : Int)) 0)).getD 0) 4643176031446892544 = some b) :
    Qua.pos b = true ∧ Qua.of b (Qua.zer (Flt.mk (-(l : Int)) 0) b) (Flt.mk (-(l : Int)) 0) ≤ -126 ∧ 125 ≤ Qua.of b (Qua.zer (Flt.mk (-(l : Int)) 0) b) (Flt.mk (H : Int) 0) ∧ double.sub (Flt.mk (H : Int) 0) (Flt.mk (-(l : Int)) 0) = some (Flt.mk ((l + H : Nat) : Int) 0) ∧ b < 9218868437227405312 := by
  have hUb := unit_big
  have hU0 := Flt.unit_pos
  -- the difference
  obtain ⟨k1, l1, m1⟩ := mk_key (H : Int) 0 (by omega) (by decide) (by decide)
  obtain ⟨k2, l2, m2⟩ := mk_key (-(l : Int)) 0 (by omega) (by decide) (by decide)
  have hpu : Flt.pw ((0 : Int) + 1074).toNat = Flt.unit := rfl
  rw [hpu] at k1 k2
  have hkd : Flt.key (Flt.mk (H : Int) 0) - Flt.key (Flt.mk (-(l : Int)) 0) = (((l + H) * Flt.unit : Nat) : Int) := by
    rw [k1, k2, Int.natCast_mul, Int.natCast_add, Int.add_mul, Int.neg_mul]
    omega
  have hDU : 0 < (l + H) * Flt.unit := Nat.mul_pos hD hU0
  have hsub : double.sub (Flt.mk (H : Int) 0) (Flt.mk (-(l : Int)) 0) = some (Flt.mk ((l + H : Nat) : Int) 0) := by
    have h := sub_ne _ _ l1 l2 m1 m2 (by rw [hkd]; omega)
    rw [hkd, if_neg (by omega), Nat.zero_add, Int.natAbs_natCast] at h
    have hn : Flt.near ((l + H) * Flt.unit) (-1074) = Flt.near (l + H) 0 := near_pw (l + H) 1074 (-1074) (by omega)
    rw [h, hn, mk_near _ _ (by omega), if_neg (by simp only [decide_eq_true_eq]; omega), Nat.zero_add, Int.natAbs_natCast]
  rw [hsub] at hb
  dsimp only [Option.getD] at hb
  -- the step
  obtain ⟨n0, j0, hr0, n1, n2, j1, j2, hY0, hm255⟩ := c255
  obtain ⟨R, hR, hRl, f1, f2⟩ := div_err ((l + H : Nat) : Int) (by omega) (by omega) 4643176031446892544 n0 j0 hr0 n1 n2 j1 j2 hY0
  rw [if_neg (by simp only [decide_eq_true_eq]; omega), Nat.zero_add, hb] at hR
  obtain rfl := Option.some.inj hR
  rw [hm255, Int.natAbs_natCast] at f1 f2
  clear hY0 hr0 hm255 n1 n2 j1 j2 hkd hDU
  obtain ⟨g1, g2, g3⟩ := beta_bounds Flt.unit (l + H) (Flt.mag b) hUb hD (by omega) f1 f2
  obtain ⟨n, j, hy, n1, n2, j1, -, hY⟩ := norm_read b hRl g1
  obtain ⟨j2, j3⟩ := place_of n j _ n1 n2 j1 hY g2 g3
  have hp : Qua.pos b = true := by
    unfold Qua.pos
    rw [decide_eq_true_eq]
    refine ⟨?_, hRl⟩
    rcases Nat.eq_zero_or_pos b with h | h
    · subst h
      have h0 : Flt.mag 0 = 0 := key_zero.2
      omega
    · exact h
  obtain ⟨t, T, ht, tl, tm, te, tT, -, tk, t1, t2⟩ := quo_small (-(l : Int)) (by omega) b hp n j hy n1 n2 j2 j3 hY
  obtain ⟨q, Q, hq, ql, qm, qe, qQ, qk, -, q1, q2⟩ := quo_small (H : Int) (by omega) b hp n j hy n1 n2 j2 j3 hY
  have tk := tk (by omega)
  have qk := qk (by omega)
  rw [Int.natAbs_neg, Int.natAbs_natCast] at t1 t2
  rw [Int.natAbs_natCast] at q1 q2
  obtain ⟨b1, b2, b3⟩ := quo_bounds Flt.unit (l + H) l H (Flt.mag b) T Q hU0 hD rfl f1 f2 t1 t2 q1 q2
  -- the zero
  have h128 : Flt.mk (-128) 0 = 13862079653046386688 := by decide +kernel
  have hk128 := (mk_mag (-128) (by decide) (by decide)).2
  rw [h128] at hk128
  have hVa : ((T : Int) - 128 * (Flt.unit : Int)).natAbs ≤ 1000 * Flt.unit := by omega
  obtain ⟨u, hu, ul, ue, v1, v2⟩ := sub_err 13862079653046386688 t (by decide) tl (by decide) tm ((T : Int) - 128 * (Flt.unit : Int)) (by rw [hk128, tk]; omega) (by omega)
  have hku : (Flt.mag u : Int) = (Flt.key u).natAbs := by
    unfold Flt.key
    split <;> omega
  have hmu : Flt.mag u < 1000000 * Flt.unit := by omega
  obtain ⟨z1, z2⟩ := round_err u ul ue hmu
  obtain ⟨w1, w2⟩ := round_err t tl te (by rw [tT]; omega)
  obtain ⟨x1, x2⟩ := round_err q ql qe (by rw [qQ]; omega)
  rw [tk] at w1 w2
  rw [qk] at x1 x2
  have hz : Qua.zer (Flt.mk (-(l : Int)) 0) b = Flt.clamp (Flt.wv (Flt.round u)) (-128) 127 := by
    unfold Qua.zer
    rw [ht]
    dsimp only
    rw [hu]
  have hv1 : Qua.val (Flt.mk (-(l : Int)) 0) b = Flt.wv (Flt.round t) := by unfold Qua.val; rw [ht]
  have hv2 : Qua.val (Flt.mk (H : Int) 0) b = Flt.wv (Flt.round q) := by unfold Qua.val; rw [hq]
  unfold Qua.of
  rw [hz, hv1, hv2]
  have hUi : (0 : Int) < (Flt.unit : Int) := by omega
  have hb1 : 10 * (T : Int) ≤ 2554 * (Flt.unit : Int) := by omega
  have hb2 : 10 * (Q : Int) ≤ 2554 * (Flt.unit : Int) := by omega
  have hb3 : 25499 * (Flt.unit : Int) ≤ 100 * ((Q : Int) + (T : Int)) := by omega
  have fin := ends_num (Flt.unit : Int) T Q (Flt.key u) (Flt.wv (Flt.round u)) (Flt.wv (Flt.round t)) (Flt.wv (Flt.round q)) hUi (by omega) hb1 hb2 hb3 (by omega) (by omega) z1 z2 (by omega) (by omega) x1 x2
  exact ⟨hp, fin.1, fin.2, hsub, hRl⟩
end Go.Proofs.YtboighnmgnjhdaaDoor
