/-
  A number from 2^30 to 2^31 as a whole one; package quant's Fixed of what is in its range, walked. By an AI agent. No person has read it.
-/
import Derived.Test.YtboighnmgnjhdaaDoorQuaB
import Derived.Test.YtboighnmgnjhdaaDoorFltP
import Derived.Test.YtboighnmgnjhdaaDoorFltW
namespace Go.Proofs.YtboighnmgnjhdaaDoor
open Go.RowKit
open Ieee

theorem wv_whole (E : Int) (h0 : E ≠ 0) (hEl : E.natAbs < 1099511627776) : Flt.wv (Flt.mk E 0) = E := by
  obtain ⟨-, a2, a3, a4, a5, a6⟩ := mk_facts E 0 h0 (by omega) (by decide) (by decide)
  have hnn := fin_nan _ a3
  have hu := Flt.unit_pos
  have hfin : Flt.mk E 0 % 9223372036854775808 < 9218868437227405312 := by unfold Flt.expo at a3; omega
  have hk : Flt.key (Flt.mk E 0) = E * (Flt.unit : Int) := a6
  have hmg : Flt.mag (Flt.mk E 0) = E.natAbs * Flt.unit := a5
  have o1 := Flt.order_key (Flt.mk E 0) 4890909195324358656 a2 (by decide) hfin (by decide)
  have o2 := Flt.order_key (Flt.mk E 0) 14114281232179134464 a2 (by decide) hfin (by decide)
  have hT := Flt.toInt_key (Flt.mk E 0) a2 hfin
  have hup : (0 : Int) < (Flt.unit : Int) := by omega
  rw [Flt.key_b63, hk, Flt.cmp_lt (Int.mul_lt_mul_of_pos_right (by omega) hup)] at o1
  rw [Flt.key_n63, hk, ← Int.neg_mul, Flt.cmp_gt (Int.mul_lt_mul_of_pos_right (by omega) hup)] at o2
  rw [hmg, Nat.mul_div_cancel _ hu] at hT
  have hv : floatToIntVal .f64 (Flt.mk E 0) .i64 = some E := by
    have hE1 : (if 9223372036854775808 ≤ Flt.mk E 0 then -(E.natAbs : Int) else (E.natAbs : Int)) = E := by
      unfold Flt.neg at a4
      by_cases h : E < 0
      · rw [decide_eq_true h, decide_eq_true_eq] at a4
        rw [if_pos a4]; omega
      · rw [decide_eq_false h, decide_eq_false_iff_not] at a4
        rw [if_neg a4]; omega
    rw [hE1] at hT
    unfold floatToIntVal
    rw [show FloatKind.f64.decode (Flt.mk E 0) = double.read (Flt.mk E 0) from rfl, hT]
    dsimp only
    have e1 : IntKind.i64.min = -9223372036854775808 := by decide
    have e2 : IntKind.i64.max = 9223372036854775807 := by decide
    rw [e1, e2, if_pos (by omega)]
  exact wv_mid hnn o1 o2 (by decide) hv
theorem half_ratio (A P M Q : Nat) (hP : 0 < P) (hQ : 0 < Q) (h : A * Q = M * P) : Flt.half A P = Flt.half M Q := by
  rw [← half_scale A P Q hQ, h, Nat.mul_comm P Q, half_scale M Q P hP]
theorem half_in (f : Nat) (hf : f < 4503599627370496) : 1073741824 ≤ Flt.half (4503599627370496 + f) 4194304 ∧ Flt.half (4503599627370496 + f) 4194304 ≤ 2147483648 :=
  ⟨half_least _ _ _ (by decide) (by omega), half_bound _ _ _ (by decide) (by omega)⟩
theorem scaled (y : Nat) (hy : y < 9223372036854775808) (he : Flt.expo y = 1053) : Flt.clamp (Flt.wv (Flt.round y)) 0 2147483648 = ((Flt.half (4503599627370496 + Flt.frac y) 4194304 : Nat) : Int) := by
  obtain ⟨A, P, hP, hA, hr⟩ := round_read y (by omega) (by omega)
  have hn : Flt.neg y = false := by unfold Flt.neg; rw [decide_eq_false_iff_not]; omega
  have he2 : y % 9223372036854775808 / 4503599627370496 = 1053 := by unfold Flt.expo at he; omega
  have hm := Flt.mag_pw y (by omega)
  rw [he2] at hm
  have hfr : y % 4503599627370496 = Flt.frac y := rfl
  rw [hfr] at hm
  have hu : Flt.unit = Flt.pw 1052 * 4194304 := by
    have h := Flt.pw_add 1052 22
    rw [show (2 : Nat) ^ 22 = 4194304 by decide] at h
    unfold Flt.unit
    exact h
  have hpos := Flt.pw_pos 1052
  have hAM : A * 4194304 = (4503599627370496 + Flt.frac y) * P := by
    rw [hm, hu, show 1053 - 1 = 1052 from rfl] at hA
    refine Nat.eq_of_mul_eq_mul_left hpos ?_
    rw [Nat.mul_left_comm, hA, Nat.mul_comm (4503599627370496 + Flt.frac y) (Flt.pw 1052), Nat.mul_assoc]
  rw [half_ratio A P _ 4194304 hP (by decide) hAM, if_neg (by rw [hn]; decide), Nat.zero_add] at hr
  obtain ⟨b1, b2⟩ := half_in (Flt.frac y) (frac_lt y)
  obtain ⟨K, hK⟩ : ∃ K, Flt.half (4503599627370496 + Flt.frac y) 4194304 = K := ⟨_, rfl⟩
  rw [hK] at hr b1 b2 ⊢
  have hw := whl_mk (K : Int) (by omega) (by omega)
  rw [if_neg (by omega), Nat.zero_add, Int.natAbs_natCast] at hw
  rw [hr, ← hw, wv_whole (K : Int) (by omega) (by omega)]
  unfold Flt.clamp
  (repeat' split) <;> omega
theorem mul_flip (x : Nat) (hx : x < 18446744073709551616) (h0 : Flt.expo x ≠ 0) (h7 : Flt.expo x ≠ 2047) (c : Nat) (e : Int) (hc : double.read c = .number false 4503599627370496 e) : double.mul x c = double.mul c x := by
  unfold Format.mul
  rw [hc, Flt.read_usual x hx h0 h7]
  simp only [Datum.product, Option.map_some, Format.write, Bool.false_bne, Bool.bne_false]
  rw [Nat.mul_comm (4503599627370496 + Flt.frac x), Int.add_comm ((Flt.expo x : Int) - 1075)]
/-- A number in range as a whole one and a shift. -/
def Qua.fx (a : Nat) : Int × Int := if Flt.half (4503599627370496 + Flt.frac a) 4194304 = 2147483648 then (1073741824, 1052 - (Flt.expo a : Int)) else ((Flt.half (4503599627370496 + Flt.frac a) 4194304 : Nat), 1053 - (Flt.expo a : Int))
theorem in_cases (a : Nat) (h1 : 4472074429978902528 ≤ a) (h2 : a ≤ 4742290407621132288) : ∃ c1 c2, FloatKind.f64.format.order a 4472074429978902528 = some c1 ∧ FloatKind.f64.format.order a 4742290407621132288 = some c2 ∧ ((c1 = .eq ∧ c2 = .lt) ∨ (c1 = .gt ∧ c2 = .lt) ∨ (c1 = .gt ∧ c2 = .eq)) := by
  have hnn : Flt.nanb a = false := fin_nan a (by unfold Flt.expo; omega)
  rcases Nat.lt_or_ge 4472074429978902528 a with h | h
  · have q1 := (order_pos 4472074429978902528 a (by decide) (by omega) h).2
    rcases Nat.lt_or_ge a 4742290407621132288 with h' | h'
    · exact ⟨_, _, q1, (order_pos a 4742290407621132288 (by omega) (by decide) h').1, .inr (.inl ⟨rfl, rfl⟩)⟩
    · obtain rfl : a = 4742290407621132288 := by omega
      exact ⟨_, _, q1, order_num' hnn, .inr (.inr ⟨rfl, rfl⟩)⟩
  · obtain rfl : a = 4472074429978902528 := by omega
    exact ⟨_, _, order_num' hnn, (order_pos 4472074429978902528 4742290407621132288 (by decide) (by decide) (by decide)).1, .inl ⟨rfl, rfl⟩⟩
set_option maxRecDepth 100000 in
set_option maxHeartbeats 4000000 in
theorem qfixed_in (a : Nat) (h1 : 4472074429978902528 ≤ a) (h2 : a ≤ 4742290407621132288) (w : World) :
    Calls Tryd.prog 32 #[.float .f64 a] w fun e w' => e = .returned (.tuple #[.int .i64 (Qua.fx a).1, .int .i64 (Qua.fx a).2, .nilIface]) ∧ w' = w := by
  have hfl := frac_lt a
  have hn : Flt.neg a = false := by unfold Flt.neg; rw [decide_eq_false_iff_not]; omega
  have hx : 993 ≤ Flt.expo a ∧ Flt.expo a ≤ 1053 := by unfold Flt.expo; omega
  have HF := hide (frexp_c a (by omega) (by omega) (by omega))
  rw [if_neg (by rw [hn]; decide), Nat.zero_add] at HF
  have e0 : Flt.expo (4602678819172646912 + Flt.frac a) = 1022 := by unfold Flt.expo; omega
  have e1 : Flt.frac (4602678819172646912 + Flt.frac a) = Flt.frac a := by unfold Flt.frac at hfl ⊢; omega
  have hmu := mul_pow (4602678819172646912 + Flt.frac a) (by omega) (by omega) (by omega) 4746794007248502784 31 (by decide +kernel) (by omega)
  rw [← mul_flip (4602678819172646912 + Flt.frac a) (by omega) (by omega) (by omega) 4746794007248502784 _ (by decide +kernel : double.read 4746794007248502784 = .number false 4503599627370496 (-21))] at hmu
  obtain ⟨y, hy⟩ : ∃ y, Hid (4602678819172646912 + Flt.frac a + 31 * 4503599627370496 = y) := ⟨_, hide rfl⟩
  have hye : Flt.expo y = 1053 := by rw [← hy.out]; unfold Flt.expo; omega
  have hyf : Flt.frac y = Flt.frac a := by rw [← hy.out]; unfold Flt.frac at hfl ⊢; omega
  have hyl : y < 9223372036854775808 := by rw [← hy.out]; omega
  have HW := hide (wholeof_c y (by omega) 0 2147483648)
  rw [scaled y hyl hye, hyf] at HW
  rw [hy.out] at hmu
  have hb := half_in (Flt.frac a) hfl
  have hmul : ∀ w : World, (binOp .mul 27 (.float .f64 (4602678819172646912 + Flt.frac a)) (.float .f64 4746794007248502784)).run Tryd.prog w = .ok (.float .f64 y) w := fun w => run_float_arith (P := Tryd.prog) w .mul 27 .f64 _ _ _ hmu
  have hnn : Flt.nanb a = false := fin_nan a (by omega)
  have ho := in_cases a h1 h2
  obtain ⟨c1, c2, o1, o2, hcs⟩ := ho
  unfold Qua.fx
  obtain ⟨K, hK⟩ : ∃ K, Hid (Flt.half (4503599627370496 + Flt.frac a) 4194304 = K) := ⟨_, hide rfl⟩
  obtain ⟨x0, hx0⟩ : ∃ x0, Hid (4602678819172646912 + Flt.frac a = x0) := ⟨_, hide rfl⟩
  obtain ⟨ex, hex⟩ : ∃ y, Hid (Flt.expo a = y) := ⟨_, hide rfl⟩
  rw [hK.out] at HW hb ⊢
  rw [hx0.out] at HF hmul
  rw [hex.out] at HF hx ⊢
  have s1 : IntKind.i64.wrap (31 - ((ex : Int) - 1022)) = 1053 - (ex : Int) := by rw [iwrap_small _ (by omega) (by omega)]; omega
  have s2 : IntKind.i64.wrap (1053 - (ex : Int) - 1) = 1052 - (ex : Int) := by rw [iwrap_small _ (by omega) (by omega)]; omega
  clear hfl hn e0 e1 hmu hy hye hyf hyl hnn hK hx0 hex h1 h2
  by_cases hKt : K = 2147483648
  case' pos =>
    rw [if_pos hKt]
    subst hKt
  case' neg =>
    rw [if_neg hKt]
    have hK1 : ¬ (2147483647 : Int) < (K : Int) := by omega
  all_goals
    rcases hcs with ⟨rfl, rfl⟩ | ⟨rfl, rfl⟩ | ⟨rfl, rfl⟩
    all_goals
      go_enter Tryd.func32, Tryd.ntmps32
      go_wp2_with fail
      refine (HF.out _).mono ?_
      rintro e w1 ⟨rfl, rfl⟩
      go_wp2_with fail
      refine (HW.out _).mono ?_
      rintro e w1 ⟨rfl, rfl⟩
      go_wp2_with fail
      refine bodyPost_ret (results_three rfl _ _) rfl ?_
      exact ⟨rfl, rfl⟩
end Go.Proofs.YtboighnmgnjhdaaDoor
