/-
  math.Ldexp of a usual number that stays one, walked. By an AI agent. No person has read it.
-/
import Derived.Test.YteeiehaebiigfaaDoorFltW
import Derived.Test.YteeiehaebiigfaaDoorFltM
import Derived.Test.YteeiehaebiigfaaDoorFltO
namespace Go.Proofs.YteeiehaebiigfaaDoor
open Go.RowKit
open Ieee

theorem mag_lt (a b : Nat) (h : a % 9223372036854775808 < b % 9223372036854775808) : Flt.mag a < Flt.mag b := by
  unfold Flt.mag
  obtain ⟨p, hp⟩ : ∃ p, a % 9223372036854775808 = p := ⟨_, rfl⟩
  obtain ⟨q, hq⟩ : ∃ q, b % 9223372036854775808 = q := ⟨_, rfl⟩
  rw [show a % 4503599627370496 = p % 4503599627370496 by omega, show b % 4503599627370496 = q % 4503599627370496 by omega, hp, hq]
  rw [hp, hq] at h
  have hpd := Nat.div_add_mod p 4503599627370496
  have hqd := Nat.div_add_mod q 4503599627370496
  have hpm : p % 4503599627370496 < 4503599627370496 := Nat.mod_lt _ (by decide)
  have hqm : q % 4503599627370496 < 4503599627370496 := Nat.mod_lt _ (by decide)
  generalize p % 4503599627370496 = x at *
  generalize q % 4503599627370496 = y at *
  generalize hi : p / 4503599627370496 = i at *
  generalize hj : q / 4503599627370496 = j at *
  by_cases h2 : q < 4503599627370496
  · rw [if_pos h2, if_pos (by omega)]
    exact h
  rw [if_neg h2]
  have hP := Nat.two_pow_pos (j - 1)
  by_cases h1 : p < 4503599627370496
  · rw [if_pos h1]
    have := Nat.le_mul_of_pos_right (4503599627370496 + y) hP
    omega
  · rw [if_neg h1]
    by_cases hij : i = j
    · subst hij
      exact Nat.mul_lt_mul_of_pos_right (by omega) hP
    · obtain ⟨d, hd⟩ : ∃ d, j - 1 = (i - 1) + (d + 1) := ⟨j - i - 1, by omega⟩
      rw [hd, Nat.pow_add, Nat.pow_succ]
      have hQ := Nat.two_pow_pos (i - 1)
      have hD := Nat.two_pow_pos d
      calc (4503599627370496 + x) * 2 ^ (i - 1) < (4503599627370496 * 2) * 2 ^ (i - 1) := Nat.mul_lt_mul_of_pos_right (by omega) hQ
        _ ≤ (4503599627370496 + y) * (2 ^ d * 2) * 2 ^ (i - 1) := Nat.mul_le_mul_right _ (Nat.mul_le_mul (by omega) (by omega))
        _ = (4503599627370496 + y) * (2 ^ (i - 1) * (2 ^ d * 2)) := by ac_rfl
theorem order_pos (a b : Nat) (ha : a < 9218868437227405312) (hb : b < 9218868437227405312) (h : a < b) : FloatKind.f64.format.order a b = some .lt ∧ FloatKind.f64.format.order b a = some .gt := by
  have m1 := mag_lt a b (by omega)
  have k1 : Flt.key a = (Flt.mag a : Int) := by unfold Flt.key; rw [if_neg (by omega)]
  have k2 : Flt.key b = (Flt.mag b : Int) := by unfold Flt.key; rw [if_neg (by omega)]
  have o1 := Flt.order_key a b (by omega) (by omega) (by omega) (by omega)
  have o2 := Flt.order_key b a (by omega) (by omega) (by omega) (by omega)
  rw [k1, k2] at o1 o2
  exact ⟨o1.trans (congrArg _ (Flt.cmp_lt (by omega))), o2.trans (congrArg _ (Flt.cmp_gt (by omega)))⟩
theorem order_zero (x : Nat) (hx : x < 18446744073709551616) (h0 : Flt.expo x ≠ 0) (h7 : Flt.expo x ≠ 2047) : FloatKind.f64.format.order x 0 = some (if Flt.neg x = true then .lt else .gt) := by
  have hfin : x % 9223372036854775808 < 9218868437227405312 := by unfold Flt.expo at h7; omega
  have o := Flt.order_key x 0 hx (by decide) hfin (by decide)
  have hm := mag_lt 0 x (by unfold Flt.expo at h0; omega)
  have hm0 : Flt.mag 0 = 0 := rfl
  have k0 : Flt.key 0 = 0 := by unfold Flt.key; rw [if_neg (by decide), hm0]; rfl
  rw [k0] at o
  refine o.trans (congrArg _ ?_)
  unfold Flt.key Flt.neg
  by_cases h : 9223372036854775808 ≤ x
  · rw [if_pos h, if_pos (decide_eq_true h)]
    exact Flt.cmp_lt (by omega)
  · rw [if_neg h, if_neg (by simpa using h)]
    exact Flt.cmp_gt (by omega)
theorem andNot_top' (a : Nat) (ha : a < 18446744073709551616) : bits .andNot .u64 (a : Int) 9223372036854775808 = ((a % 9223372036854775808 : Nat) : Int) := by
  have h := u64_andNot_nat a 9223372036854775808 ha (by decide)
  rw [show (18446744073709551615 - 9223372036854775808 : Nat) = 2 ^ 63 - 1 by decide, Nat.and_two_pow_sub_one_eq_mod] at h
  exact h
theorem and_top (x : Nat) (hx : x < 18446744073709551616) : x &&& 2 ^ 63 = if Flt.neg x = true then 9223372036854775808 else 0 := by
  have ht : x.testBit 63 = Flt.neg x := by
    unfold Flt.neg
    rw [Nat.testBit_eq_decide_div_mod_eq]
    congr 1
    apply propext
    omega
  apply Nat.eq_of_testBit_eq
  intro i
  rw [Nat.testBit_and, Nat.testBit_two_pow]
  by_cases hi : 63 = i
  · subst hi
    rw [ht]
    cases Flt.neg x
    · simp
    · rw [if_pos rfl]
      decide
  · rw [decide_eq_false hi, Bool.and_false]
    split
    · rw [show (9223372036854775808 : Nat) = 2 ^ 63 by decide, Nat.testBit_two_pow, decide_eq_false hi]
    · rw [Nat.zero_testBit]
theorem andNot_expo (x : Nat) (hx : x < 18446744073709551616) : bits .andNot .u64 (x : Int) 9218868437227405312 = (((if Flt.neg x = true then 9223372036854775808 else 0) + Flt.frac x : Nat) : Int) := by
  have h := u64_andNot_nat x 9218868437227405312 hx (by decide)
  rw [show (18446744073709551615 - 9218868437227405312 : Nat) = 2 ^ 63 ||| (2 ^ 52 - 1) by decide, Nat.and_or_distrib_left, Nat.and_two_pow_sub_one_eq_mod, and_top x hx] at h
  refine h.trans (congrArg _ ?_)
  have hf : Flt.frac x = x % 2 ^ 52 := rfl
  rw [← hf]
  have hfl := frac_lt x
  cases Flt.neg x
  · simp
  · have h1 := Nat.two_pow_add_eq_or_of_lt (b := Flt.frac x) (i := 63) (by omega) 1
    have e : (9223372036854775808 : Nat) = 2 ^ 63 * 1 := by decide
    rw [if_pos rfl, e, ← h1]
theorem or_expo (g f k : Nat) (hg : g = 0 ∨ g = 9223372036854775808) (hf : f < 4503599627370496) (hk : k < 2048) : bits .or .u64 ((g + f : Nat) : Int) ((k * 4503599627370496 : Nat) : Int) = ((g + (k * 4503599627370496 + f) : Nat) : Int) := by
  rw [u64_or_nat _ _ (by omega) (by omega)]
  refine congrArg _ ?_
  have h1 := Nat.two_pow_add_eq_or_of_lt (b := f) (i := 52) hf k
  have e1 : k * 4503599627370496 = 2 ^ 52 * k := by rw [Nat.mul_comm]
  rcases hg with rfl | rfl
  · rw [Nat.zero_add, Nat.zero_add, e1, h1, Nat.or_comm]
  · have h2 := Nat.two_pow_add_eq_or_of_lt (b := f) (i := 63) (by omega) 1
    have h3 := Nat.two_pow_add_eq_or_of_lt (b := 2 ^ 52 * k + f) (i := 63) (by omega) 1
    have e2 : (9223372036854775808 : Nat) = 2 ^ 63 * 1 := by decide
    rw [e1, e2, h2, h3, h1, Nat.or_assoc, Nat.or_comm f]
theorem and_i64 (n : Nat) (hn : n < 4096) : bits .and .i64 (n : Int) 2047 = ((n % 2048 : Nat) : Int) := by
  have e1 : bits .and .i64 (n : Int) 2047 = IntKind.i64.wrap (((BitVec.ofInt 64 (n : Int)) &&& (BitVec.ofInt 64 2047)).toNat : Int) := rfl
  have e2 : (BitVec.ofInt 64 2047).toNat = 2 ^ 11 - 1 := by decide
  rw [e1, BitVec.toNat_and, e2, BitVec.toNat_ofInt, show ((n : Int) % ((2 ^ 64 : Nat) : Int)).toNat = n by omega, Nat.and_two_pow_sub_one_eq_mod, IntKind.wrap_i64]
  omega

set_option maxRecDepth 100000 in
theorem abs_c (x : Nat) (hx : x < 18446744073709551616) (w : World) :
    Calls Tryd.prog 67 #[.float .f64 x] w fun e w' => e = .returned (.float .f64 (x % 9223372036854775808)) ∧ w' = w := by
  have hfb := run_f64bits
  have hff := run_f64from
  have h1 := andNot_top' x hx
  obtain ⟨y, hy⟩ : ∃ y, Hid (x % 9223372036854775808 = y) := ⟨_, hide rfl⟩
  rw [hy.out] at h1 ⊢
  go_enter Tryd.func67, Tryd.ntmps67
  go_wp2_with fail
  go_ret
  exact ⟨rfl, rfl⟩
set_option maxRecDepth 100000 in
theorem isinf0_c (x : Nat) (hx : x < 18446744073709551616) (h7 : Flt.expo x < 2046) (w : World) :
    Calls Tryd.prog 46 #[.float .f64 x, .int .i64 0] w fun e w' => e = .returned (.bool false) ∧ w' = w := by
  have H1 := hide (abs_c x hx w)
  have ho := (order_pos (x % 9223372036854775808) 9218868437227405311 (by unfold Flt.expo at h7; omega) (by decide) (by unfold Flt.expo at h7; omega)).1
  obtain ⟨y, hy⟩ : ∃ y, Hid (x % 9223372036854775808 = y) := ⟨_, hide rfl⟩
  rw [hy.out] at H1 ho
  go_enter Tryd.func46, Tryd.ntmps46
  go_wp2_with fail
  refine H1.out.mono ?_
  rintro e w1 ⟨rfl, rfl⟩
  go_wp2_with fail
  go_ret
  exact ⟨rfl, rfl⟩
set_option maxRecDepth 100000 in
theorem isnan_c (x : Nat) (hn : Flt.nanb x = false) (w : World) :
    Calls Tryd.prog 75 #[.float .f64 x] w fun e w' => e = .returned (.bool false) ∧ w' = w := by
  have ho := order_num' hn
  go_enter Tryd.func75, Tryd.ntmps75
  go_wp2_with fail
  go_ret
  exact ⟨rfl, rfl⟩
set_option maxRecDepth 100000 in
theorem normalize_c (x : Nat) (hx : x < 18446744073709551616) (h0 : 2 ≤ Flt.expo x) (h7 : Flt.expo x < 2046) (w : World) :
    Calls Tryd.prog 76 #[.float .f64 x] w fun e w' => e = .returned (.tuple #[.float .f64 x, .int .i64 0]) ∧ w' = w := by
  have H1 := hide (abs_c x hx w)
  have ho := (order_pos 4503599627370496 (x % 9223372036854775808) (by decide) (by unfold Flt.expo at h7; omega) (by unfold Flt.expo at h0; omega)).2
  obtain ⟨y, hy⟩ : ∃ y, Hid (x % 9223372036854775808 = y) := ⟨_, hide rfl⟩
  rw [hy.out] at H1 ho
  go_enter Tryd.func76, Tryd.ntmps76
  go_wp2_with fail
  refine H1.out.mono ?_
  rintro e w1 ⟨rfl, rfl⟩
  go_wp2_with fail
  go_ret2
  exact ⟨rfl, rfl⟩
set_option maxRecDepth 100000 in
set_option maxHeartbeats 4000000 in
theorem ldexp_c (x : Nat) (e : Int) (hx : x < 18446744073709551616) (h0 : 2 ≤ Flt.expo x) (h7 : Flt.expo x < 2046) (t : Nat) (ht : (Flt.expo x : Int) + e = (t : Int)) (ht0 : 1 ≤ t) (ht7 : t < 2047) (he : -2000 ≤ e) (he2 : e ≤ 2000) (w : World) :
    Calls Tryd.prog 47 #[.float .f64 x, .int .i64 e] w fun e' w' => e' = .returned (.float .f64 ((if Flt.neg x = true then 9223372036854775808 else 0) + (t * 4503599627370496 + Flt.frac x))) ∧ w' = w := by
  have hnn : Flt.nanb x = false := by
    unfold Flt.nanb
    unfold Flt.expo at h7
    rw [decide_eq_false_iff_not]
    omega
  have hfl := frac_lt x
  have hfb := run_f64bits
  have hff := run_f64from
  have o0 := order_zero x hx (by omega) (by omega)
  have a1 := andNot_expo x hx
  have hdv : (x : Int) / 4503599627370496 = ((x / 4503599627370496 : Nat) : Int) := by omega
  have hd4 : x / 4503599627370496 < 4096 := by omega
  have a3 := and_i64 (x / 4503599627370496) hd4
  have a4 : x / 4503599627370496 % 2048 = Flt.expo x := rfl
  rw [a4] at a3
  obtain ⟨g, hg⟩ : ∃ g : Nat, (if Flt.neg x = true then 9223372036854775808 else 0) = g := ⟨_, rfl⟩
  have hgg : g = 0 ∨ g = 9223372036854775808 := by
    rw [← hg]
    split
    · exact .inr rfl
    · exact .inl rfl
  rw [hg] at a1 ⊢
  have a2 := or_expo g (Flt.frac x) t hgg hfl (by omega)
  have hrl : g + (t * 4503599627370496 + Flt.frac x) < 18446744073709551616 := by omega
  have hre : Flt.expo (g + (t * 4503599627370496 + Flt.frac x)) = t := by unfold Flt.expo; omega
  have hmu := mul_pow (g + (t * 4503599627370496 + Flt.frac x)) hrl (by omega) (by omega) 4607182418800017408 0 (by decide +kernel) (by omega)
  rw [Nat.zero_mul, Nat.add_zero] at hmu
  have hmul : ∀ w : World, (binOp .mul 22 (.float .f64 4607182418800017408) (.float .f64 (g + (t * 4503599627370496 + Flt.frac x)))).run Tryd.prog w = .ok (.float .f64 (g + (t * 4503599627370496 + Flt.frac x))) w := fun w => run_float_arith (P := Tryd.prog) w .mul 22 .f64 _ _ _ hmu
  have H1 := hide (isinf0_c x hx h7 w)
  have H2 := hide (isnan_c x hnn w)
  have H3 := hide (normalize_c x hx h0 h7 w)
  obtain ⟨R, hR⟩ : ∃ R, Hid (g + (t * 4503599627370496 + Flt.frac x) = R) := ⟨_, hide rfl⟩
  rw [hR.out] at a2 hmul ⊢
  obtain ⟨gf, hgf⟩ : ∃ y, Hid (g + Flt.frac x = y) := ⟨_, hide rfl⟩
  rw [hgf.out] at a1 a2
  obtain ⟨ex, hex⟩ : ∃ y, Hid (Flt.expo x = y) := ⟨_, hide rfl⟩
  rw [hex.out] at a3 ht h0 h7
  obtain ⟨dv, hdvv⟩ : ∃ y, Hid (x / 4503599627370496 = y) := ⟨_, hide rfl⟩
  rw [hdvv.out] at hdv hd4 a3
  have a2' : bits .or .u64 (gf : Int) ((t : Int) * 4503599627370496) = (R : Int) := a2
  obtain ⟨oo, hoo, hoe⟩ : ∃ oo : Ordering, FloatKind.f64.format.order x 0 = some oo ∧ oo ≠ .eq := by
    refine ⟨_, o0, ?_⟩
    split <;> decide
  have hs1 : (ex : Int) - 1023 + e = (t : Int) - 1023 := by omega
  have hs2 : e + ((ex : Int) - 1023) = (t : Int) - 1023 := by omega
  have hs3 : (t : Int) - 1023 + 1023 = (t : Int) := by omega
  clear o0 hg hgg hmu hre hrl a2 hR hgf hex hdvv a4 ht
  have hJ : Calls Tryd.prog 69 #[.float .f64 x, .int .i64 e] w fun e' w' => e' = .returned (.float .f64 R) ∧ w' = w := by
    cases oo
    rotate_left
    · exact absurd rfl hoe
    all_goals
      go_enter Tryd.func69, Tryd.ntmps69
      go_wp2_with fail
      refine H1.out.mono ?_
      rintro e w1 ⟨rfl, rfl⟩
      go_wp2_with fail
      refine H2.out.mono ?_
      rintro e w1 ⟨rfl, rfl⟩
      go_wp2_with fail
      refine H3.out.mono ?_
      rintro e w1 ⟨rfl, rfl⟩
      go_wp2_with fail
      go_ret
      exact ⟨rfl, rfl⟩
  have HJ := hide hJ
  clear hJ hoo
  go_enter Tryd.func47, Tryd.ntmps47
  go_wp2_with fail
  refine HJ.out.mono ?_
  rintro e w1 ⟨rfl, rfl⟩
  go_wp2_with fail
  go_ret
  exact ⟨rfl, rfl⟩
end Go.Proofs.YteeiehaebiigfaaDoor
