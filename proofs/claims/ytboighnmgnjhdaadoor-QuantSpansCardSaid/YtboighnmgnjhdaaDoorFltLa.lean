/-
  Floats: order of positive numbers, math.Abs, IsInf, IsNaN, normalize, walked. By an AI agent. No person has read it.
-/
import Derived.Test.YtboighnmgnjhdaaDoorFltX
namespace Go.Proofs.YtboighnmgnjhdaaDoor
open Go.RowKit
open Ieee

theorem mag_lt (a b : Nat) (h : a % 9223372036854775808 < b % 9223372036854775808) : Flt.mag a < Flt.mag b := by
  unfold Flt.mag
  obtain ⟨p, hp⟩ : ∃ p, a % 9223372036854775808 = p := ⟨_, rfl⟩
  obtain ⟨q, hq⟩ : ∃ q, b % 9223372036854775808 = q := ⟨_, rfl⟩
  rw [show a % 4503599627370496 = p % 4503599627370496 by omega, show b % 4503599627370496 = q % 4503599627370496 by omega, hp, hq]
  rw [hp, hq] at h
  have hpd := Nat.div_add_mod p 4503599627370496
  have hqd := Nat.div_add_mod q 4503599627370496
  have hpm : p % 4503599627370496 < 4503599627370496 := Nat.mod_lt _ (by decide)
  have hqm : q % 4503599627370496 < 4503599627370496 := Nat.mod_lt _ (by decide)
  generalize p % 4503599627370496 = x at *
  generalize q % 4503599627370496 = y at *
  generalize hi : p / 4503599627370496 = i at *
  generalize hj : q / 4503599627370496 = j at *
  by_cases h2 : q < 4503599627370496
  · rw [if_pos h2, if_pos (by omega)]
    exact h
  rw [if_neg h2]
  have hP := Nat.two_pow_pos (j - 1)
  by_cases h1 : p < 4503599627370496
  · rw [if_pos h1]
    have := Nat.le_mul_of_pos_right (4503599627370496 + y) hP
    omega
  · rw [if_neg h1]
    by_cases hij : i = j
    · subst hij
      exact Nat.mul_lt_mul_of_pos_right (by omega) hP
    · obtain ⟨d, hd⟩ : ∃ d, j - 1 = (i - 1) + (d + 1) := ⟨j - i - 1, by omega⟩
      rw [hd, Nat.pow_add, Nat.pow_succ]
      have hQ := Nat.two_pow_pos (i - 1)
      have hD := Nat.two_pow_pos d
      calc (4503599627370496 + x) * 2 ^ (i - 1) < (4503599627370496 * 2) * 2 ^ (i - 1) := Nat.mul_lt_mul_of_pos_right (by omega) hQ
        _ ≤ (4503599627370496 + y) * (2 ^ d * 2) * 2 ^ (i - 1) := Nat.mul_le_mul_right _ (Nat.mul_le_mul (by omega) (by omega))
        _ = (4503599627370496 + y) * (2 ^ (i - 1) * (2 ^ d * 2)) := by ac_rfl
theorem order_pos (a b : Nat) (ha : a < 9218868437227405312) (hb : b < 9218868437227405312) (h : a < b) : FloatKind.f64.format.order a b = some .lt ∧ FloatKind.f64.format.order b a = some .gt := by
  have m1 := mag_lt a b (by omega)
  have k1 : Flt.key a = (Flt.mag a : Int) := by unfold Flt.key; rw [if_neg (by omega)]
  have k2 : Flt.key b = (Flt.mag b : Int) := by unfold Flt.key; rw [if_neg (by omega)]
  have o1 := Flt.order_key a b (by omega) (by omega) (by omega) (by omega)
  have o2 := Flt.order_key b a (by omega) (by omega) (by omega) (by omega)
  rw [k1, k2] at o1 o2
  exact ⟨o1.trans (congrArg _ (Flt.cmp_lt (by omega))), o2.trans (congrArg _ (Flt.cmp_gt (by omega)))⟩
theorem order_zero (x : Nat) (hx : x < 18446744073709551616) (h0 : Flt.expo x ≠ 0) (h7 : Flt.expo x ≠ 2047) : FloatKind.f64.format.order x 0 = some (if Flt.neg x = true then .lt else .gt) := by
  have hfin : x % 9223372036854775808 < 9218868437227405312 := by unfold Flt.expo at h7; omega
  have o := Flt.order_key x 0 hx (by decide) hfin (by decide)
  have hm := mag_lt 0 x (by unfold Flt.expo at h0; omega)
  have hm0 : Flt.mag 0 = 0 := rfl
  have k0 : Flt.key 0 = 0 := by unfold Flt.key; rw [if_neg (by decide), hm0]; rfl
  rw [k0] at o
  refine o.trans (congrArg _ ?_)
  unfold Flt.key Flt.neg
  by_cases h : 9223372036854775808 ≤ x
  · rw [if_pos h, if_pos (decide_eq_true h)]
    exact Flt.cmp_lt (by omega)
  · rw [if_neg h, if_neg (by simpa using h)]
    exact Flt.cmp_gt (by omega)
theorem andNot_top' (a : Nat) (ha : a < 18446744073709551616) : bits .andNot .u64 (a : Int) 9223372036854775808 = ((a % 9223372036854775808 : Nat) : Int) := by
  have h := u64_andNot_nat a 9223372036854775808 ha (by decide)
  rw [show (18446744073709551615 - 9223372036854775808 : Nat) = 2 ^ 63 - 1 by decide, Nat.and_two_pow_sub_one_eq_mod] at h
  exact h
theorem and_top (x : Nat) (hx : x < 18446744073709551616) : x &&& 2 ^ 63 = if Flt.neg x = true then 9223372036854775808 else 0 := by
  have ht : x.testBit 63 = Flt.neg x := by
    unfold Flt.neg
    rw [Nat.testBit_eq_decide_div_mod_eq]
    congr 1
    apply propext
    omega
  apply Nat.eq_of_testBit_eq
  intro i
  rw [Nat.testBit_and, Nat.testBit_two_pow]
  by_cases hi : 63 = i
  · subst hi
    rw [ht]
    cases Flt.neg x
    · simp
    · rw [if_pos rfl]
      decide
  · rw [decide_eq_false hi, Bool.and_false]
    split
    · rw [show (9223372036854775808 : Nat) = 2 ^ 63 by decide, Nat.testBit_two_pow, decide_eq_false hi]
    · rw [Nat.zero_testBit]
theorem andNot_expo (x : Nat) (hx : x < 18446744073709551616) : bits .andNot .u64 (x : Int) 9218868437227405312 = (((if Flt.neg x = true then 9223372036854775808 else 0) + Flt.frac x : Nat) : Int) := by
  have h := u64_andNot_nat x 9218868437227405312 hx (by decide)
  rw [show (18446744073709551615 - 9218868437227405312 : Nat) = 2 ^ 63 ||| (2 ^ 52 - 1) by decide, Nat.and_or_distrib_left, Nat.and_two_pow_sub_one_eq_mod, and_top x hx] at h
  refine h.trans (congrArg _ ?_)
  have hf : Flt.frac x = x % 2 ^ 52 := rfl
  rw [← hf]
  have hfl := frac_lt x
  cases Flt.neg x
  · simp
  · have h1 := Nat.two_pow_add_eq_or_of_lt (b := Flt.frac x) (i := 63) (by omega) 1
    have e : (9223372036854775808 : Nat) = 2 ^ 63 * 1 := by decide
    rw [if_pos rfl, e, ← h1]
theorem or_expo (g f k : Nat) (hg : g = 0 ∨ g = 9223372036854775808) (hf : f < 4503599627370496) (hk : k < 2048) : bits .or .u64 ((g + f : Nat) : Int) ((k * 4503599627370496 : Nat) : Int) = ((g + (k * 4503599627370496 + f) : Nat) : Int) := by
  rw [u64_or_nat _ _ (by omega) (by omega)]
  refine congrArg _ ?_
  have h1 := Nat.two_pow_add_eq_or_of_lt (b := f) (i := 52) hf k
  have e1 : k * 4503599627370496 = 2 ^ 52 * k := by rw [Nat.mul_comm]
  rcases hg with rfl | rfl
  · rw [Nat.zero_add, Nat.zero_add, e1, h1, Nat.or_comm]
  · have h2 := Nat.two_pow_add_eq_or_of_lt (b := f) (i := 63) (by omega) 1
    have h3 := Nat.two_pow_add_eq_or_of_lt (b := 2 ^ 52 * k + f) (i := 63) (by omega) 1
    have e2 : (9223372036854775808 : Nat) = 2 ^ 63 * 1 := by decide
    rw [e1, e2, h2, h3, h1, Nat.or_assoc, Nat.or_comm f]
theorem and_i64 (n : Nat) (hn : n < 4096) : bits .and .i64 (n : Int) 2047 = ((n % 2048 : Nat) : Int) := by
  have e1 : bits .and .i64 (n : Int) 2047 = IntKind.i64.wrap (((BitVec.ofInt 64 (n : Int)) &&& (BitVec.ofInt 64 2047)).toNat : Int) := rfl
  have e2 : (BitVec.ofInt 64 2047).toNat = 2 ^ 11 - 1 := by decide
  rw [e1, BitVec.toNat_and, e2, BitVec.toNat_ofInt, show ((n : Int) % ((2 ^ 64 : Nat) : Int)).toNat = n by omega, Nat.and_two_pow_sub_one_eq_mod, IntKind.wrap_i64]
  omega

set_option maxRecDepth 100000 in
theorem abs_c (x : Nat) (hx : x < 18446744073709551616) (w : World) :
    Calls Tryd.prog 47 #[.float .f64 x] w fun e w' => e = .returned (.float .f64 (x % 9223372036854775808)) ∧ w' = w := by
  have hfb := run_f64bits
  have hff := run_f64from
  have h1 := andNot_top' x hx
  obtain ⟨y, hy⟩ : ∃ y, Hid (x % 9223372036854775808 = y) := ⟨_, hide rfl⟩
  rw [hy.out] at h1 ⊢
  go_enter Tryd.func47, Tryd.ntmps47
  go_wp2_with fail
  go_ret
  exact ⟨rfl, rfl⟩
set_option maxRecDepth 100000 in
theorem isinf0_c (x : Nat) (hx : x < 18446744073709551616) (h7 : Flt.expo x < 2046) (w : World) :
    Calls Tryd.prog 97 #[.float .f64 x, .int .i64 0] w fun e w' => e = .returned (.bool false) ∧ w' = w := by
  have H1 := hide (abs_c x hx w)
  have ho := (order_pos (x % 9223372036854775808) 9218868437227405311 (by unfold Flt.expo at h7; omega) (by decide) (by unfold Flt.expo at h7; omega)).1
  obtain ⟨y, hy⟩ : ∃ y, Hid (x % 9223372036854775808 = y) := ⟨_, hide rfl⟩
  rw [hy.out] at H1 ho
  go_enter Tryd.func97, Tryd.ntmps97
  go_wp2_with fail
  refine H1.out.mono ?_
  rintro e w1 ⟨rfl, rfl⟩
  go_wp2_with fail
  go_ret
  exact ⟨rfl, rfl⟩
set_option maxRecDepth 100000 in
theorem isnan_c (x : Nat) (hn : Flt.nanb x = false) (w : World) :
    Calls Tryd.prog 77 #[.float .f64 x] w fun e w' => e = .returned (.bool false) ∧ w' = w := by
  have ho := order_num' hn
  go_enter Tryd.func77, Tryd.ntmps77
  go_wp2_with fail
  go_ret
  exact ⟨rfl, rfl⟩
set_option maxRecDepth 100000 in
theorem normalize_c (x : Nat) (hx : x < 18446744073709551616) (h0 : 2 ≤ Flt.expo x) (h7 : Flt.expo x < 2046) (w : World) :
    Calls Tryd.prog 98 #[.float .f64 x] w fun e w' => e = .returned (.tuple #[.float .f64 x, .int .i64 0]) ∧ w' = w := by
  have H1 := hide (abs_c x hx w)
  have ho := (order_pos 4503599627370496 (x % 9223372036854775808) (by decide) (by unfold Flt.expo at h7; omega) (by unfold Flt.expo at h0; omega)).2
  obtain ⟨y, hy⟩ : ∃ y, Hid (x % 9223372036854775808 = y) := ⟨_, hide rfl⟩
  rw [hy.out] at H1 ho
  go_enter Tryd.func98, Tryd.ntmps98
  go_wp2_with fail
  refine H1.out.mono ?_
  rintro e w1 ⟨rfl, rfl⟩
  go_wp2_with fail
  go_ret2
  exact ⟨rfl, rfl⟩
end Go.Proofs.YtboighnmgnjhdaaDoor
