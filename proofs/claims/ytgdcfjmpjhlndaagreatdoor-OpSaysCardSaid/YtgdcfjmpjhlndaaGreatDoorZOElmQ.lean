/-
  Numbers cut to two ends; quant.Requant and the reference's, walked (qua A and D for a seat without floats). By an AI agent. No person has read it.
-/
import Derived.Test.YtgdcfjmpjhlndaaGreatDoorZOBasA
import Derived.Deep.RegionHeld3
namespace Go.Proofs.YtgdcfjmpjhlndaaGreatDoor
open Go.RowKit
def Flt.clamp (v a b : Int) : Int := if (if v < b then v else b) < a then a else (if v < b then v else b)
def Flt.cutv (n a b : Int) : Int := if n < a then a else if b < n then b else n
theorem Flt.clamp_cut (v a b : Int) : Flt.clamp v a b = Flt.cutv v a (if b < a then a else b) := by
 unfold Flt.clamp Flt.cutv
 generalize hm : (if v < b then v else b) = m
 generalize ht : (if b < a then a else b) = t
 have hm' : (v < b ∧ m = v) ∨ (¬ v < b ∧ m = b) := by
  by_cases h : v < b
  ·rw [if_pos h] at hm; exact .inl ⟨h, hm.symm⟩
  ·rw [if_neg h] at hm; exact .inr ⟨h, hm.symm⟩
 have ht' : (b < a ∧ t = a) ∨ (¬ b < a ∧ t = b) := by
  by_cases h : b < a
  ·rw [if_pos h] at ht; exact .inl ⟨h, ht.symm⟩
  ·rw [if_neg h] at ht; exact .inr ⟨h, ht.symm⟩
 clear hm ht
 by_cases h1 : m < a
 ·rw [if_pos h1]
  by_cases h2 : v < a
  ·rw [if_pos h2]
  ·rw [if_neg h2]
   by_cases h3 : t < v
   ·rw [if_pos h3]; omega
   ·rw [if_neg h3]; omega
 ·rw [if_neg h1]
  by_cases h2 : v < a
  ·rw [if_pos h2]; omega
  ·rw [if_neg h2]
   by_cases h3 : t < v
   ·rw [if_pos h3]; omega
   ·rw [if_neg h3]; omega
set_option maxRecDepth 100000 in
theorem refcut_c (n a b : Int) (w : World) :
  Calls Tryz.prog 77 #[.int .i64 n, .int .i64 a, .int .i64 b] w fun e w' => e = .returned (.int .i64 (Flt.cutv n a b)) ∧ w' = w := by
 unfold Flt.cutv
 by_cases h1 : n < a
 ·rw [if_pos h1]
  go_enter Tryz.func77, Tryz.ntmps77
  go_wp2_with fail
  go_ret
  exact ⟨rfl, rfl⟩
 rw [if_neg h1]
 by_cases h2 : b < n
 ·rw [if_pos h2]
  go_enter Tryz.func77, Tryz.ntmps77
  go_wp2_with fail
  go_ret
  exact ⟨rfl, rfl⟩
 ·rw [if_neg h2]
  go_enter Tryz.func77, Tryz.ntmps77
  go_wp2_with fail
  go_ret
  exact ⟨rfl, rfl⟩
set_option maxRecDepth 100000 in
theorem qcut_c (n a b : Int) (w : World) :
  Calls Tryz.prog 134 #[.int .i64 n, .int .i64 a, .int .i64 b] w fun e w' => e = .returned (.int .i64 (Flt.clamp n a b)) ∧ w' = w := by
 unfold Flt.clamp
 rcases Int.lt_trichotomy n b with h1 | rfl | h1
 ·rw [if_pos h1]
  rcases Int.lt_trichotomy n a with h2 | rfl | h2
  ·rw [if_pos h2]
   go_enter Tryz.func134, Tryz.ntmps134
   go_wp2_with fail
   go_ret
   exact ⟨rfl, rfl⟩
  ·rw [if_neg (Int.lt_irrefl _)]
   go_enter Tryz.func134, Tryz.ntmps134
   go_wp2_with fail
   go_ret
   exact ⟨rfl, rfl⟩
  ·rw [if_neg (by omega)]
   go_enter Tryz.func134, Tryz.ntmps134
   go_wp2_with fail
   go_ret
   exact ⟨rfl, rfl⟩
 ·rw [if_neg (Int.lt_irrefl _)]
  rcases Int.lt_trichotomy n a with h2 | rfl | h2
  ·rw [if_pos h2]
   go_enter Tryz.func134, Tryz.ntmps134
   go_wp2_with fail
   go_ret
   exact ⟨rfl, rfl⟩
  ·rw [if_neg (Int.lt_irrefl _)]
   go_enter Tryz.func134, Tryz.ntmps134
   go_wp2_with fail
   go_ret
   exact ⟨rfl, rfl⟩
  ·rw [if_neg (by omega)]
   go_enter Tryz.func134, Tryz.ntmps134
   go_wp2_with fail
   go_ret
   exact ⟨rfl, rfl⟩
 ·rw [if_neg (show ¬ n < b by omega)]
  rcases Int.lt_trichotomy b a with h2 | rfl | h2
  ·rw [if_pos h2]
   go_enter Tryz.func134, Tryz.ntmps134
   go_wp2_with fail
   go_ret
   exact ⟨rfl, rfl⟩
  ·rw [if_neg (Int.lt_irrefl _)]
   go_enter Tryz.func134, Tryz.ntmps134
   go_wp2_with fail
   go_ret
   exact ⟨rfl, rfl⟩
  ·rw [if_neg (by omega)]
   go_enter Tryz.func134, Tryz.ntmps134
   go_wp2_with fail
   go_ret
   exact ⟨rfl, rfl⟩
set_option maxRecDepth 100000 in
theorem qnarrow_c (n : Int) (w : World) : Calls Tryz.prog 135 #[.int .i64 n] w fun e w' => e = .returned (.int .i64 (Flt.clamp n (-128) 127)) ∧ w' = w := by
 have H := hide (qcut_c n (-128) 127 w)
 obtain ⟨r, hr⟩ : ∃ r, Hid (Flt.clamp n (-128) 127 = r) := ⟨_, hide rfl⟩
 rw [hr.out] at H ⊢
 go_enter Tryz.func135, Tryz.ntmps135
 go_wp2_with fail
 refine H.out.mono ?_
 rintro e w1 ⟨rfl, rfl⟩
 go_wp2_with fail
 go_ret
 exact ⟨rfl, rfl⟩
theorem clamp_in (n a b : Int) (h : a ≤ b) : a ≤ Flt.clamp n a b ∧ Flt.clamp n a b ≤ b := by
 unfold Flt.clamp
 split <;> split <;> omega
theorem pow_cast (k : Nat) : (2 : Int) ^ k = ((2 ^ k : Nat) : Int) := by simp
theorem div_in (a n B : Int) (hn : 1 ≤ n) (h1 : -B ≤ a) (h2 : a ≤ B) (hB : 0 ≤ B) : -B ≤ a / n ∧ a / n ≤ B := by
 have e1 := Int.ediv_mul_le a (show n ≠ 0 by omega)
 have e2 := Int.lt_ediv_add_one_mul_self a (show 0 < n by omega)
 constructor
 ·rcases Int.lt_or_le (a / n) 0 with h | h
  ·have := Int.mul_le_mul_of_nonneg_left hn (show 0 ≤ -(a / n + 1) by omega)
   rw [Int.neg_mul, Int.neg_mul] at this
   omega
  ·omega
 ·rcases Int.lt_or_le (a / n) 0 with h | h
  ·omega
  ·have := Int.mul_le_mul_of_nonneg_left hn h
   omega
theorem wrap_small (a : Int) (h1 : -9223372036854775808 ≤ a) (h2 : a ≤ 9223372036854775807) : wrap64 a = a := by unfold wrap64; omega
theorem iwrap_small (a : Int) (h1 : -9223372036854775808 ≤ a) (h2 : a ≤ 9223372036854775807) : IntKind.i64.wrap a = a := by rw [IntKind.wrap_i64]; omega
theorem pow_in (k : Nat) (hk : k ≤ 61) : (0 : Int) ≤ 2 ^ k ∧ (2 : Int) ^ k ≤ 2305843009213693952 := by
 have h1 : 2 ^ k ≤ 2 ^ 61 := Nat.pow_le_pow_right (by decide) hk
 have h2 : (2 : Nat) ^ 61 = 2305843009213693952 := by decide
 rw [h2] at h1
 rw [pow_cast]
 exact ⟨Int.natCast_nonneg _, Int.ofNat_le.2 h1⟩
theorem pow_one (k : Nat) : (1 : Int) ≤ 2 ^ k := by
 rw [pow_cast]
 exact Int.ofNat_le.2 (Nat.pow_pos (n := k) (show 0 < 2 by decide))
theorem req_down (p z : Int) (k : Nat) (hk : k ≤ 61) (h0 : -4611686016279904256 ≤ p) (h1 : p ≤ 4611686014132420609) (hz : -128 ≤ z ∧ z ≤ 127) :
  wrap64 ((2 : Int) ^ k) = 2 ^ k ∧ wrap64 (p + 2 ^ k) = p + 2 ^ k ∧ wrap64 ((p + 2 ^ k) / 2 ^ (k + 1) + z) = (p + 2 ^ k) / 2 ^ (k + 1) + z ∧ IntKind.i64.wrap ((p + 2 ^ k) / 2 ^ (k + 1) + z) = (p + 2 ^ k) / 2 ^ (k + 1) + z := by
 have hT := pow_in k hk
 have hN := pow_one (k + 1)
 generalize (2 : Int) ^ k = T at hT ⊢
 generalize (2 : Int) ^ (k + 1) = N at hN ⊢
 have hd := div_in (p + T) N 9000000000000000000 hN (by omega) (by omega) (by decide)
 generalize (p + T) / N = d at hd ⊢
 exact ⟨wrap_small _ (by omega) (by omega), wrap_small _ (by omega) (by omega), wrap_small _ (by omega) (by omega), iwrap_small _ (by omega) (by omega)⟩
def Qua.down (p : Int) (s : Nat) : Int := (if 0 < s then p + 2 ^ (s - 1) else p) / 2 ^ s
def Qua.req (x m s z : Int) : Int := Flt.clamp (Qua.down (Flt.clamp x (-2147483648) 2147483647 * Flt.clamp m 0 2147483647) (Flt.clamp s 0 62).toNat + Flt.clamp z (-128) 127) (-128) 127
set_option maxRecDepth 100000 in
set_option maxHeartbeats 4000000 in
theorem requant_c (x m s z : Int) (w : World) : Calls Tryz.prog 133 #[.int .i64 x, .int .i64 m, .int .i64 s, .int .i64 z] w fun e w' => e = .returned (.int .i64 (Qua.req x m s z)) ∧ w' = w.drew := by
 have H1 := hide (qcut_c s 0 62)
 have H2 := hide (qcut_c x (-2147483648) 2147483647)
 have H3 := hide (qcut_c m 0 2147483647)
 have H4 := hide (qnarrow_c z)
 unfold Qua.req
 have b1 := clamp_in s 0 62 (by decide)
 have b2 := clamp_in x (-2147483648) 2147483647 (by decide)
 have b3 := clamp_in m 0 2147483647 (by decide)
 have b4 := clamp_in z (-128) 127 (by decide)
 obtain ⟨s1, hs1⟩ : ∃ s1 : Nat, Hid (Flt.clamp s 0 62 = (s1 : Int)) := ⟨(Flt.clamp s 0 62).toNat, hide (by omega)⟩
 obtain ⟨x1, hx1⟩ : ∃ r, Hid (Flt.clamp x (-2147483648) 2147483647 = r) := ⟨_, hide rfl⟩
 obtain ⟨m1, hm1⟩ : ∃ r, Hid (Flt.clamp m 0 2147483647 = r) := ⟨_, hide rfl⟩
 obtain ⟨z1, hz1⟩ : ∃ r, Hid (Flt.clamp z (-128) 127 = r) := ⟨_, hide rfl⟩
 rw [hs1.out] at H1 b1 ⊢
 rw [hx1.out] at H2 b2 ⊢
 rw [hm1.out] at H3 b3 ⊢
 rw [hz1.out] at H4 b4 ⊢
 rw [Int.toNat_natCast]
 clear hs1 hx1 hm1 hz1
 have hp1 : x1 * m1 ≤ 4611686014132420609 := by
  rw [show (4611686014132420609 : Int) = 2147483647 * 2147483647 by decide]
  rcases Int.lt_or_le x1 0 with h | h
  ·have := Int.mul_nonneg (show 0 ≤ -x1 by omega) b3.1
   rw [Int.neg_mul] at this
   omega
  ·exact Int.mul_le_mul b2.2 b3.2 b3.1 (by decide)
 have hp0 : -4611686016279904256 ≤ x1 * m1 := by
  rw [show (-4611686016279904256 : Int) = -(2147483648 * 2147483647) by decide]
  rcases Int.lt_or_le x1 0 with h | h
  ·have := Int.mul_le_mul (show -x1 ≤ 2147483648 by omega) b3.2 b3.1 (by decide)
   rw [Int.neg_mul] at this
   omega
  ·have := Int.mul_nonneg h b3.1
   omega
 obtain ⟨p, hp⟩ : ∃ p, Hid (x1 * m1 = p) := ⟨_, hide rfl⟩
 rw [hp.out] at hp0 hp1 ⊢
 have hmul : IntKind.i64.wrap (x1 * m1) = p := by rw [hp.out]; exact iwrap_small _ (by omega) (by omega)
 have HC := hide (fun W => qnarrow_c (Qua.down p s1 + z1) W)
 obtain ⟨d, hd⟩ : ∃ d, Hid (Qua.down p s1 = d) := ⟨_, hide rfl⟩
 have hdd := hd.out
 unfold Qua.down at hdd
 rw [hd.out] at HC ⊢
 by_cases h0 : 0 < s1
 ·rw [if_pos h0] at hdd
  obtain ⟨k, rfl⟩ : ∃ k, s1 = k + 1 := ⟨s1 - 1, by omega⟩
  rw [Nat.add_sub_cancel] at hdd
  have hk1 : IntKind.i64.wrap (((k + 1 : Nat) : Int) - 1) = (k : Int) := by rw [IntKind.wrap_i64]; omega
  have hkp : (0 : Int) < ((k + 1 : Nat) : Int) := by omega
  have hQ := req_down p z1 k (by omega) hp0 hp1 b4
  rw [hdd] at hQ
  obtain ⟨hw1, hw2, hadd2, hadd⟩ := hQ
  clear hd hp
  go_enter Tryz.func133, Tryz.ntmps133
  go_wp2_with fail
  refine (H1.out w).mono ?_
  rintro e w1 ⟨rfl, rfl⟩
  go_wp2_with fail
  refine (H2.out _).mono ?_
  rintro e w1 ⟨rfl, rfl⟩
  go_wp2_with fail
  refine (H3.out _).mono ?_
  rintro e w1 ⟨rfl, rfl⟩
  go_wp2_with fail
  go_region_held3 (fun _ => True)
   (first | exact trivial | assumption)
   (first
    | (go_at_call 135; refine (H4.out _).mono ?_; rintro e W2 ⟨rfl, rfl⟩)
    | (go_at_call 135; refine (HC.out _).mono ?_; rintro e W2 ⟨rfl, rfl⟩))
  go_wp2_with fail
  go_ret
  exact ⟨rfl, rfl⟩
 ·rw [if_neg h0] at hdd
  obtain rfl : s1 = 0 := by omega
  have hdp : p = d := by simpa using hdd
  subst hdp
  have hadd : IntKind.i64.wrap (p + z1) = p + z1 := iwrap_small _ (by omega) (by omega)
  have hadd2 : wrap64 (p + z1) = p + z1 := wrap_small _ (by omega) (by omega)
  clear hd hdd
  go_enter Tryz.func133, Tryz.ntmps133
  go_wp2_with fail
  refine (H1.out w).mono ?_
  rintro e w1 ⟨rfl, rfl⟩
  go_wp2_with fail
  refine (H2.out _).mono ?_
  rintro e w1 ⟨rfl, rfl⟩
  go_wp2_with fail
  refine (H3.out _).mono ?_
  rintro e w1 ⟨rfl, rfl⟩
  go_wp2_with fail
  go_region_held3 (fun _ => True)
   (first | exact trivial | assumption)
   (first
    | (go_at_call 135; refine (H4.out _).mono ?_; rintro e W2 ⟨rfl, rfl⟩)
    | (go_at_call 135; refine (HC.out _).mono ?_; rintro e W2 ⟨rfl, rfl⟩))
  go_wp2_with fail
  go_ret
  exact ⟨rfl, rfl⟩
theorem refclamp_c (n a b : Int) (h : a ≤ b) (w : World) :
  Calls Tryz.prog 77 #[.int .i64 n, .int .i64 a, .int .i64 b] w fun e w' => e = .returned (.int .i64 (Flt.clamp n a b)) ∧ w' = w := by
 rw [Flt.clamp_cut, if_neg (by omega)]
 exact refcut_c n a b w
theorem clamp_far (v z : Int) (hz : -128 ≤ z ∧ z ≤ 127) : Flt.clamp (Flt.clamp v (-1099511627776) 1099511627776 + z) (-128) 127 = Flt.clamp (v + z) (-128) 127 := by
 unfold Flt.clamp
 (repeat' split) <;> omega
theorem prod_in (x1 m1 : Int) (b2 : -2147483648 ≤ x1 ∧ x1 ≤ 2147483647) (b3 : 0 ≤ m1 ∧ m1 ≤ 2147483647) : -4611686016279904256 ≤ x1 * m1 ∧ x1 * m1 ≤ 4611686014132420609 := by
 rw [show (4611686014132420609 : Int) = 2147483647 * 2147483647 by decide, show (-4611686016279904256 : Int) = -(2147483648 * 2147483647) by decide]
 constructor
 ·rcases Int.lt_or_le x1 0 with h | h
  ·have := Int.mul_le_mul (show -x1 ≤ 2147483648 by omega) b3.2 b3.1 (by decide)
   rw [Int.neg_mul] at this
   omega
  ·have := Int.mul_nonneg h b3.1
   omega
 ·rcases Int.lt_or_le x1 0 with h | h
  ·have := Int.mul_nonneg (show 0 ≤ -x1 by omega) b3.1
   rw [Int.neg_mul] at this
   omega
  ·exact Int.mul_le_mul b2.2 b3.2 b3.1 (by decide)
set_option maxRecDepth 100000 in
set_option maxHeartbeats 4000000 in
theorem rrequant_c (x m s z : Int) (w : World) : Calls Tryz.prog 89 #[.int .i64 x, .int .i64 m, .int .i64 s, .int .i64 z] w fun e w' => e = .returned (.int .i64 (Qua.req x m s z)) ∧ w' = w := by
 have H1 := hide (refclamp_c s 0 62 (by decide))
 have H2 := hide (refclamp_c x (-2147483648) 2147483647 (by decide))
 have H3 := hide (refclamp_c m 0 2147483647 (by decide))
 have H4 := hide (refclamp_c z (-128) 127 (by decide))
 unfold Qua.req
 have b1 := clamp_in s 0 62 (by decide)
 have b2 := clamp_in x (-2147483648) 2147483647 (by decide)
 have b3 := clamp_in m 0 2147483647 (by decide)
 have b4 := clamp_in z (-128) 127 (by decide)
 obtain ⟨s1, hs1⟩ : ∃ s1 : Nat, Hid (Flt.clamp s 0 62 = (s1 : Int)) := ⟨(Flt.clamp s 0 62).toNat, hide (by omega)⟩
 obtain ⟨x1, hx1⟩ : ∃ r, Hid (Flt.clamp x (-2147483648) 2147483647 = r) := ⟨_, hide rfl⟩
 obtain ⟨m1, hm1⟩ : ∃ r, Hid (Flt.clamp m 0 2147483647 = r) := ⟨_, hide rfl⟩
 obtain ⟨z1, hz1⟩ : ∃ r, Hid (Flt.clamp z (-128) 127 = r) := ⟨_, hide rfl⟩
 rw [hs1.out] at H1 b1 ⊢
 rw [hx1.out] at H2 b2 ⊢
 rw [hm1.out] at H3 b3 ⊢
 rw [hz1.out] at H4 b4 ⊢
 rw [Int.toNat_natCast]
 clear hs1 hx1 hm1 hz1
 obtain ⟨hp0, hp1⟩ := prod_in x1 m1 b2 b3
 obtain ⟨p, hp⟩ : ∃ p, Hid (x1 * m1 = p) := ⟨_, hide rfl⟩
 rw [hp.out] at hp0 hp1 ⊢
 have hmul : IntKind.i64.wrap (x1 * m1) = p := by rw [hp.out]; exact iwrap_small _ (by omega) (by omega)
 rw [← clamp_far _ _ b4]
 have HD := hide (fun W => refclamp_c (Qua.down p s1) (-1099511627776) 1099511627776 (by decide) W)
 have b5 := clamp_in (Qua.down p s1) (-1099511627776) 1099511627776 (by decide)
 obtain ⟨c, hc⟩ : ∃ d, Hid (Flt.clamp (Qua.down p s1) (-1099511627776) 1099511627776 = d) := ⟨_, hide rfl⟩
 rw [hc.out] at HD b5 ⊢
 have HC := hide (fun W => refclamp_c (c + z1) (-128) 127 (by decide) W)
 obtain ⟨d, hd⟩ : ∃ d, Hid (Qua.down p s1 = d) := ⟨_, hide rfl⟩
 have hdd := hd.out
 unfold Qua.down at hdd
 rw [hd.out] at HD
 have hadd : IntKind.i64.wrap (c + z1) = c + z1 := iwrap_small _ (by omega) (by omega)
 have hadd2 : wrap64 (c + z1) = c + z1 := wrap_small _ (by omega) (by omega)
 clear hc hd hp
 by_cases h0 : 0 < s1
 case' pos =>
  rw [if_pos h0] at hdd
  obtain ⟨k, rfl⟩ : ∃ k, s1 = k + 1 := ⟨s1 - 1, by omega⟩
  rw [Nat.add_sub_cancel] at hdd
  have hk1 : IntKind.i64.wrap (((k + 1 : Nat) : Int) - 1) = (k : Int) := by rw [iwrap_small _ (by omega) (by omega)]; omega
  have hkp : (0 : Int) < ((k + 1 : Nat) : Int) := by omega
  have t4 : IntKind.u64.wrap (k : Int) = (k : Int) := by rw [IntKind.wrap_u64]; omega
  have t5 : IntKind.u64.wrap ((k + 1 : Nat) : Int) = ((k + 1 : Nat) : Int) := by rw [IntKind.wrap_u64]; omega
  have hQ := req_down p z1 k (by omega) hp0 hp1 b4
  obtain ⟨hw1, hw2, -, -⟩ := hQ
 case' neg =>
  rw [if_neg h0] at hdd
  obtain rfl : s1 = 0 := by omega
  have hdp : p = d := by simpa using hdd
  subst hdp
  clear hdd
 all_goals
  go_enter Tryz.func89, Tryz.ntmps89
  go_wp2_with fail
  refine (H2.out w).mono ?_
  rintro e w1 ⟨rfl, rfl⟩
  go_wp2_with fail
  refine (H3.out _).mono ?_
  rintro e w1 ⟨rfl, rfl⟩
  go_wp2_with fail
  refine (H1.out _).mono ?_
  rintro e w1 ⟨rfl, rfl⟩
  go_wp2_with fail
  refine (HD.out _).mono ?_
  rintro e w1 ⟨rfl, rfl⟩
  go_wp2_with fail
  refine (H4.out _).mono ?_
  rintro e w1 ⟨rfl, rfl⟩
  go_wp2_with fail
  refine (HC.out _).mono ?_
  rintro e w1 ⟨rfl, rfl⟩
  go_wp2_with fail
  go_ret
  exact ⟨rfl, rfl⟩
end Go.Proofs.YtgdcfjmpjhlndaaGreatDoor
