/-
  lodgeref3.Requant, walked. By an AI agent. No person has read it.
-/
import Derived.Test.YtboighnmgnjhdaaDoorQuaA
namespace Go.Proofs.YtboighnmgnjhdaaDoor
open Go.RowKit

theorem refclamp_c (n a b : Int) (h : a ≤ b) (w : World) :
    Calls Tryd.prog 68 #[.int .i64 n, .int .i64 a, .int .i64 b] w fun e w' => e = .returned (.int .i64 (Flt.clamp n a b)) ∧ w' = w := by
  rw [Flt.clamp_cut, if_neg (by omega)]
  exact refcut_c n a b w
theorem clamp_far (v z : Int) (hz : -128 ≤ z ∧ z ≤ 127) : Flt.clamp (Flt.clamp v (-1099511627776) 1099511627776 + z) (-128) 127 = Flt.clamp (v + z) (-128) 127 := by
  unfold Flt.clamp
  (repeat' split) <;> omega
theorem prod_in (x1 m1 : Int) (b2 : -2147483648 ≤ x1 ∧ x1 ≤ 2147483647) (b3 : 0 ≤ m1 ∧ m1 ≤ 2147483647) : -4611686016279904256 ≤ x1 * m1 ∧ x1 * m1 ≤ 4611686014132420609 := by
  rw [show (4611686014132420609 : Int) = 2147483647 * 2147483647 by decide, show (-4611686016279904256 : Int) = -(2147483648 * 2147483647) by decide]
  constructor
  · rcases Int.lt_or_le x1 0 with h | h
    · have := Int.mul_le_mul (show -x1 ≤ 2147483648 by omega) b3.2 b3.1 (by decide)
      rw [Int.neg_mul] at this
      omega
    · have := Int.mul_nonneg h b3.1
      omega
  · rcases Int.lt_or_le x1 0 with h | h
    · have := Int.mul_nonneg (show 0 ≤ -x1 by omega) b3.1
      rw [Int.neg_mul] at this
      omega
    · exact Int.mul_le_mul b2.2 b3.2 b3.1 (by decide)
set_option maxRecDepth 100000 in
set_option maxHeartbeats 4000000 in
theorem rrequant_c (x m s z : Int) (w : World) : Calls Tryd.prog 35 #[.int .i64 x, .int .i64 m, .int .i64 s, .int .i64 z] w fun e w' => e = .returned (.int .i64 (Qua.req x m s z)) ∧ w' = w := by
  have H1 := hide (refclamp_c s 0 62 (by decide))
  have H2 := hide (refclamp_c x (-2147483648) 2147483647 (by decide))
  have H3 := hide (refclamp_c m 0 2147483647 (by decide))
  have H4 := hide (refclamp_c z (-128) 127 (by decide))
  unfold Qua.req
  have b1 := clamp_in s 0 62 (by decide)
  have b2 := clamp_in x (-2147483648) 2147483647 (by decide)
  have b3 := clamp_in m 0 2147483647 (by decide)
  have b4 := clamp_in z (-128) 127 (by decide)
  obtain ⟨s1, hs1⟩ : ∃ s1 : Nat, Hid (Flt.clamp s 0 62 = (s1 : Int)) := ⟨(Flt.clamp s 0 62).toNat, hide (by omega)⟩
  obtain ⟨x1, hx1⟩ : ∃ r, Hid (Flt.clamp x (-2147483648) 2147483647 = r) := ⟨_, hide rfl⟩
  obtain ⟨m1, hm1⟩ : ∃ r, Hid (Flt.clamp m 0 2147483647 = r) := ⟨_, hide rfl⟩
  obtain ⟨z1, hz1⟩ : ∃ r, Hid (Flt.clamp z (-128) 127 = r) := ⟨_, hide rfl⟩
  rw [hs1.out] at H1 b1 ⊢
  rw [hx1.out] at H2 b2 ⊢
  rw [hm1.out] at H3 b3 ⊢
  rw [hz1.out] at H4 b4 ⊢
  rw [Int.toNat_natCast]
  clear hs1 hx1 hm1 hz1
  obtain ⟨hp0, hp1⟩ := prod_in x1 m1 b2 b3
  obtain ⟨p, hp⟩ : ∃ p, Hid (x1 * m1 = p) := ⟨_, hide rfl⟩
  rw [hp.out] at hp0 hp1 ⊢
  have hmul : IntKind.i64.wrap (x1 * m1) = p := by rw [hp.out]; exact iwrap_small _ (by omega) (by omega)
  rw [← clamp_far _ _ b4]
  have HD := hide (fun W => refclamp_c (Qua.down p s1) (-1099511627776) 1099511627776 (by decide) W)
  have b5 := clamp_in (Qua.down p s1) (-1099511627776) 1099511627776 (by decide)
  obtain ⟨c, hc⟩ : ∃ d, Hid (Flt.clamp (Qua.down p s1) (-1099511627776) 1099511627776 = d) := ⟨_, hide rfl⟩
  rw [hc.out] at HD b5 ⊢
  have HC := hide (fun W => refclamp_c (c + z1) (-128) 127 (by decide) W)
  obtain ⟨d, hd⟩ : ∃ d, Hid (Qua.down p s1 = d) := ⟨_, hide rfl⟩
  have hdd := hd.out
  unfold Qua.down at hdd
  rw [hd.out] at HD
  have hadd : IntKind.i64.wrap (c + z1) = c + z1 := iwrap_small _ (by omega) (by omega)
  have hadd2 : wrap64 (c + z1) = c + z1 := wrap_small _ (by omega) (by omega)
  clear hc hd hp
  by_cases h0 : 0 < s1
  case' pos =>
    rw [if_pos h0] at hdd
    obtain ⟨k, rfl⟩ : ∃ k, s1 = k + 1 := ⟨s1 - 1, by omega⟩
    rw [Nat.add_sub_cancel] at hdd
    have hk1 : IntKind.i64.wrap (((k + 1 : Nat) : Int) - 1) = (k : Int) := by rw [iwrap_small _ (by omega) (by omega)]; omega
    have hkp : (0 : Int) < ((k + 1 : Nat) : Int) := by omega
    have t4 : IntKind.u64.wrap (k : Int) = (k : Int) := by rw [IntKind.wrap_u64]; omega
    have t5 : IntKind.u64.wrap ((k + 1 : Nat) : Int) = ((k + 1 : Nat) : Int) := by rw [IntKind.wrap_u64]; omega
    have hQ := req_down p z1 k (by omega) hp0 hp1 b4
    obtain ⟨hw1, hw2, -, -⟩ := hQ
  case' neg =>
    rw [if_neg h0] at hdd
    obtain rfl : s1 = 0 := by omega
    have hdp : p = d := by simpa using hdd
    subst hdp
    clear hdd
  all_goals
    go_enter Tryd.func35, Tryd.ntmps35
    go_wp2_with fail
    refine (H2.out w).mono ?_
    rintro e w1 ⟨rfl, rfl⟩
    go_wp2_with fail
    refine (H3.out _).mono ?_
    rintro e w1 ⟨rfl, rfl⟩
    go_wp2_with fail
    refine (H1.out _).mono ?_
    rintro e w1 ⟨rfl, rfl⟩
    go_wp2_with fail
    refine (HD.out _).mono ?_
    rintro e w1 ⟨rfl, rfl⟩
    go_wp2_with fail
    refine (H4.out _).mono ?_
    rintro e w1 ⟨rfl, rfl⟩
    go_wp2_with fail
    refine (HC.out _).mono ?_
    rintro e w1 ⟨rfl, rfl⟩
    go_wp2_with fail
    go_ret
    exact ⟨rfl, rfl⟩
end Go.Proofs.YtboighnmgnjhdaaDoor
