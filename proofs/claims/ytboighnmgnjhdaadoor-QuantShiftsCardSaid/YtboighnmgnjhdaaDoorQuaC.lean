/-
  The law QuantShifts, walked. By an AI agent. No person has read it.
-/
import Derived.Test.YtboighnmgnjhdaaDoorQuaB
namespace Go.Proofs.YtboighnmgnjhdaaDoor
open Go.RowKit

theorem clamp_id (n a b : Int) (h1 : a ≤ n) (h2 : n ≤ b) : Flt.clamp n a b = n := by
  unfold Flt.clamp
  split <;> split <;> omega
/-- A number shifted down, rounded half up. -/
def Qua.sh (x : Int) (n : Nat) : Int := if 0 < n then (x + 2 ^ (n - 1)) / 2 ^ n else x
theorem req_shift (x z : Int) (n : Nat) (hn : n < 12) (hx : -524288 ≤ x ∧ x ≤ 524287) (hz : -128 ≤ z ∧ z ≤ 127) : Qua.req x 1073741824 (30 + (n : Int)) z = Flt.clamp (Qua.sh x n + z) (-128) 127 := by
  unfold Qua.req
  rw [clamp_id x _ _ (by omega) (by omega), clamp_id 1073741824 _ _ (by decide) (by decide), clamp_id (30 + (n : Int)) _ _ (by omega) (by omega), clamp_id z _ _ (by omega) (by omega)]
  rw [show (30 + (n : Int)).toNat = 30 + n by omega]
  congr 2
  unfold Qua.down Qua.sh
  rw [if_pos (by omega)]
  obtain rfl | rfl | rfl | rfl | rfl | rfl | rfl | rfl | rfl | rfl | rfl | rfl : n = 0 ∨ n = 1 ∨ n = 2 ∨ n = 3 ∨ n = 4 ∨ n = 5 ∨ n = 6 ∨ n = 7 ∨ n = 8 ∨ n = 9 ∨ n = 10 ∨ n = 11 := by omega
  all_goals simp
  all_goals omega
theorem req_none (x z : Int) (n : Nat) (hn : n < 12) (hz : -128 ≤ z ∧ z ≤ 127) : Qua.req x 0 (n : Int) z = z := by
  unfold Qua.req
  rw [clamp_id 0 _ _ (by decide) (by decide), clamp_id (n : Int) _ _ (by omega) (by omega), clamp_id z _ _ (by omega) (by omega), Int.mul_zero, Int.toNat_natCast]
  have h : Qua.down 0 n = 0 := by
    unfold Qua.down
    obtain rfl | rfl | rfl | rfl | rfl | rfl | rfl | rfl | rfl | rfl | rfl | rfl : n = 0 ∨ n = 1 ∨ n = 2 ∨ n = 3 ∨ n = 4 ∨ n = 5 ∨ n = 6 ∨ n = 7 ∨ n = 8 ∨ n = 9 ∨ n = 10 ∨ n = 11 := by omega
    all_goals decide
  rw [h, clamp_id _ _ _ (by omega) (by omega)]
  omega
theorem sh_mono (x y : Int) (n : Nat) (h : x ≤ y) : Qua.sh x n ≤ Qua.sh y n := by
  unfold Qua.sh
  split
  · exact Int.ediv_le_ediv (by have := pow_one n; omega) (by omega)
  · exact h
theorem clamp_mono (x y a b : Int) (h : x ≤ y) : Flt.clamp x a b ≤ Flt.clamp y a b := by
  unfold Flt.clamp
  (repeat' split) <;> omega
theorem sh_in (x : Int) (n : Nat) (hn : n < 12) (hx : -524288 ≤ x ∧ x ≤ 524287) : -600000 ≤ Qua.sh x n ∧ Qua.sh x n ≤ 600000 := by
  unfold Qua.sh
  obtain rfl | rfl | rfl | rfl | rfl | rfl | rfl | rfl | rfl | rfl | rfl | rfl : n = 0 ∨ n = 1 ∨ n = 2 ∨ n = 3 ∨ n = 4 ∨ n = 5 ∨ n = 6 ∨ n = 7 ∨ n = 8 ∨ n = 9 ∨ n = 10 ∨ n = 11 := by omega
  all_goals simp
  all_goals omega
theorem pow_small (k : Nat) (hk : k ≤ 11) : (0 : Int) ≤ 2 ^ k ∧ (2 : Int) ^ k ≤ 2048 := by
  have h1 : 2 ^ k ≤ 2 ^ 11 := Nat.pow_le_pow_right (by decide) hk
  have h2 : (2 : Nat) ^ 11 = 2048 := by decide
  rw [h2] at h1
  rw [pow_cast]
  exact ⟨Int.natCast_nonneg _, Int.ofNat_le.2 h1⟩
theorem add_wraps (a T : Int) (ha : -524288 ≤ a ∧ a ≤ 524287) (hT : 0 ≤ T ∧ T ≤ 2048) : wrap64 T = T ∧ wrap64 (a + T) = a + T := ⟨wrap_small _ (by omega) (by omega), wrap_small _ (by omega) (by omega)⟩
set_option maxRecDepth 100000 in
set_option maxHeartbeats 8000000 in
theorem shifts_c (x y n z : Int) (w : World) :
    Calls Tryd.prog 8 #[.int .i64 x, .int .i64 y, .int .i64 n, .int .i64 z] w fun e w' => e = .returned (.bool true) ∧ Below w.heap.size w w' := by
  have HF := hide qfirst_c
  have H1 := hide (number_c x 1048576 (by decide) (by decide) 1048576 rfl)
  have H2 := hide (number_c y 1048576 (by decide) (by decide) 1048576 rfl)
  have H3 := hide (number_c n 12 (by decide) (by decide) 12 rfl)
  have H4 := hide (number_c z 256 (by decide) (by decide) 256 rfl)
  go_enter Tryd.func8, Tryd.ntmps8
  go_wp2_with fail
  refine (HF.out _).mono ?_
  rintro e w1 ⟨rfl, rfl⟩
  go_wp2_with fail
  refine (H1.out _).mono ?_
  rintro e w1 ⟨⟨k1, hk1, rfl⟩, rfl⟩
  obtain ⟨a, ha⟩ : ∃ a : Int, Hid ((k1 : Int) - 524288 = a) := ⟨_, hide rfl⟩
  have hab : -524288 ≤ a ∧ a ≤ 524287 := by have := ha.out; omega
  have sa : IntKind.i64.wrap ((k1 : Int) - 524288) = a := by rw [ha.out]; exact iwrap_small _ (by omega) (by omega)
  clear ha
  go_wp2_with fail
  refine (H2.out _).mono ?_
  rintro e w1 ⟨⟨k2, hk2, rfl⟩, rfl⟩
  obtain ⟨b, hb⟩ : ∃ a : Int, Hid ((k2 : Int) - 524288 = a) := ⟨_, hide rfl⟩
  have hbb : -524288 ≤ b ∧ b ≤ 524287 := by have := hb.out; omega
  have sb : IntKind.i64.wrap ((k2 : Int) - 524288) = b := by rw [hb.out]; exact iwrap_small _ (by omega) (by omega)
  clear hb
  go_wp2_with fail
  refine (H3.out _).mono ?_
  rintro e w1 ⟨⟨m, hm, rfl⟩, rfl⟩
  go_wp2_with fail
  refine (H4.out _).mono ?_
  rintro e w1 ⟨⟨k4, hk4, rfl⟩, rfl⟩
  obtain ⟨c, hc⟩ : ∃ a : Int, Hid ((k4 : Int) - 128 = a) := ⟨_, hide rfl⟩
  have hcb : -128 ≤ c ∧ c ≤ 127 := by have := hc.out; omega
  have sc : IntKind.i64.wrap ((k4 : Int) - 128) = c := by rw [hc.out]; exact iwrap_small _ (by omega) (by omega)
  have sm : IntKind.i64.wrap (30 + (m : Int)) = 30 + (m : Int) := iwrap_small _ (by omega) (by omega)
  have R1 := hide (requant_c a 1073741824 (30 + (m : Int)) c)
  have R2 := hide (requant_c b 1073741824 (30 + (m : Int)) c)
  have R3 := hide (requant_c a 0 (m : Int) c)
  rw [req_shift a c m hm hab hcb] at R1
  rw [req_shift b c m hm hbb hcb] at R2
  rw [req_none a c m hm hcb] at R3
  have hvb := sh_in a m hm hab
  have hmono : a ≤ b → Flt.clamp (Qua.sh a m + c) (-128) 127 ≤ Flt.clamp (Qua.sh b m + c) (-128) 127 := fun h => clamp_mono _ _ _ _ (by have := sh_mono a b m h; omega)
  obtain ⟨v, hv⟩ : ∃ v, Hid (Qua.sh a m = v) := ⟨_, hide rfl⟩
  obtain ⟨B, hB⟩ : ∃ B, Hid (Flt.clamp (Qua.sh b m + c) (-128) 127 = B) := ⟨_, hide rfl⟩
  rw [hv.out] at R1 hvb hmono
  rw [hB.out] at R2 hmono
  have hv1 := hv.out
  obtain ⟨s, hs⟩ : ∃ s, Hid (v + c = s) := ⟨_, hide rfl⟩
  have sv : IntKind.i64.wrap (v + c) = s := by rw [hs.out]; exact iwrap_small _ (by have := hs.out; omega) (by have := hs.out; omega)
  have sv2 : wrap64 (v + c) = s := by rw [hs.out]; exact wrap_small _ (by have := hs.out; omega) (by have := hs.out; omega)
  rw [hs.out] at R1 hmono
  unfold Qua.sh at hv1
  have hcl : ∃ r, Flt.clamp s (-128) 127 = r ∧ ((s < -128 ∧ r = -128) ∨ (s = -128 ∧ r = -128) ∨ (-128 < s ∧ s < 127 ∧ r = s) ∨ (s = 127 ∧ r = 127) ∨ (127 < s ∧ r = 127)) := by
    refine ⟨_, rfl, ?_⟩
    unfold Flt.clamp
    (repeat' split) <;> omega
  obtain ⟨r, hr, hrc⟩ := hcl
  rw [hr] at R1 hmono
  clear hc hv hB HF H1 H2 H3 H4 hr hs hk1 hk2 hk4
  by_cases hm0 : 0 < m
  case neg =>
    obtain rfl : m = 0 := by omega
    obtain rfl : a = v := by simpa using hv1
    clear hv1
    by_cases hxy : b < a
    case pos =>
      clear hmono
      rcases hrc with ⟨h1, rfl⟩ | ⟨rfl, rfl⟩ | ⟨h1, h2, rfl⟩ | ⟨rfl, rfl⟩ | ⟨h1, rfl⟩
      all_goals
        go_wp2_with fail
        refine (R1.out _).mono ?_
        rintro e w1 ⟨rfl, rfl⟩
        go_wp2_with fail
        refine (R2.out _).mono ?_
        rintro e w1 ⟨rfl, rfl⟩
        go_wp2_with fail
        refine (R3.out _).mono ?_
        rintro e w1 ⟨rfl, rfl⟩
        go_wp2_with fail
        go_ret
        exact ⟨rfl, ((((Below.refl _ _).drew).drew).drew).drew⟩
    case neg =>
      have hAB := hmono (by omega)
      clear hmono
      rcases hrc with ⟨h1, rfl⟩ | ⟨rfl, rfl⟩ | ⟨h1, h2, rfl⟩ | ⟨rfl, rfl⟩ | ⟨h1, rfl⟩
      all_goals
        go_wp2_with fail
        refine (R1.out _).mono ?_
        rintro e w1 ⟨rfl, rfl⟩
        go_wp2_with fail
        refine (R2.out _).mono ?_
        rintro e w1 ⟨rfl, rfl⟩
        go_wp2_with fail
        refine (R3.out _).mono ?_
        rintro e w1 ⟨rfl, rfl⟩
        go_wp2_with fail
        go_ret
        exact ⟨rfl, ((((Below.refl _ _).drew).drew).drew).drew⟩
  case pos =>
    obtain ⟨k, rfl⟩ : ∃ k, m = k + 1 := ⟨m - 1, by omega⟩
    rw [if_pos hm0, Nat.add_sub_cancel] at hv1
    obtain ⟨t1, t2⟩ := add_wraps a (2 ^ k) hab (pow_small k (by omega))
    have t3 : IntKind.i64.wrap (((k + 1 : Nat) : Int) - 1) = (k : Int) := by rw [iwrap_small _ (by omega) (by omega)]; omega
    have t4 : IntKind.u64.wrap (k : Int) = (k : Int) := by rw [IntKind.wrap_u64]; omega
    have t5 : IntKind.u64.wrap ((k + 1 : Nat) : Int) = ((k + 1 : Nat) : Int) := by rw [IntKind.wrap_u64]; omega
    have t6 : (0 : Int) < ((k + 1 : Nat) : Int) := by omega
    clear hm0
    by_cases hxy : b < a
    case pos =>
      clear hmono
      rcases hrc with ⟨h1, rfl⟩ | ⟨rfl, rfl⟩ | ⟨h1, h2, rfl⟩ | ⟨rfl, rfl⟩ | ⟨h1, rfl⟩
      all_goals
        go_wp2_with fail
        refine (R1.out _).mono ?_
        rintro e w1 ⟨rfl, rfl⟩
        go_wp2_with fail
        refine (R2.out _).mono ?_
        rintro e w1 ⟨rfl, rfl⟩
        go_wp2_with fail
        refine (R3.out _).mono ?_
        rintro e w1 ⟨rfl, rfl⟩
        go_wp2_with fail
        go_ret
        exact ⟨rfl, ((((Below.refl _ _).drew).drew).drew).drew⟩
    case neg =>
      have hAB := hmono (by omega)
      clear hmono
      rcases hrc with ⟨h1, rfl⟩ | ⟨rfl, rfl⟩ | ⟨h1, h2, rfl⟩ | ⟨rfl, rfl⟩ | ⟨h1, rfl⟩
      all_goals
        go_wp2_with fail
        refine (R1.out _).mono ?_
        rintro e w1 ⟨rfl, rfl⟩
        go_wp2_with fail
        refine (R2.out _).mono ?_
        rintro e w1 ⟨rfl, rfl⟩
        go_wp2_with fail
        refine (R3.out _).mono ?_
        rintro e w1 ⟨rfl, rfl⟩
        go_wp2_with fail
        go_ret
        exact ⟨rfl, ((((Below.refl _ _).drew).drew).drew).drew⟩
end Go.Proofs.YtboighnmgnjhdaaDoor
