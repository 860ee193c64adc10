/-
  The reference's Round, walked. By an AI agent. No person has read it.
-/
import Derived.Test.YtboighnmgnjhdaaDoorFltR
import Derived.Test.YtboighnmgnjhdaaDoorFltN
namespace Go.Proofs.YtboighnmgnjhdaaDoor
open Go.RowKit

theorem round_rround (b : Nat) (hb : b < 18446744073709551616) : Flt.round b = Flt.rround b := Flt.round_eq b hb
/-- The sign's bit. -/
def Flt.sgn (b : Nat) : Nat := if Flt.neg b = true then 9223372036854775808 else 0
theorem sgn_shift (b : Nat) (hb : b < 18446744073709551616) : IntKind.u64.wrap ((b : Int) / 9223372036854775808 * 9223372036854775808) = (Flt.sgn b : Int) := by
  rw [IntKind.wrap_u64]
  unfold Flt.sgn Flt.neg
  by_cases h : 9223372036854775808 ≤ b
  · rw [if_pos (decide_eq_true h)]; omega
  · rw [if_neg (by simpa using h)]; omega
theorem sgn_or (b : Nat) : bits .or .u64 (Flt.sgn b : Int) 4607182418800017408 = ((Flt.sgn b + 4607182418800017408 : Nat) : Int) := by
  unfold Flt.sgn
  split <;> decide

set_option maxRecDepth 100000 in
set_option maxHeartbeats 4000000 in
theorem refround_c (b : Nat) (hb : b < 18446744073709551616) (w : World) :
    Calls Tryd.prog 93 #[.float .f64 b] w fun e w' => e = .returned (.float .f64 (Flt.rround b)) ∧ w' = w := by
  have hfb := run_f64bits
  have hff := run_f64from
  have h1 := expo_and b hb
  have h2 := shl12 b
  have h3 := sgn_shift b hb
  have h4 := sgn_or b
  have hel := expo_lt b
  unfold Flt.rround
  change Calls _ _ _ _ fun e w' => e = .returned (.float .f64 (if 1075 ≤ Flt.expo b then b else if Flt.expo b < 1022 then Flt.sgn b else if Flt.expo b = 1022 then Flt.sgn b + (if Flt.frac b = 0 then 0 else 4607182418800017408) else _)) ∧ w' = w
  obtain ⟨ex, hex⟩ : ∃ x, Hid (Flt.expo b = x) := ⟨_, hide rfl⟩
  obtain ⟨fr, hfr⟩ : ∃ x, Hid (Flt.frac b = x) := ⟨_, hide rfl⟩
  obtain ⟨sg, hsg⟩ : ∃ x, Hid (Flt.sgn b = x) := ⟨_, hide rfl⟩
  rw [hex.out] at h1 hel ⊢
  rw [hfr.out] at h2 ⊢
  rw [hsg.out] at h3 h4 ⊢
  by_cases c1 : 1075 ≤ ex
  · rw [if_pos c1]
    have c1' : (1075 : Int) ≤ ex := by omega
    go_enter Tryd.func93, Tryd.ntmps93
    go_wp2_with fail
    go_ret
    exact ⟨rfl, rfl⟩
  rw [if_neg c1]
  have c1' : ¬ ((1075 : Int) ≤ ex) := by omega
  by_cases c2 : ex < 1022
  · rw [if_pos c2]
    have c2' : (ex : Int) < 1022 := by omega
    go_enter Tryd.func93, Tryd.ntmps93
    go_wp2_with fail
    go_ret
    exact ⟨rfl, rfl⟩
  rw [if_neg c2]
  have c2' : ¬ ((ex : Int) < 1022) := by omega
  by_cases c3 : ex = 1022
  · subst c3
    rw [if_pos rfl]
    by_cases c4 : fr = 0
    · subst c4
      rw [if_pos rfl]
      go_enter Tryd.func93, Tryd.ntmps93
      go_wp2_with fail
      go_ret
      exact ⟨rfl, rfl⟩
    · rw [if_neg c4]
      have c4' : (((fr : Int) * 4096) == 0) = false := by simp; omega
      have c4'' : ¬ ((fr : Int) * 4096 = 0) := by omega
      obtain ⟨so, hso⟩ : ∃ x, Hid (sg + 4607182418800017408 = x) := ⟨_, hide rfl⟩
      rw [hso.out] at h4 ⊢
      go_enter Tryd.func93, Tryd.ntmps93
      go_wp2_with fail
      go_ret
      exact ⟨rfl, rfl⟩
  rw [if_neg c3]
  have c3' : ¬ ((ex : Int) = 1022) := by omega
  have c3'' : ((ex : Int) == 1022) = false := by simp; omega
  obtain ⟨n, hn⟩ : ∃ n, 1075 - ex = n := ⟨_, rfl⟩
  rw [hn]
  have hn1 : (1075 : Int) - ex = (n : Int) := by omega
  have hn2 : n ≤ 52 := by omega
  have hn3 : 1 ≤ n := by omega
  have hp1 : (2 : Nat) ^ n ≤ 2 ^ 52 := Nat.pow_le_pow_right (by decide) hn2
  have hp2 : (2 : Nat) ^ n = 2 * 2 ^ (n - 1) := by
    have h := Nat.pow_succ (n := 2) (m := n - 1)
    rw [Nat.succ_eq_add_one, Nat.sub_add_cancel hn3, Nat.mul_comm] at h
    exact h
  have hp3 : 0 < (2 : Nat) ^ (n - 1) := Nat.two_pow_pos _
  have hmask : bits .and .u64 (b : Int) ((2 ^ n - 1 : Nat) : Int) = ((b % 2 ^ n : Nat) : Int) := and_mask b n hb _ rfl (by omega)
  have hwP : IntKind.u64.wrap ((2 : Int) ^ n) = ((2 ^ n : Nat) : Int) := by
    rw [IntKind.wrap_u64, show (2 : Int) ^ n = ((2 ^ n : Nat) : Int) by simp]
    omega
  have hwH : IntKind.u64.wrap ((2 : Int) ^ (n - 1)) = ((2 ^ (n - 1) : Nat) : Int) := by
    rw [IntKind.wrap_u64, show (2 : Int) ^ (n - 1) = ((2 ^ (n - 1) : Nat) : Int) by simp]
    omega
  have hdv : ∀ x : Nat, (x : Int) / (2 : Int) ^ n = ((x / 2 ^ n : Nat) : Int) := fun x => by simp
  have hq := hide (Nat.div_add_mod b (2 ^ n))
  have hlow : b % 2 ^ n < 2 ^ n := Nat.mod_lt _ (by omega)
  obtain ⟨P, hP⟩ : ∃ P, Hid (2 ^ n = P) := ⟨_, hide rfl⟩
  obtain ⟨H, hH⟩ : ∃ P, Hid (2 ^ (n - 1) = P) := ⟨_, hide rfl⟩
  rw [hP.out] at hp1 hp2 hmask hwP hq hlow ⊢
  simp only [hP.out] at hdv
  rw [hH.out] at hp2 hp3 hwH
  clear hP hH hn
  obtain ⟨low, hlo⟩ : ∃ x, Hid (b % P = x) := ⟨_, hide rfl⟩
  obtain ⟨q, hqq⟩ : ∃ x, Hid (b / P = x) := ⟨_, hide rfl⟩
  rw [hlo.out] at hmask hq hlow ⊢
  rw [hqq.out] at hq ⊢
  obtain ⟨c, hc⟩ : ∃ x, Hid (b - low = x) := ⟨_, hide rfl⟩
  have hcb : (b : Int) - (low : Int) = (c : Int) := by have := hc.out; have := hq.out; omega
  have hcq : c = P * q := by have := hc.out; have := hq.out; omega
  have hcd := hdv c
  rw [show c / P = q by rw [hcq, Nat.mul_div_cancel_left _ (by omega)]] at hcd
  have hq64 : q < 18446744073709551616 := by rw [← hqq.out]; exact Nat.lt_of_le_of_lt (Nat.div_le_self _ _) hb
  have hb1 : bits .and .u64 (q : Int) 1 = ((q % 2 : Nat) : Int) := and_mask q 1 hq64 1 (by decide) (by decide)
  obtain ⟨mk, hmk⟩ : ∃ x, Hid (P - 1 = x) := ⟨_, hide rfl⟩
  rw [hmk.out] at hmask
  have hmkI : (P : Int) - 1 = (mk : Int) := by have := hmk.out; omega
  rw [hc.out]
  have hc63 : c + P < 18446744073709551616 := by
    have h5 := hex.out
    unfold Flt.expo at h5
    have := hc.out
    omega
  clear hq hlo hqq hc hcq hdv hq64
  obtain ⟨od, hod⟩ : ∃ x, Hid (q % 2 = x) := ⟨_, hide rfl⟩
  rw [hod.out] at hb1 ⊢
  obtain ⟨r, hr⟩ : ∃ x, Hid (c + P = x) := ⟨_, hide rfl⟩
  have hrI : (c : Int) + (P : Int) = (r : Int) := by have := hr.out; omega
  have hr64 : r < 18446744073709551616 := by have := hr.out; omega
  clear hod hmk hex hfr hsg c1 c2 c3
  have HP2 := hide hp2
  have hpl : P ≤ 4503599627370496 := hp1
  clear hp2 hp1
  by_cases d1 : H < low
  · have d1' : (H : Int) < low := by omega
    rw [if_pos (by have := HP2.out; omega), hr.out]
    go_enter Tryd.func93, Tryd.ntmps93
    go_wp2_with fail
    go_ret
    exact ⟨rfl, rfl⟩
  have d1' : ¬ ((H : Int) < low) := by omega
  by_cases d2 : low = H
  · subst d2
    by_cases d3 : od = 1
    · subst d3
      rw [if_pos (by have := HP2.out; omega), hr.out]
      go_enter Tryd.func93, Tryd.ntmps93
      go_wp2_with fail
      go_ret
      exact ⟨rfl, rfl⟩
    · have d3' : ((od : Int) == 1) = false := by simp; omega
      have d3'' : ¬ ((od : Int) = 1) := by omega
      rw [if_neg (by have := HP2.out; omega), Nat.add_zero]
      go_enter Tryd.func93, Tryd.ntmps93
      go_wp2_with fail
      go_ret
      exact ⟨rfl, rfl⟩
  · have d2' : ((low : Int) == H) = false := by simp; omega
    have d2'' : ¬ ((low : Int) = H) := by omega
    rw [if_neg (by have := HP2.out; omega), Nat.add_zero]
    go_enter Tryd.func93, Tryd.ntmps93
    go_wp2_with fail
    go_ret
    exact ⟨rfl, rfl⟩
end Go.Proofs.YtboighnmgnjhdaaDoor
