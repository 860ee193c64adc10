/-
  The reference's Make, walked: the nearest number. By an AI agent. No person has read it.
-/
import Derived.Test.YteeiehaebiigfaaDoorFltZ
namespace Go.Proofs.YteeiehaebiigfaaDoor
open Go.RowKit

set_option maxRecDepth 100000 in
set_option maxHeartbeats 16000000 in
theorem refmake_c (m0 e : Int) (h1 : -9223372036854775808 ≤ m0) (h2 : m0 ≤ 9223372036854775807) (w : World) :
    Calls Tryd.prog 35 #[.int .i64 m0, .int .i64 e] w fun e' w' => e' = .returned (.float .f64 (Flt.mk m0 e)) ∧ w' = w := by
  have hff := run_f64from
  by_cases hz : m0 = 0
  · subst hz
    rw [show Flt.mk 0 e = 0 from if_pos rfl]
    go_enter Tryd.func35, Tryd.ntmps35
    go_wp2_with fail
    go_ret
    exact ⟨rfl, rfl⟩
  have hz' : (m0 == 0) = false := by simp; omega
  unfold Flt.mk
  rw [if_neg hz]
  obtain ⟨s, hs0⟩ : ∃ s, m0.natAbs = s := ⟨_, rfl⟩
  rw [hs0, near_sign _ s e (by omega)]
  have h0 : s ≠ 0 := by omega
  have hs : s < 18446744073709551616 := by omega
  have hl64 : s.log2 < 64 := (Nat.log2_lt h0).2 hs
  have hlo : 2 ^ s.log2 ≤ s := Nat.log2_self_le h0
  have hhi : s < 2 ^ (s.log2 + 1) := Nat.lt_log2_self
  obtain ⟨q, hq⟩ : ∃ q, s.log2 = q := ⟨_, rfl⟩
  obtain ⟨K, hK⟩ : ∃ K, Hid (K = 63 - q) := ⟨_, hide rfl⟩
  have hX : ∀ i, i < K → s * 2 ^ i < 9223372036854775808 := fun i hi => by
    have a : s * 2 ^ i < 2 ^ (s.log2 + 1) * 2 ^ i := Nat.mul_lt_mul_of_pos_right hhi (Nat.two_pow_pos i)
    rw [← Nat.pow_add] at a
    have b := Flt.pow_le (s.log2 + 1 + i) 63 (by have := hK.out; omega)
    omega
  have hU1 : 9223372036854775808 ≤ s * 2 ^ K := by
    have a : 2 ^ s.log2 * 2 ^ K ≤ s * 2 ^ K := Nat.mul_le_mul_right _ hlo
    rw [← Nat.pow_add, show s.log2 + K = 63 by have := hK.out; omega] at a
    exact a
  have hU2 : s * 2 ^ K < 18446744073709551616 := by
    have a : s * 2 ^ K < 2 ^ (s.log2 + 1) * 2 ^ K := Nat.mul_lt_mul_of_pos_right hhi (Nat.two_pow_pos K)
    rw [← Nat.pow_add, show s.log2 + 1 + K = 64 by have := hK.out; omega] at a
    exact a
  have hK63 : K ≤ 63 := by have := hK.out; omega
  have HX := hide hX
  obtain ⟨U, hU⟩ : ∃ U, Hid (s * 2 ^ K = U) := ⟨_, hide rfl⟩
  rw [hU.out] at hU1 hU2
  clear hX hlo hhi
  by_cases hm : m0 < 0
  · rw [if_pos (decide_eq_true hm)]
    have hw1 : IntKind.u64.wrap m0 = ((18446744073709551616 - s : Nat) : Int) := by rw [IntKind.wrap_u64]; omega
    have hw2 : IntKind.u64.wrap (-((18446744073709551616 - s : Nat) : Int)) = (s : Int) := by rw [IntKind.wrap_u64]; omega
    obtain ⟨t, ht⟩ : ∃ t, Hid (18446744073709551616 - s = t) := ⟨_, hide rfl⟩
    rw [ht.out] at hw1 hw2
    obtain ⟨NR, hNR⟩ : ∃ NR, 9223372036854775808 + Flt.near s e = NR := ⟨_, rfl⟩
    rw [hNR]
    clear ht hs0
    have horI : bits .or .u64 9223372036854775808 9218868437227405312 = 18442240474082181120 := by decide
    have hffI : ∀ w : World, (callFunc 48 #[.int .u64 18442240474082181120]).run Tryd.prog w = .ok (.value (.float .f64 18442240474082181120)) w := run_f64from 18442240474082181120
    have hffS : ∀ w : World, (callFunc 48 #[.int .u64 9223372036854775808]).run Tryd.prog w = .ok (.value (.float .f64 9223372036854775808)) w := run_f64from 9223372036854775808
    go_enter Tryd.func35, Tryd.ntmps35
    go_wp2_with fail
    go_loopw [6, 7] (fun v u wr => ∃ i : Nat, i ≤ K ∧ v = .int .u64 ((s * 2 ^ i : Nat) : Int) ∧ u = .int .i64 (i : Int) ∧ wr = w) (fun _ u _ => K - (intOf u).toNat)
    case atStart => exact ⟨0, by omega, congrArg (Value.int .u64) (by simp), rfl, by first | rfl | trivial⟩
    case round =>
      obtain ⟨i, hi, rfl, rfl, rfl⟩ := hrel
      by_cases hlt : i < K
      · have hx := HX.out i hlt
        obtain ⟨x, hxx⟩ : ∃ x, Hid (s * 2 ^ i = x) := ⟨_, hide rfl⟩
        rw [hxx.out] at hx ⊢
        have hd0 : (x : Int) / 9223372036854775808 = 0 := by omega
        have hx2 : s * 2 ^ (i + 1) = x * 2 := by rw [Nat.pow_succ, ← Nat.mul_assoc, hxx.out]
        go_wp2_with fail
        go_roundw
        case rel => exact ⟨i + 1, by omega, congrArg (Value.int .u64) (by rw [hx2]; omega), by go_num, by first | rfl | trivial⟩
        case measure => simp [intOf]; omega
      · obtain rfl : i = K := by omega
        have hUx : s * 2 ^ i = U := hU.out
        rw [hUx]
        have hdU : (U : Int) / 9223372036854775808 = 1 := by omega
        by_cases b1 : 5000 < e
        · rw [near_top s e h0 hs (by omega)] at hNR
          subst hNR
          go_wp2_with fail
          go_ret
          exact ⟨rfl, rfl⟩
        by_cases b2 : e < -5000
        · rw [near_low s e h0 (by omega)] at hNR
          subst hNR
          go_wp2_with fail
          go_ret
          exact ⟨rfl, rfl⟩
        obtain ⟨top, htop⟩ : ∃ top : Int, e - (i : Int) + 63 = top := ⟨_, rfl⟩
        have htq : top = e + (q : Int) := by have := hK.out; omega
        by_cases b3 : 1023 < top
        · rw [near_top s e h0 hs (by omega)] at hNR
          subst hNR
          clear htq
          go_wp2_with fail
          go_ret
          exact ⟨rfl, rfl⟩
        by_cases b4 : top < -1022
        · by_cases b5 : top < -1075
          · rw [near_low s e h0 (by omega)] at hNR
            subst hNR
            obtain ⟨kn, hkn⟩ : ∃ kn : Int, 53 - (-1022 - top) = kn := ⟨_, rfl⟩
            have hkn0 : kn < 0 := by omega
            clear htq
            go_wp2_with fail
            go_ret
            exact ⟨rfl, rfl⟩
          obtain ⟨kp, hkp⟩ : ∃ kp : Nat, 53 - (-1022 - top) = (kp : Int) := ⟨(53 - (-1022 - top)).toNat, by omega⟩
          have hkp52 : kp ≤ 52 := by omega
          obtain ⟨d, hd⟩ : ∃ d : Nat, (64 : Int) - kp = (d : Int) := ⟨64 - kp, by omega⟩
          obtain ⟨hnu, hkh⟩ := near_small s e h0 hs (by omega) d (by omega)
          obtain ⟨hR, hH⟩ := shift_facts U d kp (by omega)
          have hsh : s * 2 ^ (63 - s.log2) = U := by rw [← hUx]; congr 2; have := hK.out; omega
          rw [hsh] at hnu hkh
          have hm : (U : Int) / 2 ^ d = ((U / 2 ^ d : Nat) : Int) := by simp
          have hRl : U % 2 ^ d * 2 ^ kp < 18446744073709551616 := by
            rw [show 18446744073709551616 = 2 ^ d * 2 ^ kp by rw [← Nat.pow_add, show d + kp = 64 by omega]]
            exact Nat.mul_lt_mul_of_pos_right (Nat.mod_lt _ (Nat.two_pow_pos d)) (Nat.two_pow_pos kp)
          have hm0 : kp = 0 → U / 2 ^ d = 0 := fun h => by
            apply Nat.div_eq_of_lt
            rw [show d = 64 by omega]
            exact hU2
          obtain ⟨R, hRR⟩ : ∃ R, Hid (U % 2 ^ d * 2 ^ kp = R) := ⟨_, hide rfl⟩
          obtain ⟨m, hmm⟩ : ∃ m, Hid (U / 2 ^ d = m) := ⟨_, hide rfl⟩
          rw [hRR.out] at hR hH hRl
          rw [hmm.out] at hm hH hm0
          obtain ⟨HF, hHF⟩ : ∃ x, Hid (Flt.half U (2 ^ d) = x) := ⟨_, hide rfl⟩
          rw [hHF.out] at hH hnu hkh
          have hml : m ≤ 4503599627370496 := by split at hH <;> omega
          have hpar : bits .and .u64 (m : Int) 1 = ((m % 2 : Nat) : Int) := and_mask m 1 (by omega) 1 (by decide) (by decide)
          clear hmm hHF hUx hsh htq
          by_cases b6 : kp = 0
          · have hRU : R = U := by
              rw [← hRR.out, b6, show d = 64 by omega, Nat.pow_zero, Nat.mul_one]
              exact Nat.mod_eq_of_lt hU2
            have hm1 := hm0 b6
            subst b6
            subst hRU
            subst hm1
            clear hm0 hm hRR hR
            have hpar0 : bits .and .u64 0 1 = 0 := by decide
            by_cases r1 : 9223372036854775808 < R
            · have r1' : (9223372036854775808 : Int) < R := by omega
              rw [if_pos (.inl r1)] at hH
              have hor := or_sgn 9223372036854775808 1 (.inr rfl) (by decide)
              rw [show 9223372036854775808 + 1 = NR by omega] at hor
              have hor' : bits .or .u64 9223372036854775808 1 = (NR : Int) := hor
              clear hor hH hnu hNR hkh
              go_wp2_with fail
              go_ret
              exact ⟨rfl, rfl⟩
            have r1' : ¬ ((9223372036854775808 : Int) < R) := by omega
            obtain rfl : R = 9223372036854775808 := by omega
            rw [if_neg (by omega), Nat.add_zero] at hH
            have hor := or_sgn 9223372036854775808 0 (.inr rfl) (by decide)
            rw [show 9223372036854775808 + 0 = NR by omega] at hor
            have hor' : bits .or .u64 9223372036854775808 0 = (NR : Int) := hor
            clear hor hH hnu hNR hkh
            go_wp2_with fail
            go_ret
            exact ⟨rfl, rfl⟩
          clear hRR
          have b6' : (0 : Int) < kp := by omega
          clear hm0
          by_cases r1 : 9223372036854775808 < R
          · have r1' : (9223372036854775808 : Int) < R := by omega
            rw [if_pos (.inl r1)] at hH
            obtain ⟨q2, hq2⟩ : ∃ q2 : Nat, ((m : Int) + 1) = (q2 : Int) := ⟨m + 1, by omega⟩
            have hq264 : q2 < 9223372036854775808 := by omega
            have hor := or_sgn 9223372036854775808 q2 (.inr rfl) hq264
            rw [show 9223372036854775808 + q2 = NR by omega] at hor
            have hor' : bits .or .u64 9223372036854775808 (q2 : Int) = (NR : Int) := hor
            clear hor hH hnu hNR hkh
            go_wp2_with fail
            go_ret
            exact ⟨rfl, rfl⟩
          have r1' : ¬ ((9223372036854775808 : Int) < R) := by omega
          by_cases r2 : R = 9223372036854775808
          · subst r2
            by_cases r3 : m % 2 = 1
            · rw [if_pos (.inr ⟨rfl, r3⟩)] at hH
              rw [r3] at hpar
              obtain ⟨q2, hq2⟩ : ∃ q2 : Nat, ((m : Int) + 1) = (q2 : Int) := ⟨m + 1, by omega⟩
              have hq264 : q2 < 9223372036854775808 := by omega
              have hor := or_sgn 9223372036854775808 q2 (.inr rfl) hq264
              rw [show 9223372036854775808 + q2 = NR by omega] at hor
              have hor' : bits .or .u64 9223372036854775808 (q2 : Int) = (NR : Int) := hor
              clear hor hH hnu hNR hkh
              go_wp2_with fail
              go_ret
              exact ⟨rfl, rfl⟩
            · rw [if_neg (by omega), Nat.add_zero] at hH
              rw [show m % 2 = 0 by omega] at hpar
              have hor := or_sgn 9223372036854775808 m (.inr rfl) (by omega)
              rw [show 9223372036854775808 + m = NR by omega] at hor
              have hor' : bits .or .u64 9223372036854775808 (m : Int) = (NR : Int) := hor
              clear hor hH hnu hNR hkh
              go_wp2_with fail
              go_ret
              exact ⟨rfl, rfl⟩
          · have r2' : ((R : Int) == 9223372036854775808) = false := by simp; omega
            have r2'' : ¬ ((R : Int) = 9223372036854775808) := by omega
            rw [if_neg (by omega), Nat.add_zero] at hH
            have hor := or_sgn 9223372036854775808 m (.inr rfl) (by omega)
            rw [show 9223372036854775808 + m = NR by omega] at hor
            have hor' : bits .or .u64 9223372036854775808 (m : Int) = (NR : Int) := hor
            clear hor hH hnu hNR hkh
            go_wp2_with fail
            go_ret
            exact ⟨rfl, rfl⟩
        have b4' : ¬ (top < -1022) := b4
        obtain ⟨hnu, hkl, hkh⟩ := near_usual s e h0 hs (by omega) (by omega)
        obtain ⟨hR, hH⟩ := shift_facts U 11 53 (by decide)
        have hsh : s * 2 ^ (63 - s.log2) = U := by rw [← hUx]; congr 2; have := hK.out; omega
        rw [hsh] at hnu hkl hkh
        have hRl : U % 2 ^ 11 * 2 ^ 53 < 18446744073709551616 := by
          have := Nat.mod_lt U (show 0 < 2 ^ 11 by decide)
          omega
        obtain ⟨tz, htz⟩ : ∃ tz : Nat, top + 1023 = (tz : Int) := ⟨(top + 1023).toNat, by omega⟩
        have htz2 : tz ≤ 2046 := by omega
        have htz1 : 1 ≤ tz := by omega
        rw [show (e + (s.log2 : Int) + 1022).toNat = tz - 1 by omega] at hnu
        obtain ⟨R, hRR⟩ : ∃ R, Hid (U % 2 ^ 11 * 2 ^ 53 = R) := ⟨_, hide rfl⟩
        obtain ⟨m, hmm⟩ : ∃ m, Hid (U / 2 ^ 11 = m) := ⟨_, hide rfl⟩
        have hm : (U : Int) / 2048 = (m : Int) := by have := hmm.out; omega
        rw [hRR.out] at hR hH hRl
        rw [hmm.out] at hH
        have hR' : IntKind.u64.wrap ((U : Int) * 9007199254740992) = (R : Int) := hR
        obtain ⟨HF, hHF⟩ : ∃ x, Hid (Flt.half U (2 ^ 11) = x) := ⟨_, hide rfl⟩
        rw [hHF.out] at hH hnu hkl hkh
        have hml : m ≤ 9007199254740992 := by split at hH <;> omega
        have hml2 : 4503599627370496 ≤ m := by have := hmm.out; omega
        have hpar : bits .and .u64 (m : Int) 1 = ((m % 2 : Nat) : Int) := and_mask m 1 (by omega) 1 (by decide) (by decide)
        clear hRR hmm hHF hUx hsh htq
        by_cases r1 : 9223372036854775808 < R
        · have r1' : (9223372036854775808 : Int) < R := by omega
          rw [if_pos (.inl r1)] at hH
          obtain ⟨q2, hq2⟩ : ∃ q2 : Nat, ((m : Int) + 1) - 4503599627370496 = (q2 : Int) := ⟨(m + 1) - 4503599627370496, by omega⟩
          have hq264 : q2 ≤ 4503599627370496 := by omega
          obtain ⟨bb, hbb⟩ : ∃ bb : Nat, (tz : Int) * 4503599627370496 + (q2 : Int) = (bb : Int) := ⟨tz * 4503599627370496 + q2, by omega⟩
          have hbb64 : bb < 9223372036854775808 := by omega
          have hor := or_sgn 9223372036854775808 bb (.inr rfl) hbb64
          rw [show 9223372036854775808 + bb = NR by omega] at hor
          have hor' : bits .or .u64 9223372036854775808 (bb : Int) = (NR : Int) := hor
          clear hor hH hnu hNR hkl hkh
          go_wp2_with fail
          go_ret
          exact ⟨rfl, rfl⟩
        have r1' : ¬ ((9223372036854775808 : Int) < R) := by omega
        by_cases r2 : R = 9223372036854775808
        · subst r2
          by_cases r3 : m % 2 = 1
          · rw [if_pos (.inr ⟨rfl, r3⟩)] at hH
            rw [r3] at hpar
            obtain ⟨q2, hq2⟩ : ∃ q2 : Nat, ((m : Int) + 1) - 4503599627370496 = (q2 : Int) := ⟨(m + 1) - 4503599627370496, by omega⟩
            have hq264 : q2 ≤ 4503599627370496 := by omega
            obtain ⟨bb, hbb⟩ : ∃ bb : Nat, (tz : Int) * 4503599627370496 + (q2 : Int) = (bb : Int) := ⟨tz * 4503599627370496 + q2, by omega⟩
            have hbb64 : bb < 9223372036854775808 := by omega
            have hor := or_sgn 9223372036854775808 bb (.inr rfl) hbb64
            rw [show 9223372036854775808 + bb = NR by omega] at hor
            have hor' : bits .or .u64 9223372036854775808 (bb : Int) = (NR : Int) := hor
            clear hor hH hnu hNR hkl hkh
            go_wp2_with fail
            go_ret
            exact ⟨rfl, rfl⟩
          · rw [if_neg (by omega), Nat.add_zero] at hH
            rw [show m % 2 = 0 by omega] at hpar
            obtain ⟨q2, hq2⟩ : ∃ q2 : Nat, ((m : Int)) - 4503599627370496 = (q2 : Int) := ⟨(m) - 4503599627370496, by omega⟩
            have hq264 : q2 ≤ 4503599627370496 := by omega
            obtain ⟨bb, hbb⟩ : ∃ bb : Nat, (tz : Int) * 4503599627370496 + (q2 : Int) = (bb : Int) := ⟨tz * 4503599627370496 + q2, by omega⟩
            have hbb64 : bb < 9223372036854775808 := by omega
            have hor := or_sgn 9223372036854775808 bb (.inr rfl) hbb64
            rw [show 9223372036854775808 + bb = NR by omega] at hor
            have hor' : bits .or .u64 9223372036854775808 (bb : Int) = (NR : Int) := hor
            clear hor hH hnu hNR hkl hkh
            go_wp2_with fail
            go_ret
            exact ⟨rfl, rfl⟩
        · have r2' : ((R : Int) == 9223372036854775808) = false := by simp; omega
          have r2'' : ¬ ((R : Int) = 9223372036854775808) := by omega
          rw [if_neg (by omega), Nat.add_zero] at hH
          obtain ⟨q2, hq2⟩ : ∃ q2 : Nat, ((m : Int)) - 4503599627370496 = (q2 : Int) := ⟨(m) - 4503599627370496, by omega⟩
          have hq264 : q2 ≤ 4503599627370496 := by omega
          obtain ⟨bb, hbb⟩ : ∃ bb : Nat, (tz : Int) * 4503599627370496 + (q2 : Int) = (bb : Int) := ⟨tz * 4503599627370496 + q2, by omega⟩
          have hbb64 : bb < 9223372036854775808 := by omega
          have hor := or_sgn 9223372036854775808 bb (.inr rfl) hbb64
          rw [show 9223372036854775808 + bb = NR by omega] at hor
          have hor' : bits .or .u64 9223372036854775808 (bb : Int) = (NR : Int) := hor
          clear hor hH hnu hNR hkl hkh
          go_wp2_with fail
          go_ret
          exact ⟨rfl, rfl⟩
  · rw [if_neg (by simpa using hm)]
    have hw1 : m0 = (s : Int) := by omega
    subst hw1
    obtain ⟨NR, hNR⟩ : ∃ NR, 0 + Flt.near s e = NR := ⟨_, rfl⟩
    rw [hNR]
    clear hs0
    have horI : bits .or .u64 0 9218868437227405312 = 9218868437227405312 := by decide
    have hffI : ∀ w : World, (callFunc 48 #[.int .u64 9218868437227405312]).run Tryd.prog w = .ok (.value (.float .f64 9218868437227405312)) w := run_f64from 9218868437227405312
    have hffS : ∀ w : World, (callFunc 48 #[.int .u64 0]).run Tryd.prog w = .ok (.value (.float .f64 0)) w := run_f64from 0
    go_enter Tryd.func35, Tryd.ntmps35
    go_wp2_with fail
    go_loopw [6, 7] (fun v u wr => ∃ i : Nat, i ≤ K ∧ v = .int .u64 ((s * 2 ^ i : Nat) : Int) ∧ u = .int .i64 (i : Int) ∧ wr = w) (fun _ u _ => K - (intOf u).toNat)
    case atStart => exact ⟨0, by omega, congrArg (Value.int .u64) (by simp), rfl, by first | rfl | trivial⟩
    case round =>
      obtain ⟨i, hi, rfl, rfl, rfl⟩ := hrel
      by_cases hlt : i < K
      · have hx := HX.out i hlt
        obtain ⟨x, hxx⟩ : ∃ x, Hid (s * 2 ^ i = x) := ⟨_, hide rfl⟩
        rw [hxx.out] at hx ⊢
        have hd0 : (x : Int) / 9223372036854775808 = 0 := by omega
        have hx2 : s * 2 ^ (i + 1) = x * 2 := by rw [Nat.pow_succ, ← Nat.mul_assoc, hxx.out]
        go_wp2_with fail
        go_roundw
        case rel => exact ⟨i + 1, by omega, congrArg (Value.int .u64) (by rw [hx2]; omega), by go_num, by first | rfl | trivial⟩
        case measure => simp [intOf]; omega
      · obtain rfl : i = K := by omega
        have hUx : s * 2 ^ i = U := hU.out
        rw [hUx]
        have hdU : (U : Int) / 9223372036854775808 = 1 := by omega
        by_cases b1 : 5000 < e
        · rw [near_top s e h0 hs (by omega)] at hNR
          subst hNR
          go_wp2_with fail
          go_ret
          exact ⟨rfl, rfl⟩
        by_cases b2 : e < -5000
        · rw [near_low s e h0 (by omega)] at hNR
          subst hNR
          go_wp2_with fail
          go_ret
          exact ⟨rfl, rfl⟩
        obtain ⟨top, htop⟩ : ∃ top : Int, e - (i : Int) + 63 = top := ⟨_, rfl⟩
        have htq : top = e + (q : Int) := by have := hK.out; omega
        by_cases b3 : 1023 < top
        · rw [near_top s e h0 hs (by omega)] at hNR
          subst hNR
          clear htq
          go_wp2_with fail
          go_ret
          exact ⟨rfl, rfl⟩
        by_cases b4 : top < -1022
        · by_cases b5 : top < -1075
          · rw [near_low s e h0 (by omega)] at hNR
            subst hNR
            obtain ⟨kn, hkn⟩ : ∃ kn : Int, 53 - (-1022 - top) = kn := ⟨_, rfl⟩
            have hkn0 : kn < 0 := by omega
            clear htq
            go_wp2_with fail
            go_ret
            exact ⟨rfl, rfl⟩
          obtain ⟨kp, hkp⟩ : ∃ kp : Nat, 53 - (-1022 - top) = (kp : Int) := ⟨(53 - (-1022 - top)).toNat, by omega⟩
          have hkp52 : kp ≤ 52 := by omega
          obtain ⟨d, hd⟩ : ∃ d : Nat, (64 : Int) - kp = (d : Int) := ⟨64 - kp, by omega⟩
          obtain ⟨hnu, hkh⟩ := near_small s e h0 hs (by omega) d (by omega)
          obtain ⟨hR, hH⟩ := shift_facts U d kp (by omega)
          have hsh : s * 2 ^ (63 - s.log2) = U := by rw [← hUx]; congr 2; have := hK.out; omega
          rw [hsh] at hnu hkh
          have hm : (U : Int) / 2 ^ d = ((U / 2 ^ d : Nat) : Int) := by simp
          have hRl : U % 2 ^ d * 2 ^ kp < 18446744073709551616 := by
            rw [show 18446744073709551616 = 2 ^ d * 2 ^ kp by rw [← Nat.pow_add, show d + kp = 64 by omega]]
            exact Nat.mul_lt_mul_of_pos_right (Nat.mod_lt _ (Nat.two_pow_pos d)) (Nat.two_pow_pos kp)
          have hm0 : kp = 0 → U / 2 ^ d = 0 := fun h => by
            apply Nat.div_eq_of_lt
            rw [show d = 64 by omega]
            exact hU2
          obtain ⟨R, hRR⟩ : ∃ R, Hid (U % 2 ^ d * 2 ^ kp = R) := ⟨_, hide rfl⟩
          obtain ⟨m, hmm⟩ : ∃ m, Hid (U / 2 ^ d = m) := ⟨_, hide rfl⟩
          rw [hRR.out] at hR hH hRl
          rw [hmm.out] at hm hH hm0
          obtain ⟨HF, hHF⟩ : ∃ x, Hid (Flt.half U (2 ^ d) = x) := ⟨_, hide rfl⟩
          rw [hHF.out] at hH hnu hkh
          have hml : m ≤ 4503599627370496 := by split at hH <;> omega
          have hpar : bits .and .u64 (m : Int) 1 = ((m % 2 : Nat) : Int) := and_mask m 1 (by omega) 1 (by decide) (by decide)
          clear hmm hHF hUx hsh htq
          by_cases b6 : kp = 0
          · have hRU : R = U := by
              rw [← hRR.out, b6, show d = 64 by omega, Nat.pow_zero, Nat.mul_one]
              exact Nat.mod_eq_of_lt hU2
            have hm1 := hm0 b6
            subst b6
            subst hRU
            subst hm1
            clear hm0 hm hRR hR
            have hpar0 : bits .and .u64 0 1 = 0 := by decide
            by_cases r1 : 9223372036854775808 < R
            · have r1' : (9223372036854775808 : Int) < R := by omega
              rw [if_pos (.inl r1)] at hH
              have hor := or_sgn 0 1 (.inl rfl) (by decide)
              rw [show 0 + 1 = NR by omega] at hor
              have hor' : bits .or .u64 0 1 = (NR : Int) := hor
              clear hor hH hnu hNR hkh
              go_wp2_with fail
              go_ret
              exact ⟨rfl, rfl⟩
            have r1' : ¬ ((9223372036854775808 : Int) < R) := by omega
            obtain rfl : R = 9223372036854775808 := by omega
            rw [if_neg (by omega), Nat.add_zero] at hH
            have hor := or_sgn 0 0 (.inl rfl) (by decide)
            rw [show 0 + 0 = NR by omega] at hor
            have hor' : bits .or .u64 0 0 = (NR : Int) := hor
            clear hor hH hnu hNR hkh
            go_wp2_with fail
            go_ret
            exact ⟨rfl, rfl⟩
          clear hRR
          have b6' : (0 : Int) < kp := by omega
          clear hm0
          by_cases r1 : 9223372036854775808 < R
          · have r1' : (9223372036854775808 : Int) < R := by omega
            rw [if_pos (.inl r1)] at hH
            obtain ⟨q2, hq2⟩ : ∃ q2 : Nat, ((m : Int) + 1) = (q2 : Int) := ⟨m + 1, by omega⟩
            have hq264 : q2 < 9223372036854775808 := by omega
            have hor := or_sgn 0 q2 (.inl rfl) hq264
            rw [show 0 + q2 = NR by omega] at hor
            have hor' : bits .or .u64 0 (q2 : Int) = (NR : Int) := hor
            clear hor hH hnu hNR hkh
            go_wp2_with fail
            go_ret
            exact ⟨rfl, rfl⟩
          have r1' : ¬ ((9223372036854775808 : Int) < R) := by omega
          by_cases r2 : R = 9223372036854775808
          · subst r2
            by_cases r3 : m % 2 = 1
            · rw [if_pos (.inr ⟨rfl, r3⟩)] at hH
              rw [r3] at hpar
              obtain ⟨q2, hq2⟩ : ∃ q2 : Nat, ((m : Int) + 1) = (q2 : Int) := ⟨m + 1, by omega⟩
              have hq264 : q2 < 9223372036854775808 := by omega
              have hor := or_sgn 0 q2 (.inl rfl) hq264
              rw [show 0 + q2 = NR by omega] at hor
              have hor' : bits .or .u64 0 (q2 : Int) = (NR : Int) := hor
              clear hor hH hnu hNR hkh
              go_wp2_with fail
              go_ret
              exact ⟨rfl, rfl⟩
            · rw [if_neg (by omega), Nat.add_zero] at hH
              rw [show m % 2 = 0 by omega] at hpar
              have hor := or_sgn 0 m (.inl rfl) (by omega)
              rw [show 0 + m = NR by omega] at hor
              have hor' : bits .or .u64 0 (m : Int) = (NR : Int) := hor
              clear hor hH hnu hNR hkh
              go_wp2_with fail
              go_ret
              exact ⟨rfl, rfl⟩
          · have r2' : ((R : Int) == 9223372036854775808) = false := by simp; omega
            have r2'' : ¬ ((R : Int) = 9223372036854775808) := by omega
            rw [if_neg (by omega), Nat.add_zero] at hH
            have hor := or_sgn 0 m (.inl rfl) (by omega)
            rw [show 0 + m = NR by omega] at hor
            have hor' : bits .or .u64 0 (m : Int) = (NR : Int) := hor
            clear hor hH hnu hNR hkh
            go_wp2_with fail
            go_ret
            exact ⟨rfl, rfl⟩
        have b4' : ¬ (top < -1022) := b4
        obtain ⟨hnu, hkl, hkh⟩ := near_usual s e h0 hs (by omega) (by omega)
        obtain ⟨hR, hH⟩ := shift_facts U 11 53 (by decide)
        have hsh : s * 2 ^ (63 - s.log2) = U := by rw [← hUx]; congr 2; have := hK.out; omega
        rw [hsh] at hnu hkl hkh
        have hRl : U % 2 ^ 11 * 2 ^ 53 < 18446744073709551616 := by
          have := Nat.mod_lt U (show 0 < 2 ^ 11 by decide)
          omega
        obtain ⟨tz, htz⟩ : ∃ tz : Nat, top + 1023 = (tz : Int) := ⟨(top + 1023).toNat, by omega⟩
        have htz2 : tz ≤ 2046 := by omega
        have htz1 : 1 ≤ tz := by omega
        rw [show (e + (s.log2 : Int) + 1022).toNat = tz - 1 by omega] at hnu
        obtain ⟨R, hRR⟩ : ∃ R, Hid (U % 2 ^ 11 * 2 ^ 53 = R) := ⟨_, hide rfl⟩
        obtain ⟨m, hmm⟩ : ∃ m, Hid (U / 2 ^ 11 = m) := ⟨_, hide rfl⟩
        have hm : (U : Int) / 2048 = (m : Int) := by have := hmm.out; omega
        rw [hRR.out] at hR hH hRl
        rw [hmm.out] at hH
        have hR' : IntKind.u64.wrap ((U : Int) * 9007199254740992) = (R : Int) := hR
        obtain ⟨HF, hHF⟩ : ∃ x, Hid (Flt.half U (2 ^ 11) = x) := ⟨_, hide rfl⟩
        rw [hHF.out] at hH hnu hkl hkh
        have hml : m ≤ 9007199254740992 := by split at hH <;> omega
        have hml2 : 4503599627370496 ≤ m := by have := hmm.out; omega
        have hpar : bits .and .u64 (m : Int) 1 = ((m % 2 : Nat) : Int) := and_mask m 1 (by omega) 1 (by decide) (by decide)
        clear hRR hmm hHF hUx hsh htq
        by_cases r1 : 9223372036854775808 < R
        · have r1' : (9223372036854775808 : Int) < R := by omega
          rw [if_pos (.inl r1)] at hH
          obtain ⟨q2, hq2⟩ : ∃ q2 : Nat, ((m : Int) + 1) - 4503599627370496 = (q2 : Int) := ⟨(m + 1) - 4503599627370496, by omega⟩
          have hq264 : q2 ≤ 4503599627370496 := by omega
          obtain ⟨bb, hbb⟩ : ∃ bb : Nat, (tz : Int) * 4503599627370496 + (q2 : Int) = (bb : Int) := ⟨tz * 4503599627370496 + q2, by omega⟩
          have hbb64 : bb < 9223372036854775808 := by omega
          have hor := or_sgn 0 bb (.inl rfl) hbb64
          rw [show 0 + bb = NR by omega] at hor
          have hor' : bits .or .u64 0 (bb : Int) = (NR : Int) := hor
          clear hor hH hnu hNR hkl hkh
          go_wp2_with fail
          go_ret
          exact ⟨rfl, rfl⟩
        have r1' : ¬ ((9223372036854775808 : Int) < R) := by omega
        by_cases r2 : R = 9223372036854775808
        · subst r2
          by_cases r3 : m % 2 = 1
          · rw [if_pos (.inr ⟨rfl, r3⟩)] at hH
            rw [r3] at hpar
            obtain ⟨q2, hq2⟩ : ∃ q2 : Nat, ((m : Int) + 1) - 4503599627370496 = (q2 : Int) := ⟨(m + 1) - 4503599627370496, by omega⟩
            have hq264 : q2 ≤ 4503599627370496 := by omega
            obtain ⟨bb, hbb⟩ : ∃ bb : Nat, (tz : Int) * 4503599627370496 + (q2 : Int) = (bb : Int) := ⟨tz * 4503599627370496 + q2, by omega⟩
            have hbb64 : bb < 9223372036854775808 := by omega
            have hor := or_sgn 0 bb (.inl rfl) hbb64
            rw [show 0 + bb = NR by omega] at hor
            have hor' : bits .or .u64 0 (bb : Int) = (NR : Int) := hor
            clear hor hH hnu hNR hkl hkh
            go_wp2_with fail
            go_ret
            exact ⟨rfl, rfl⟩
          · rw [if_neg (by omega), Nat.add_zero] at hH
            rw [show m % 2 = 0 by omega] at hpar
            obtain ⟨q2, hq2⟩ : ∃ q2 : Nat, ((m : Int)) - 4503599627370496 = (q2 : Int) := ⟨(m) - 4503599627370496, by omega⟩
            have hq264 : q2 ≤ 4503599627370496 := by omega
            obtain ⟨bb, hbb⟩ : ∃ bb : Nat, (tz : Int) * 4503599627370496 + (q2 : Int) = (bb : Int) := ⟨tz * 4503599627370496 + q2, by omega⟩
            have hbb64 : bb < 9223372036854775808 := by omega
            have hor := or_sgn 0 bb (.inl rfl) hbb64
            rw [show 0 + bb = NR by omega] at hor
            have hor' : bits .or .u64 0 (bb : Int) = (NR : Int) := hor
            clear hor hH hnu hNR hkl hkh
            go_wp2_with fail
            go_ret
            exact ⟨rfl, rfl⟩
        · have r2' : ((R : Int) == 9223372036854775808) = false := by simp; omega
          have r2'' : ¬ ((R : Int) = 9223372036854775808) := by omega
          rw [if_neg (by omega), Nat.add_zero] at hH
          obtain ⟨q2, hq2⟩ : ∃ q2 : Nat, ((m : Int)) - 4503599627370496 = (q2 : Int) := ⟨(m) - 4503599627370496, by omega⟩
          have hq264 : q2 ≤ 4503599627370496 := by omega
          obtain ⟨bb, hbb⟩ : ∃ bb : Nat, (tz : Int) * 4503599627370496 + (q2 : Int) = (bb : Int) := ⟨tz * 4503599627370496 + q2, by omega⟩
          have hbb64 : bb < 9223372036854775808 := by omega
          have hor := or_sgn 0 bb (.inl rfl) hbb64
          rw [show 0 + bb = NR by omega] at hor
          have hor' : bits .or .u64 0 (bb : Int) = (NR : Int) := hor
          clear hor hH hnu hNR hkl hkh
          go_wp2_with fail
          go_ret
          exact ⟨rfl, rfl⟩
end Go.Proofs.YteeiehaebiigfaaDoor
