/-
  flt.Make, walked: the nearest number. By an AI agent. No person has read it.
-/
import Derived.Test.YteeiehaebiigfaaDoorFltG
import Derived.Test.YteeiehaebiigfaaDoorFltO
namespace Go.Proofs.YteeiehaebiigfaaDoor
open Go.RowKit

theorem half_le2 (s P : Nat) : Flt.half s P ≤ s / P + 1 := by
  unfold Flt.half
  split <;> omega
theorem half_le (s P : Nat) (hP : 2 ≤ P) : Flt.half s P ≤ s / 2 + 1 := by
  unfold Flt.half
  have h : s / P ≤ s / 2 := Nat.div_le_div_left hP (by decide)
  split <;> omega
set_option maxRecDepth 100000 in
set_option maxHeartbeats 4000000 in
theorem shifted_c (s d : Nat) (hs : s < 18446744073709551616) (h1 : 1 ≤ d) (w : World) :
    Calls Tryd.prog 72 #[.int .u64 s, .int .i64 d] w fun e w' => e = .returned (.int .u64 (Flt.half s (2 ^ d) : Nat)) ∧ w' = w := by
  by_cases h64 : 64 < d
  · have d1 : (64 : Int) < d := by omega
    have hh : Flt.half s (2 ^ d) = 0 := by
      apply Flt.half_small
      have := Flt.pow_le 65 d (by omega)
      omega
    rw [hh]
    go_enter Tryd.func72, Tryd.ntmps72
    go_wp2_with fail
    go_ret
    exact ⟨rfl, rfl⟩
  have d1 : ¬ ((64 : Int) < d) := by omega
  obtain ⟨c, hc⟩ : ∃ c, c = 64 - d := ⟨_, rfl⟩
  have hcI : (64 : Int) - d = (c : Int) := by omega
  have hc64 : c ≤ 64 := by omega
  have hPC : 2 ^ d * 2 ^ c = 18446744073709551616 := by rw [← Nat.pow_add, show d + c = 64 by omega]
  have hP0 := Nat.two_pow_pos d
  have hC0 := Nat.two_pow_pos c
  have hdm := Nat.div_add_mod s (2 ^ d)
  have hlow : s % 2 ^ d < 2 ^ d := Nat.mod_lt _ hP0
  have hm : (s : Int) / 2 ^ d = ((s / 2 ^ d : Nat) : Int) := by simp
  have hR : IntKind.u64.wrap ((s : Int) * 2 ^ c) = ((s % 2 ^ d * 2 ^ c : Nat) : Int) := by
    rw [IntKind.wrap_u64]
    have e1 : (s : Int) * 2 ^ c = ((s * 2 ^ c : Nat) : Int) := by simp
    have e2 : s * 2 ^ c = 18446744073709551616 * (s / 2 ^ d) + s % 2 ^ d * 2 ^ c := by
      rw [← hPC, Nat.mul_right_comm, ← Nat.add_mul, hdm]
    have e3 : s % 2 ^ d * 2 ^ c < 18446744073709551616 := by
      rw [← hPC]
      exact Nat.mul_lt_mul_of_pos_right hlow hC0
    rw [e1, e2]
    omega
  have hc1 : 2 ^ d < 2 * (s % 2 ^ d) ↔ 9223372036854775808 < s % 2 ^ d * 2 ^ c := by
    constructor
    · intro h
      have := Nat.mul_lt_mul_of_pos_right h hC0
      rw [hPC, Nat.mul_assoc] at this
      omega
    · intro h
      apply Nat.lt_of_mul_lt_mul_right (a := 2 ^ c)
      rw [hPC, Nat.mul_assoc]
      omega
  have hc2 : 2 ^ d = 2 * (s % 2 ^ d) ↔ s % 2 ^ d * 2 ^ c = 9223372036854775808 := by
    constructor
    · intro h
      have := congrArg (· * 2 ^ c) h
      simp only [hPC, Nat.mul_assoc] at this
      omega
    · intro h
      apply Nat.eq_of_mul_eq_mul_right hC0
      rw [hPC, Nat.mul_assoc]
      omega
  have hm64 : s / 2 ^ d < 18446744073709551615 := by
    have : s / 2 ^ d ≤ s / 2 := Nat.div_le_div_left (by have := Flt.pow_le 1 d h1; omega) (by decide)
    omega
  unfold Flt.half
  simp only [hc1, hc2]
  obtain ⟨R, hRR⟩ : ∃ R, Hid (s % 2 ^ d * 2 ^ c = R) := ⟨_, hide rfl⟩
  obtain ⟨m, hmm⟩ : ∃ m, Hid (s / 2 ^ d = m) := ⟨_, hide rfl⟩
  rw [hRR.out] at hR ⊢
  rw [hmm.out] at hm hm64 ⊢
  have ht' : ((m : Int) % 2 == 1) = decide (m % 2 = 1) := by
    rw [Bool.eq_iff_iff, beq_iff_eq, decide_eq_true_eq]
    omega
  have ht : ((m : Int).tmod 2 == 1) = decide (m % 2 = 1) := by
    rw [Int.tmod_eq_emod_of_nonneg (by omega)]
    exact ht'
  clear hc1 hc2 hdm hlow hPC hP0 hC0 hRR hmm hc
  by_cases r1 : 9223372036854775808 < R
  · have r1' : (9223372036854775808 : Int) < R := by omega
    rw [if_pos (.inl r1)]
    go_enter Tryd.func72, Tryd.ntmps72
    go_wp2_with fail
    go_ret
    exact ⟨rfl, rfl⟩
  have r1' : ¬ ((9223372036854775808 : Int) < R) := by omega
  by_cases r2 : R = 9223372036854775808
  · subst r2
    by_cases r3 : m % 2 = 1
    · rw [decide_eq_true r3] at ht ht'
      rw [if_pos (.inr ⟨rfl, r3⟩)]
      clear r3
      go_enter Tryd.func72, Tryd.ntmps72
      go_wp2_with fail
      go_ret
      exact ⟨rfl, rfl⟩
    · rw [decide_eq_false r3] at ht ht'
      rw [if_neg (by omega), Nat.add_zero]
      clear r3
      go_enter Tryd.func72, Tryd.ntmps72
      go_wp2_with fail
      go_ret
      exact ⟨rfl, rfl⟩
  · have r2' : ((R : Int) == 9223372036854775808) = false := by simp; omega
    have r2'' : ¬ ((R : Int) = 9223372036854775808) := by omega
    rw [if_neg (by omega), Nat.add_zero]
    clear ht ht'
    go_enter Tryd.func72, Tryd.ntmps72
    go_wp2_with fail
    go_ret
    exact ⟨rfl, rfl⟩

/-- The word of s times 2^e, without a sign. -/
def Flt.near (s : Nat) (e : Int) : Nat := Ieee.double.nearest false s e
theorem near_eq (s : Nat) (e : Int) (h0 : s ≠ 0) : Flt.near s e = min ((max (e + s.log2 - 52) (-1074) + 1074).toNat * 4503599627370496 + Flt.half (s * 2 ^ (e - max (e + s.log2 - 52) (-1074)).toNat) (2 ^ (max (e + s.log2 - 52) (-1074) - e).toNat)) 9218868437227405312 := by
  unfold Flt.near Ieee.Format.nearest
  rw [if_neg h0, Flt.lp, Flt.bn, Flt.ir, Flt.word_eq]
  have hf : Ieee.double.fractionBits = 52 := rfl
  rw [hf, Flt.cut_even, Nat.shiftLeft_eq]
  simp only [Bool.false_eq_true, if_false, Nat.zero_add]
  rfl
theorem half_one (s : Nat) : Flt.half s (2 ^ 0) = s := by
  unfold Flt.half
  rw [Nat.pow_zero, Nat.div_one, Nat.mod_one, if_neg (by omega), Nat.add_zero]
set_option maxRecDepth 100000 in
set_option maxHeartbeats 4000000 in
theorem nearest_c (s : Nat) (e : Int) (h0 : s ≠ 0) (hs : s < 18446744073709551616) (w : World) :
    Calls Tryd.prog 64 #[.int .u64 s, .int .i64 e] w fun e' w' => e' = .returned (.int .u64 (Flt.near s e : Nat)) ∧ w' = w := by
  have hl64 : s.log2 < 64 := (Nat.log2_lt h0).2 hs
  have hsp := near_eq s e h0
  by_cases e1 : 1200 < e
  · have hv : Flt.near s e = 9218868437227405312 := by
      rw [hsp]
      apply Nat.min_eq_right
      have h1 : 2222 ≤ (max (e + s.log2 - 52) (-1074) + 1074).toNat := by omega
      have h2 := Nat.mul_le_mul_right 4503599627370496 h1
      omega
    rw [hv]
    go_enter Tryd.func64, Tryd.ntmps64
    go_wp2_with fail
    go_ret
    exact ⟨rfl, rfl⟩
  by_cases e2 : e < -1200
  · have hv : Flt.near s e = 0 := by
      have hm : max (e + s.log2 - 52) (-1074) = -1074 := by omega
      have h1 : 65 ≤ (-1074 - e).toNat := by omega
      have h2 := Flt.pow_le 65 _ h1
      rw [hsp, hm, show (e - -1074).toNat = 0 by omega, Nat.pow_zero, Nat.mul_one, Flt.half_small (by omega)]
      decide
    rw [hv]
    go_enter Tryd.func64, Tryd.ntmps64
    go_wp2_with fail
    go_ret
    exact ⟨rfl, rfl⟩
  have HL := hide (len64_c s h0 hs w)
  obtain ⟨L, hL⟩ : ∃ L, s.log2 + 1 = L := ⟨_, rfl⟩
  rw [hL] at HL
  have hlo : 2 ^ s.log2 ≤ s := Nat.log2_self_le h0
  have hhi : s < 2 ^ (s.log2 + 1) := Nat.lt_log2_self
  obtain ⟨la, hla⟩ : ∃ la : Int, (L : Int) + e - 52 - 1 = la := ⟨_, rfl⟩
  rw [show e + (s.log2 : Int) - 52 = la by omega] at hsp
  rcases Int.lt_trichotomy la (-1074) with hc | hc | hc
  · rw [Int.max_eq_right (by omega)] at hsp
    rw [show ((-1074 : Int) + 1074).toNat = 0 by decide] at hsp
    by_cases hle : -1074 ≤ e
    · obtain ⟨dn, hdn⟩ : ∃ dn : Nat, e + 1074 = (dn : Int) := ⟨(e + 1074).toNat, by omega⟩
      have hdnx : e - -1074 = (dn : Int) := by omega
      have hdn64 : dn ≤ 52 - s.log2 := by omega
      have hm53 : s * 2 ^ dn < 9007199254740992 := by
        have h1 : s * 2 ^ dn < 2 ^ (s.log2 + 1) * 2 ^ dn := Nat.mul_lt_mul_of_pos_right hhi (Nat.two_pow_pos _)
        rw [← Nat.pow_add] at h1
        have h2 := Flt.pow_le (s.log2 + 1 + dn) 53 (by omega)
        omega
      have hw : IntKind.u64.wrap ((s : Int) * 2 ^ dn) = ((s * 2 ^ dn : Nat) : Int) := by
        rw [IntKind.wrap_u64, show (s : Int) * 2 ^ dn = ((s * 2 ^ dn : Nat) : Int) by simp]
        omega
      rw [show (e - -1074).toNat = dn by omega, show (-1074 - e).toNat = 0 by omega, half_one] at hsp
      have hdn65 : dn ≤ 64 := by omega
      obtain ⟨m, hm⟩ : ∃ m, Hid (s * 2 ^ dn = m) := ⟨_, hide rfl⟩
      rw [hm.out] at hw hsp hm53
      obtain ⟨b, hb⟩ : ∃ b, Hid (0 * 4503599627370496 + m = b) := ⟨_, hide rfl⟩
      have hb' := hb.out
      have hbs : (m : Int) = (b : Int) := by omega
      rw [hb.out] at hsp
      have hb64 : b < 18446744073709551616 := by omega
      clear hm hb hb' hdn64 hlo hhi hL h0
      by_cases hb : b ≤ 9218868437227405312
      · have hbI : (b : Int) ≤ 9218868437227405312 := by omega
        rw [Nat.min_eq_left (by omega)] at hsp
        rw [hsp]
        go_enter Tryd.func64, Tryd.ntmps64
        go_wp2_with fail
        refine HL.out.mono ?_
        rintro e w1 ⟨rfl, rfl⟩
        go_wp2_with fail
        go_ret
        exact ⟨rfl, rfl⟩
      · have hbI : (9218868437227405312 : Int) < b := by omega
        rw [Nat.min_eq_right (by omega)] at hsp
        rw [hsp]
        go_enter Tryd.func64, Tryd.ntmps64
        go_wp2_with fail
        refine HL.out.mono ?_
        rintro e w1 ⟨rfl, rfl⟩
        go_wp2_with fail
        go_ret
        exact ⟨rfl, rfl⟩
    · obtain ⟨dn, hdn⟩ : ∃ dn : Nat, -1074 - e = (dn : Int) := ⟨(-1074 - e).toNat, by omega⟩
      have hs0 := shifted_c s dn hs (by omega) w
      rw [show (e - -1074).toNat = 0 by omega, show (-1074 - e).toNat = dn by omega, Nat.pow_zero, Nat.mul_one] at hsp
      have hm53 : Flt.half s (2 ^ dn) ≤ 9223372036854775808 := Nat.le_trans (half_le s _ (by have := Flt.pow_le 1 dn (by omega); omega)) (by omega)
      obtain ⟨m, hm⟩ : ∃ m, Hid (Flt.half s (2 ^ dn) = m) := ⟨_, hide rfl⟩
      rw [hm.out] at hs0 hsp hm53
      have HS := hide hs0
      obtain ⟨b, hb⟩ : ∃ b, Hid (0 * 4503599627370496 + m = b) := ⟨_, hide rfl⟩
      have hb' := hb.out
      have hbs : (m : Int) = (b : Int) := by omega
      rw [hb.out] at hsp
      have hb64 : b < 18446744073709551616 := by omega
      clear hm hb hb' hs0 hlo hhi hL h0
      by_cases hb : b ≤ 9218868437227405312
      · have hbI : (b : Int) ≤ 9218868437227405312 := by omega
        rw [Nat.min_eq_left (by omega)] at hsp
        rw [hsp]
        go_enter Tryd.func64, Tryd.ntmps64
        go_wp2_with fail
        refine HL.out.mono ?_
        rintro e w1 ⟨rfl, rfl⟩
        go_wp2_with fail
        refine HS.out.mono ?_
        rintro e w1 ⟨rfl, rfl⟩
        go_wp2_with fail
        go_ret
        exact ⟨rfl, rfl⟩
      · have hbI : (9218868437227405312 : Int) < b := by omega
        rw [Nat.min_eq_right (by omega)] at hsp
        rw [hsp]
        go_enter Tryd.func64, Tryd.ntmps64
        go_wp2_with fail
        refine HL.out.mono ?_
        rintro e w1 ⟨rfl, rfl⟩
        go_wp2_with fail
        refine HS.out.mono ?_
        rintro e w1 ⟨rfl, rfl⟩
        go_wp2_with fail
        go_ret
        exact ⟨rfl, rfl⟩
  · subst hc
    rw [Int.max_self] at hsp
    rw [show ((-1074 : Int) + 1074).toNat = 0 by decide] at hsp
    by_cases hle : -1074 ≤ e
    · obtain ⟨dn, hdn⟩ : ∃ dn : Nat, e + 1074 = (dn : Int) := ⟨(e + 1074).toNat, by omega⟩
      have hdnx : e - -1074 = (dn : Int) := by omega
      have hdn64 : dn ≤ 52 - s.log2 := by omega
      have hm53 : s * 2 ^ dn < 9007199254740992 := by
        have h1 : s * 2 ^ dn < 2 ^ (s.log2 + 1) * 2 ^ dn := Nat.mul_lt_mul_of_pos_right hhi (Nat.two_pow_pos _)
        rw [← Nat.pow_add] at h1
        have h2 := Flt.pow_le (s.log2 + 1 + dn) 53 (by omega)
        omega
      have hw : IntKind.u64.wrap ((s : Int) * 2 ^ dn) = ((s * 2 ^ dn : Nat) : Int) := by
        rw [IntKind.wrap_u64, show (s : Int) * 2 ^ dn = ((s * 2 ^ dn : Nat) : Int) by simp]
        omega
      rw [show (e - -1074).toNat = dn by omega, show (-1074 - e).toNat = 0 by omega, half_one] at hsp
      have hdn65 : dn ≤ 64 := by omega
      obtain ⟨m, hm⟩ : ∃ m, Hid (s * 2 ^ dn = m) := ⟨_, hide rfl⟩
      rw [hm.out] at hw hsp hm53
      obtain ⟨b, hb⟩ : ∃ b, Hid (0 * 4503599627370496 + m = b) := ⟨_, hide rfl⟩
      have hb' := hb.out
      have hbs : (m : Int) = (b : Int) := by omega
      rw [hb.out] at hsp
      have hb64 : b < 18446744073709551616 := by omega
      clear hm hb hb' hdn64 hlo hhi hL h0
      by_cases hb : b ≤ 9218868437227405312
      · have hbI : (b : Int) ≤ 9218868437227405312 := by omega
        rw [Nat.min_eq_left (by omega)] at hsp
        rw [hsp]
        go_enter Tryd.func64, Tryd.ntmps64
        go_wp2_with fail
        refine HL.out.mono ?_
        rintro e w1 ⟨rfl, rfl⟩
        go_wp2_with fail
        go_ret
        exact ⟨rfl, rfl⟩
      · have hbI : (9218868437227405312 : Int) < b := by omega
        rw [Nat.min_eq_right (by omega)] at hsp
        rw [hsp]
        go_enter Tryd.func64, Tryd.ntmps64
        go_wp2_with fail
        refine HL.out.mono ?_
        rintro e w1 ⟨rfl, rfl⟩
        go_wp2_with fail
        go_ret
        exact ⟨rfl, rfl⟩
    · obtain ⟨dn, hdn⟩ : ∃ dn : Nat, -1074 - e = (dn : Int) := ⟨(-1074 - e).toNat, by omega⟩
      have hs0 := shifted_c s dn hs (by omega) w
      rw [show (e - -1074).toNat = 0 by omega, show (-1074 - e).toNat = dn by omega, Nat.pow_zero, Nat.mul_one] at hsp
      have hm53 : Flt.half s (2 ^ dn) ≤ 9223372036854775808 := Nat.le_trans (half_le s _ (by have := Flt.pow_le 1 dn (by omega); omega)) (by omega)
      obtain ⟨m, hm⟩ : ∃ m, Hid (Flt.half s (2 ^ dn) = m) := ⟨_, hide rfl⟩
      rw [hm.out] at hs0 hsp hm53
      have HS := hide hs0
      obtain ⟨b, hb⟩ : ∃ b, Hid (0 * 4503599627370496 + m = b) := ⟨_, hide rfl⟩
      have hb' := hb.out
      have hbs : (m : Int) = (b : Int) := by omega
      rw [hb.out] at hsp
      have hb64 : b < 18446744073709551616 := by omega
      clear hm hb hb' hs0 hlo hhi hL h0
      by_cases hb : b ≤ 9218868437227405312
      · have hbI : (b : Int) ≤ 9218868437227405312 := by omega
        rw [Nat.min_eq_left (by omega)] at hsp
        rw [hsp]
        go_enter Tryd.func64, Tryd.ntmps64
        go_wp2_with fail
        refine HL.out.mono ?_
        rintro e w1 ⟨rfl, rfl⟩
        go_wp2_with fail
        refine HS.out.mono ?_
        rintro e w1 ⟨rfl, rfl⟩
        go_wp2_with fail
        go_ret
        exact ⟨rfl, rfl⟩
      · have hbI : (9218868437227405312 : Int) < b := by omega
        rw [Nat.min_eq_right (by omega)] at hsp
        rw [hsp]
        go_enter Tryd.func64, Tryd.ntmps64
        go_wp2_with fail
        refine HL.out.mono ?_
        rintro e w1 ⟨rfl, rfl⟩
        go_wp2_with fail
        refine HS.out.mono ?_
        rintro e w1 ⟨rfl, rfl⟩
        go_wp2_with fail
        go_ret
        exact ⟨rfl, rfl⟩
  · rw [Int.max_eq_left (by omega)] at hsp
    obtain ⟨lz, hlz⟩ : ∃ lz : Nat, (la + 1074) = (lz : Int) := ⟨(la + 1074).toNat, by omega⟩
    have hlz2 : lz ≤ 2300 := by omega
    rw [show (la + 1074).toNat = lz by omega] at hsp
    by_cases hle : la ≤ e
    · obtain ⟨dn, hdn⟩ : ∃ dn : Nat, e - la = (dn : Int) := ⟨(e - la).toNat, by omega⟩
      have hdn64 : dn ≤ 52 - s.log2 := by omega
      have hm53 : s * 2 ^ dn < 9007199254740992 := by
        have h1 : s * 2 ^ dn < 2 ^ (s.log2 + 1) * 2 ^ dn := Nat.mul_lt_mul_of_pos_right hhi (Nat.two_pow_pos _)
        rw [← Nat.pow_add] at h1
        have h2 := Flt.pow_le (s.log2 + 1 + dn) 53 (by omega)
        omega
      have hw : IntKind.u64.wrap ((s : Int) * 2 ^ dn) = ((s * 2 ^ dn : Nat) : Int) := by
        rw [IntKind.wrap_u64, show (s : Int) * 2 ^ dn = ((s * 2 ^ dn : Nat) : Int) by simp]
        omega
      rw [show (e - la).toNat = dn by omega, show (la - e).toNat = 0 by omega, half_one] at hsp
      have hdn65 : dn ≤ 64 := by omega
      obtain ⟨m, hm⟩ : ∃ m, Hid (s * 2 ^ dn = m) := ⟨_, hide rfl⟩
      rw [hm.out] at hw hsp hm53
      obtain ⟨b, hb⟩ : ∃ b, Hid (lz * 4503599627370496 + m = b) := ⟨_, hide rfl⟩
      have hb' := hb.out
      have hbs : (lz : Int) * 4503599627370496 + (m : Int) = (b : Int) := by omega
      rw [hb.out] at hsp
      have hb64 : b < 18446744073709551616 := by omega
      clear hm hb hb' hdn64 hlo hhi hL h0
      by_cases hb : b ≤ 9218868437227405312
      · have hbI : (b : Int) ≤ 9218868437227405312 := by omega
        rw [Nat.min_eq_left (by omega)] at hsp
        rw [hsp]
        go_enter Tryd.func64, Tryd.ntmps64
        go_wp2_with fail
        refine HL.out.mono ?_
        rintro e w1 ⟨rfl, rfl⟩
        go_wp2_with fail
        go_ret
        exact ⟨rfl, rfl⟩
      · have hbI : (9218868437227405312 : Int) < b := by omega
        rw [Nat.min_eq_right (by omega)] at hsp
        rw [hsp]
        go_enter Tryd.func64, Tryd.ntmps64
        go_wp2_with fail
        refine HL.out.mono ?_
        rintro e w1 ⟨rfl, rfl⟩
        go_wp2_with fail
        go_ret
        exact ⟨rfl, rfl⟩
    · obtain ⟨dn, hdn⟩ : ∃ dn : Nat, la - e = (dn : Int) := ⟨(la - e).toNat, by omega⟩
      have hs0 := shifted_c s dn hs (by omega) w
      rw [show (e - la).toNat = 0 by omega, show (la - e).toNat = dn by omega, Nat.pow_zero, Nat.mul_one] at hsp
      have hm53 : Flt.half s (2 ^ dn) ≤ 9007199254740992 := by
        have h1 := half_le2 s (2 ^ dn)
        have h2 : s / 2 ^ dn < 2 ^ 53 := by
          apply Nat.div_lt_of_lt_mul
          rw [← Nat.pow_add, show dn + 53 = s.log2 + 1 by omega]
          exact hhi
        omega
      obtain ⟨m, hm⟩ : ∃ m, Hid (Flt.half s (2 ^ dn) = m) := ⟨_, hide rfl⟩
      rw [hm.out] at hs0 hsp hm53
      have HS := hide hs0
      obtain ⟨b, hb⟩ : ∃ b, Hid (lz * 4503599627370496 + m = b) := ⟨_, hide rfl⟩
      have hb' := hb.out
      have hbs : (lz : Int) * 4503599627370496 + (m : Int) = (b : Int) := by omega
      rw [hb.out] at hsp
      have hb64 : b < 18446744073709551616 := by omega
      clear hm hb hb' hs0 hlo hhi hL h0
      by_cases hb : b ≤ 9218868437227405312
      · have hbI : (b : Int) ≤ 9218868437227405312 := by omega
        rw [Nat.min_eq_left (by omega)] at hsp
        rw [hsp]
        go_enter Tryd.func64, Tryd.ntmps64
        go_wp2_with fail
        refine HL.out.mono ?_
        rintro e w1 ⟨rfl, rfl⟩
        go_wp2_with fail
        refine HS.out.mono ?_
        rintro e w1 ⟨rfl, rfl⟩
        go_wp2_with fail
        go_ret
        exact ⟨rfl, rfl⟩
      · have hbI : (9218868437227405312 : Int) < b := by omega
        rw [Nat.min_eq_right (by omega)] at hsp
        rw [hsp]
        go_enter Tryd.func64, Tryd.ntmps64
        go_wp2_with fail
        refine HL.out.mono ?_
        rintro e w1 ⟨rfl, rfl⟩
        go_wp2_with fail
        refine HS.out.mono ?_
        rintro e w1 ⟨rfl, rfl⟩
        go_wp2_with fail
        go_ret
        exact ⟨rfl, rfl⟩
end Go.Proofs.YteeiehaebiigfaaDoor
