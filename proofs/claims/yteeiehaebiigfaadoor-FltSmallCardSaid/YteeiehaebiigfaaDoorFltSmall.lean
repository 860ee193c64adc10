/-
  The law FltSmall of package lodgelaw3, walked. By an AI agent. No person has read it.
-/
import Derived.Test.YteeiehaebiigfaaDoorFltB
import Derived.Test.YteeiehaebiigfaaDoorFltX
namespace Go.Proofs.YteeiehaebiigfaaDoor
open Go.RowKit

/-- Half of what is left of a number, so long as it is even. -/
theorem halves (s : Nat) (h0 : s ≠ 0) (hs : s < 18446744073709551616) (u : Nat) (hu : u ≤ Lib.ctz 64 s) : (s / 2 ^ u) % 2 = 0 ↔ u < Lib.ctz 64 s := by
  obtain ⟨m, hm, hk⟩ := Lib.ctzFrom_spec 64 s (by omega) hs
  have hc : Lib.ctz 64 s = Lib.ctzFrom 64 s := by unfold Lib.ctz; rw [if_neg h0]
  rw [hc] at hu ⊢
  obtain ⟨k, hkk⟩ : ∃ k, Lib.ctzFrom 64 s = k := ⟨_, rfl⟩
  rw [hkk] at hm hu ⊢
  obtain ⟨d, rfl⟩ : ∃ d, k = u + d := ⟨k - u, by omega⟩
  have hq : s / 2 ^ u = 2 ^ d * (2 * m + 1) := by
    rw [hm, Nat.pow_add, Nat.mul_assoc, Nat.mul_div_cancel_left _ (Nat.two_pow_pos u)]
  rw [hq]
  rcases d with _ | d
  · rw [Nat.pow_zero, Nat.one_mul]
    omega
  · rw [Nat.pow_succ, Nat.mul_comm (2 ^ d) 2, Nat.mul_assoc, Nat.mul_mod_right]
    simp
theorem parts_of_small (s : Nat) (h0 : s ≠ 0) (hs : s ≤ 1125899906842624) : Flt.parts s = (((s / 2 ^ Lib.ctz 64 s : Nat) : Int), -1074 + (Lib.ctz 64 s : Int), true) := by
  have he : Flt.expo s = 0 := by unfold Flt.expo; omega
  have hf : Flt.frac s = s := by unfold Flt.frac; omega
  have hn : Flt.neg s = false := by unfold Flt.neg; rw [decide_eq_false_iff_not]; omega
  have hg : Flt.sig s = s := by unfold Flt.sig; rw [if_pos he, hf]
  have hp : Flt.pe s = 0 := by unfold Flt.pe; rw [if_pos he]
  unfold Flt.parts Flt.odd
  rw [if_neg (by rw [he]; decide), hg, if_neg h0, hn, if_neg (by decide), hp]
  simp
theorem mk_of_small (s : Nat) (h0 : s ≠ 0) (hs : s ≤ 1125899906842624) : Flt.mk (s : Int) (-1074) = s := by
  unfold Flt.mk
  rw [if_neg (by omega), decide_eq_false (by omega), Int.natAbs_natCast, near_sign _ s _ h0, if_neg (by decide), Nat.zero_add, near_eq s _ h0]
  have hl : s.log2 < 51 := (Nat.log2_lt h0).2 (by omega)
  have hm : max (-1074 + (s.log2 : Int) - 52) (-1074) = -1074 := by omega
  rw [hm, show ((-1074 : Int) + 1074).toNat = 0 by decide, show ((-1074 : Int) - -1074).toNat = 0 by decide, Nat.pow_zero, Nat.mul_one, show Flt.half s 1 = s from half_one s, Nat.zero_mul, Nat.zero_add]
  exact Nat.min_eq_left (by omega)

set_option maxRecDepth 100000 in
set_option maxHeartbeats 4000000 in
theorem small_c (n : Int) (w : World) (hT : Tz w) :
    Calls Tryd.prog 12 #[.int .i64 n] w fun e w' => e = .returned (.bool true) ∧ w' = w := by
  have hff := run_f64from
  have hff1 : ∀ w : World, (callFunc 48 #[.int .u64 1]).run Tryd.prog w = .ok (.value (.float .f64 1)) w := run_f64from 1
  have H0 := hide (first_c w hT)
  have H1 := hide (number_c n 1125899906842624 (by decide) (by decide) 1125899906842624 rfl w)
  have h5 := make_c 1 (-1075) (by decide) (by decide) w
  rw [show Flt.mk 1 (-1075) = 0 by decide +kernel] at h5
  have h6 := make_c 3 (-1075) (by decide) (by decide) w
  rw [show Flt.mk 3 (-1075) = 2 by decide +kernel] at h6
  have H5 := hide h5
  have H6 := hide h6
  have hmul : ∀ w : World, (binOp .mul 22 (.float .f64 4611686018427387904) (.float .f64 1)).run Tryd.prog w = .ok (.float .f64 2) w := fun w => run_float_arith (P := Tryd.prog) w .mul 22 .f64 4611686018427387904 1 2 (by decide +kernel)
  have ho0 : FloatKind.f64.format.order 0 0 = some .eq := by decide +kernel
  have ho2 : FloatKind.f64.format.order 2 2 = some .eq := by decide +kernel
  clear h5 h6
  go_enter Tryd.func12, Tryd.ntmps12
  go_wp2_with fail
  refine H0.out.mono ?_
  rintro e w1 ⟨rfl, rfl⟩
  go_wp2_with fail
  refine H1.out.mono ?_
  rintro e w1 ⟨⟨k, hk, rfl⟩, rfl⟩
  obtain ⟨s, hs⟩ : ∃ s, s = k + 1 := ⟨_, rfl⟩
  have hsI : (k : Int) + 1 = (s : Int) := by omega
  have hs0 : s ≠ 0 := by omega
  have hsl : s ≤ 1125899906842624 := by omega
  have h2 := kind_c s (by omega) w1
  rw [show Flt.kindNo s = 4 by unfold Flt.kindNo; rw [show Flt.expo s = 0 by unfold Flt.expo; omega, show Flt.frac s = s by unfold Flt.frac; omega]; simp [hs0]] at h2
  have h3 := parts_c s (by omega) w1 hT
  rw [parts_of_small s hs0 hsl] at h3
  have h4 := make_c (s : Int) (-1074) (by omega) (by omega) w1
  rw [mk_of_small s hs0 hsl] at h4
  have h7 := less_c 0 s (by decide) (by omega) w1
  have hnn : Flt.nanb s = false := by unfold Flt.nanb; rw [decide_eq_false_iff_not]; omega
  rw [show Flt.less 0 s = true by
    unfold Flt.less Flt.rank
    rw [if_neg (by decide), if_neg (by decide), if_neg (by rw [hnn]; decide), if_neg (by omega), decide_eq_true_eq]
    omega] at h7
  have h8 := round_c s (by omega) w1
  rw [round_rround s (by omega), show Flt.rround s = 0 by
    unfold Flt.rround
    have he : Flt.expo s = 0 := by unfold Flt.expo; omega
    rw [he, if_neg (by decide), if_pos (by decide), if_neg (by unfold Flt.neg; simp; omega)]] at h8
  have hos := order_num' hnn
  have hhv := halves s hs0 (by omega)
  have hcl := (Lib.lowest_bit 64 s hs0 (by omega)).2
  obtain ⟨kg, hkg⟩ : ∃ x, Hid (Flt.kindNeg s = x) := ⟨_, hide rfl⟩
  rw [hkg.out] at h2
  obtain ⟨c, hc⟩ : ∃ c, Hid (Lib.ctz 64 s = c) := ⟨_, hide rfl⟩
  rw [hc.out] at h3 hhv hcl
  obtain ⟨od, hod⟩ : ∃ o, Hid (s / 2 ^ c = o) := ⟨_, hide rfl⟩
  rw [hod.out] at h3
  have H2 := hide h2
  have H3 := hide h3
  have H4 := hide h4
  have H7 := hide h7
  have H8 := hide h8
  have HV := hide hhv
  clear h2 h3 h4 h7 h8 hhv hs hk hnn hkg hc
  go_wp2_with fail
  refine H2.out.mono ?_
  rintro e w2 ⟨rfl, rfl⟩
  go_wp2_with fail
  refine H3.out.mono ?_
  rintro e w2 ⟨rfl, rfl⟩
  go_wp2_with fail
  go_loopw [11, 12] (fun v u wr => ∃ i o : Nat, i ≤ c ∧ Hid (s / 2 ^ i = o) ∧ v = .int .i64 o ∧ u = .int .i64 i ∧ wr = w2) (fun _ u _ => c - (intOf u).toNat)
  case atStart => exact ⟨0, s, by omega, hide (by simp), rfl, rfl, rfl⟩
  case round =>
    obtain ⟨i, o, hi, ho, rfl, rfl, rfl⟩ := hrel
    have hiff := HV.out i hi
    rw [ho.out] at hiff
    have hol : o ≤ s := by rw [← ho.out]; exact Nat.div_le_self _ _
    have ht : (o : Int).tmod 2 = ((o % 2 : Nat) : Int) := by rw [Int.tmod_eq_emod_of_nonneg (by omega)]; omega
    have hd : (o : Int).tdiv 2 = ((o / 2 : Nat) : Int) := by rw [Int.tdiv_eq_ediv_of_nonneg (by omega)]; omega
    by_cases hlt : i < c
    · rw [hiff.2 hlt] at ht
      have ht2 : (o : Int) % 2 = 0 := by have := hiff.2 hlt; omega
      clear hiff
      go_wp2_with fail
      go_roundw
      case rel =>
        refine ⟨i + 1, o / 2, by omega, hide ?_, by first | rfl | trivial, by go_num, by first | rfl | trivial⟩
        rw [Nat.pow_succ, ← Nat.div_div_eq_div_mul, ho.out]
      case measure => simp [intOf]; omega
    · obtain rfl : i = c := by omega
      obtain rfl : o = od := ho.out.symm.trans hod.out
      have ho1 : o % 2 = 1 := by
        have h : ¬ o % 2 = 0 := fun h => absurd (hiff.1 h) (Nat.lt_irrefl _)
        omega
      rw [ho1] at ht
      have ht2 : (o : Int) % 2 = 1 := by omega
      clear hiff hod
      go_wp2_with fail
      refine H4.out.mono ?_
      rintro e w3 ⟨rfl, rfl⟩
      go_wp2_with fail
      refine H5.out.mono ?_
      rintro e w3 ⟨rfl, rfl⟩
      go_wp2_with fail
      refine H6.out.mono ?_
      rintro e w3 ⟨rfl, rfl⟩
      go_wp2_with fail
      refine H7.out.mono ?_
      rintro e w3 ⟨rfl, rfl⟩
      go_wp2_with fail
      refine H8.out.mono ?_
      rintro e w3 ⟨rfl, rfl⟩
      go_wp2_with fail
      go_ret
      exact ⟨rfl, rfl⟩
end Go.Proofs.YteeiehaebiigfaaDoor
