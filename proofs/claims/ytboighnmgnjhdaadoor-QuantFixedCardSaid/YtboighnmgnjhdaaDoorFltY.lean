/-
  The reference's Parts, walked. By an AI agent. No person has read it.
-/
import Derived.Test.YtboighnmgnjhdaaDoorFltNr
namespace Go.Proofs.YtboighnmgnjhdaaDoor
open Go.RowKit

theorem or52_i64 (f : Nat) (hf : f < 4503599627370496) : bits .or .i64 (f : Int) 4503599627370496 = ((f + 4503599627370496 : Nat) : Int) := by
  have e1 : bits .or .i64 (f : Int) 4503599627370496 = IntKind.i64.wrap (((BitVec.ofInt 64 (f : Int)) ||| (BitVec.ofInt 64 4503599627370496)).toNat : Int) := rfl
  have e2 : (BitVec.ofInt 64 4503599627370496).toNat = 4503599627370496 := by decide
  have h1 := Nat.two_pow_add_eq_or_of_lt (b := f) (i := 52) (by omega) 1
  have h2 : f ||| 4503599627370496 = f + 4503599627370496 := by
    rw [Nat.or_comm, Nat.add_comm]
    exact h1.symm
  rw [e1, BitVec.toNat_or, e2, BitVec.toNat_ofInt, show ((f : Int) % ((2 ^ 64 : Nat) : Int)).toNat = f by omega, h2, IntKind.wrap_i64]
  omega
/-- Half of what is left of a number, so long as it is even. -/
theorem halves' (s : Nat) (h0 : s ≠ 0) (hs : s < 18446744073709551616) (u : Nat) (hu : u ≤ Lib.ctz 64 s) : (s / 2 ^ u) % 2 = 0 ↔ u < Lib.ctz 64 s := by
  obtain ⟨m, hm, hk⟩ := Lib.ctzFrom_spec 64 s (by omega) hs
  have hc : Lib.ctz 64 s = Lib.ctzFrom 64 s := by unfold Lib.ctz; rw [if_neg h0]
  rw [hc] at hu ⊢
  obtain ⟨k, hkk⟩ : ∃ k, Lib.ctzFrom 64 s = k := ⟨_, rfl⟩
  rw [hkk] at hm hu ⊢
  obtain ⟨d, rfl⟩ : ∃ d, k = u + d := ⟨k - u, by omega⟩
  have hq : s / 2 ^ u = 2 ^ d * (2 * m + 1) := by
    rw [hm, Nat.pow_add, Nat.mul_assoc, Nat.mul_div_cancel_left _ (Nat.two_pow_pos u)]
  rw [hq]
  rcases d with _ | d
  · rw [Nat.pow_zero, Nat.one_mul]
    omega
  · rw [Nat.pow_succ, Nat.mul_comm (2 ^ d) 2, Nat.mul_assoc, Nat.mul_mod_right]
    simp

set_option maxRecDepth 100000 in
set_option maxHeartbeats 4000000 in
theorem refparts_c (b : Nat) (hb : b < 18446744073709551616) (w : World) :
    Calls Tryd.prog 71 #[.float .f64 b] w fun e w' => e = .returned (.tuple #[.int .i64 (Flt.parts b).1, .int .i64 (Flt.parts b).2.1, .bool (Flt.parts b).2.2]) ∧ w' = w := by
  have hfb := run_f64bits
  have h1 := expo_and b hb
  have h2 := frac_and b hb
  have h3 := neg_div b hb
  have hel := expo_lt b
  have hfl := frac_lt b
  have h4 := or52_i64 (Flt.frac b) hfl
  by_cases c1 : Flt.expo b = 2047
  · have hp : Flt.parts b = (0, 0, false) := by unfold Flt.parts; rw [if_pos c1]
    rw [hp]
    rw [c1] at h1
    obtain ⟨fr, hfr⟩ : ∃ x, Hid (Flt.frac b = x) := ⟨_, hide rfl⟩
    rw [hfr.out] at h2 h4 hfl
    clear hp c1 h3
    go_enter Tryd.func71, Tryd.ntmps71
    go_wp2_with fail
    go_ret3
    exact ⟨rfl, rfl⟩
  by_cases c2 : Flt.sig b = 0
  · have hp : Flt.parts b = (0, 0, true) := by unfold Flt.parts; rw [if_neg c1, if_pos c2]
    have he : Flt.expo b = 0 := by
      unfold Flt.sig at c2
      split at c2
      · assumption
      · omega
    have hf : Flt.frac b = 0 := by
      unfold Flt.sig at c2
      rw [if_pos he] at c2
      exact c2
    rw [hp]
    rw [he] at h1
    rw [hf] at h2
    clear hp c1 h3 h4 c2 hel hfl
    go_enter Tryd.func71, Tryd.ntmps71
    go_wp2_with fail
    go_ret3
    exact ⟨rfl, rfl⟩
  have hp : Flt.parts b = ((if Flt.neg b = true then -(Flt.odd b : Int) else Flt.odd b), -1074 + (Flt.pe b : Int) + (Lib.ctz 64 (Flt.sig b) : Int), true) := by
    unfold Flt.parts
    rw [if_neg c1, if_neg c2]
  rw [hp]
  have hsl := sig_lt b
  have hhv := halves' (Flt.sig b) c2 (by omega)
  have hcl := (Lib.lowest_bit 64 (Flt.sig b) c2 (by omega)).2
  have hod : Flt.odd b = Flt.sig b / 2 ^ Lib.ctz 64 (Flt.sig b) := rfl
  have hpl : Flt.pe b < 2048 := by unfold Flt.pe; split <;> omega
  have hse : (Flt.expo b = 0 ∧ Flt.sig b = Flt.frac b ∧ Flt.pe b = 0) ∨ (Flt.expo b ≠ 0 ∧ Flt.sig b = Flt.frac b + 4503599627370496 ∧ Flt.pe b + 1 = Flt.expo b) := by
    unfold Flt.sig Flt.pe
    by_cases h : Flt.expo b = 0
    · rw [if_pos h, if_pos h]; exact .inl ⟨h, rfl, rfl⟩
    · rw [if_neg h, if_neg h]; exact .inr ⟨h, rfl, by omega⟩
  clear hp
  obtain ⟨ex, hex⟩ : ∃ x, Hid (Flt.expo b = x) := ⟨_, hide rfl⟩
  obtain ⟨fr, hfr⟩ : ∃ x, Hid (Flt.frac b = x) := ⟨_, hide rfl⟩
  obtain ⟨ng, hng⟩ : ∃ x, Hid (Flt.neg b = x) := ⟨_, hide rfl⟩
  obtain ⟨sg, hsg⟩ : ∃ x, Hid (Flt.sig b = x) := ⟨_, hide rfl⟩
  obtain ⟨od, hodd⟩ : ∃ x, Hid (Flt.odd b = x) := ⟨_, hide rfl⟩
  obtain ⟨pe, hpp⟩ : ∃ x, Hid (Flt.pe b = x) := ⟨_, hide rfl⟩
  rw [hsg.out] at hsl hhv hcl hod hse c2 ⊢
  obtain ⟨c, hc⟩ : ∃ x, Hid (Lib.ctz 64 sg = x) := ⟨_, hide rfl⟩
  rw [hc.out] at hhv hcl hod ⊢
  rw [hodd.out] at hod ⊢
  rw [hpp.out] at hpl hse ⊢
  rw [hex.out] at h1 hel c1 hse
  rw [hfr.out] at h2 h4 hfl hse
  rw [hng.out] at h3 ⊢
  have HV := hide hhv
  have HOD := hide hod
  clear hhv hod hc hodd hpp hex hfr hng hsg
  have L : ∀ i o : Nat, i ≤ c → sg / 2 ^ i = o → o ≤ sg := fun i o _ h => by rw [← h]; exact Nat.div_le_self _ _
  have LL := hide L
  clear L
  rcases hse with ⟨rfl, rfl, rfl⟩ | ⟨e0, e1, e2⟩
  · cases ng
    all_goals
      go_enter Tryd.func71, Tryd.ntmps71
      go_wp2_with fail
      go_loopw [6, 7] (fun v u wr => ∃ i o : Nat, i ≤ c ∧ Hid (sg / 2 ^ i = o) ∧ v = .int .i64 (-1074 + ((0 : Nat) : Int) + (i : Int)) ∧ u = .int .i64 o ∧ wr = w) (fun v _ _ => c - (intOf v + 1074 - ((0 : Nat) : Int)).toNat)
      case atStart => exact ⟨0, sg, by omega, hide (by simp), congrArg (Value.int .i64) (by omega), rfl, by first | rfl | trivial⟩
      case round =>
        obtain ⟨i, o, hi, ho, rfl, rfl, rfl⟩ := hrel
        have hiff := HV.out i hi
        rw [ho.out] at hiff
        have hol := LL.out i o hi ho.out
        have ht : (o : Int).tmod 2 = ((o % 2 : Nat) : Int) := by rw [Int.tmod_eq_emod_of_nonneg (by omega)]; omega
        have hd : (o : Int).tdiv 2 = ((o / 2 : Nat) : Int) := by rw [Int.tdiv_eq_ediv_of_nonneg (by omega)]; omega
        by_cases hlt : i < c
        · rw [hiff.2 hlt] at ht
          have ht2 : (o : Int) % 2 = 0 := by have := hiff.2 hlt; omega
          clear hiff
          go_wp2_with fail
          go_roundw
          case rel =>
            refine ⟨i + 1, o / 2, by omega, hide ?_, congrArg (Value.int .i64) (by omega), by first | rfl | trivial, by first | rfl | trivial⟩
            rw [Nat.pow_succ, ← Nat.div_div_eq_div_mul, ho.out]
          case measure => simp [intOf]; omega
        · obtain rfl : i = c := by omega
          obtain rfl : o = od := ho.out.symm.trans HOD.out.symm
          have ho1 : o % 2 = 1 := by
            have h : ¬ o % 2 = 0 := fun h => absurd (hiff.1 h) (Nat.lt_irrefl _)
            omega
          rw [ho1] at ht
          have ht2 : (o : Int) % 2 = 1 := by omega
          clear hiff HOD
          go_wp2_with fail
          go_ret3
          exact ⟨by first | rfl | simp, by first | rfl | trivial⟩
  · rw [← e1] at h4
    have e3 : (ex : Int) - 1075 = (pe : Int) - 1074 := by omega
    have e4 : ¬ ((ex : Int) = 0) := by omega
    have e5 : ((ex : Int) == 0) = false := by simp; omega
    clear e1
    cases ng
    all_goals
      go_enter Tryd.func71, Tryd.ntmps71
      go_wp2_with fail
      go_loopw [6, 7] (fun v u wr => ∃ i o : Nat, i ≤ c ∧ Hid (sg / 2 ^ i = o) ∧ v = .int .i64 (-1074 + (pe : Int) + (i : Int)) ∧ u = .int .i64 o ∧ wr = w) (fun v _ _ => c - (intOf v + 1074 - (pe : Int)).toNat)
      case atStart => exact ⟨0, sg, by omega, hide (by simp), congrArg (Value.int .i64) (by omega), rfl, by first | rfl | trivial⟩
      case round =>
        obtain ⟨i, o, hi, ho, rfl, rfl, rfl⟩ := hrel
        have hiff := HV.out i hi
        rw [ho.out] at hiff
        have hol := LL.out i o hi ho.out
        have ht : (o : Int).tmod 2 = ((o % 2 : Nat) : Int) := by rw [Int.tmod_eq_emod_of_nonneg (by omega)]; omega
        have hd : (o : Int).tdiv 2 = ((o / 2 : Nat) : Int) := by rw [Int.tdiv_eq_ediv_of_nonneg (by omega)]; omega
        by_cases hlt : i < c
        · rw [hiff.2 hlt] at ht
          have ht2 : (o : Int) % 2 = 0 := by have := hiff.2 hlt; omega
          clear hiff
          go_wp2_with fail
          go_roundw
          case rel =>
            refine ⟨i + 1, o / 2, by omega, hide ?_, congrArg (Value.int .i64) (by omega), by first | rfl | trivial, by first | rfl | trivial⟩
            rw [Nat.pow_succ, ← Nat.div_div_eq_div_mul, ho.out]
          case measure => simp [intOf]; omega
        · obtain rfl : i = c := by omega
          obtain rfl : o = od := ho.out.symm.trans HOD.out.symm
          have ho1 : o % 2 = 1 := by
            have h : ¬ o % 2 = 0 := fun h => absurd (hiff.1 h) (Nat.lt_irrefl _)
            omega
          rw [ho1] at ht
          have ht2 : (o : Int) % 2 = 1 := by omega
          clear hiff HOD
          go_wp2_with fail
          go_ret3
          exact ⟨by first | rfl | simp, by first | rfl | trivial⟩
end Go.Proofs.YtboighnmgnjhdaaDoor
