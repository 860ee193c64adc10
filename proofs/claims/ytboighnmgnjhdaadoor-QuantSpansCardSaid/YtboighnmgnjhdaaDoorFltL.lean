/-
  Package flt's Same and Less, and the reference's kinds and orders, walked. By an AI agent. No person has read it.
-/
import Derived.Test.YtboighnmgnjhdaaDoorFltK
namespace Go.Proofs.YtboighnmgnjhdaaDoor
open Go.RowKit

theorem shl12 (b : Nat) : IntKind.u64.wrap ((b : Int) * 4096) = (Flt.frac b : Int) * 4096 := by
  rw [IntKind.wrap_u64]
  unfold Flt.frac
  omega
theorem xor_max (b : Nat) (hb : b < 18446744073709551616) : bits .xor .u64 IntKind.u64.max (b : Int) = ((18446744073709551615 - b : Nat) : Int) := by
  have h : (18446744073709551615 : Nat) ^^^ b = 18446744073709551615 - b := by
    have h1 := congrArg BitVec.toNat (BitVec.allOnes_xor (x := BitVec.ofNat 64 b))
    rw [BitVec.toNat_xor, BitVec.toNat_not, BitVec.toNat_allOnes, BitVec.toNat_ofNat, Nat.mod_eq_of_lt (by omega)] at h1
    exact h1
  have e : IntKind.u64.max = ((18446744073709551615 : Nat) : Int) := by decide
  rw [e, u64_xor_nat _ _ (by decide) hb, h]
theorem or_top (b : Nat) (hb : b < 9223372036854775808) : bits .or .u64 (b : Int) 9223372036854775808 = ((b + 9223372036854775808 : Nat) : Int) := by
  have h : b ||| 9223372036854775808 = b + 9223372036854775808 := by
    have h1 := Nat.two_pow_add_eq_or_of_lt (b := b) (i := 63) (by omega) 1
    rw [Nat.or_comm, Nat.add_comm]
    exact h1.symm
  have e : (9223372036854775808 : Int) = ((9223372036854775808 : Nat) : Int) := rfl
  rw [e, u64_or_nat _ _ (by omega) (by decide), h]

set_option maxRecDepth 100000 in
theorem refkind_c (b : Nat) (hb : b < 18446744073709551616) (w : World) :
    Calls Tryd.prog 89 #[.float .f64 b] w fun e w' => e = .returned (.tuple #[.int .i64 (Flt.kindNo b), .bool (Flt.kindNeg b)]) ∧ w' = w := by
  have hfb := run_f64bits
  have g1 := expo_and b hb
  have g2 := shl12 b
  have g3 := neg_div b hb
  obtain ⟨ex, hex⟩ : ∃ x, Hid (Flt.expo b = x) := ⟨_, hide rfl⟩
  obtain ⟨fr, hfr⟩ : ∃ x, Hid (Flt.frac b = x) := ⟨_, hide rfl⟩
  obtain ⟨ng, hng⟩ : ∃ x, Hid (Flt.neg b = x) := ⟨_, hide rfl⟩
  have HX := hex
  have HF := hfr
  rw [hex.out] at g1
  rw [hfr.out] at g2
  rw [hng.out] at g3
  clear hex hfr
  by_cases h1 : ex = 2047
  · subst h1
    by_cases h2 : fr = 0
    · subst h2
      rw [show Flt.kindNo b = 2 by unfold Flt.kindNo; simp [HX.out, HF.out], show Flt.kindNeg b = ng by unfold Flt.kindNeg; simp [HX.out, HF.out, hng.out]]
      go_enter Tryd.func89, Tryd.ntmps89
      go_wp2_with fail
      go_ret2
      exact ⟨rfl, rfl⟩
    · have h2' : (((fr : Int) * 4096) != 0) = true := by simp; omega
      have h2'' : ¬ ((fr : Int) * 4096 = 0) := by omega
      have h2''' : (((fr : Int) * 4096) == 0) = false := by simp; omega
      rw [show Flt.kindNo b = 1 by unfold Flt.kindNo; simp [HX.out, HF.out, h2], show Flt.kindNeg b = false by unfold Flt.kindNeg; simp [HX.out, HF.out, h2]]
      go_enter Tryd.func89, Tryd.ntmps89
      go_wp2_with fail
      go_ret2
      exact ⟨rfl, rfl⟩
  have h1' : ¬ ((ex : Int) = 2047) := by omega
  have h1'' : ((ex : Int) == 2047) = false := by simp; omega
  by_cases h0 : ex = 0
  · subst h0
    by_cases h2 : fr = 0
    · subst h2
      rw [show Flt.kindNo b = 3 by unfold Flt.kindNo; simp [HX.out, HF.out], show Flt.kindNeg b = ng by unfold Flt.kindNeg; simp [HX.out, HF.out, hng.out]]
      go_enter Tryd.func89, Tryd.ntmps89
      go_wp2_with fail
      go_ret2
      exact ⟨rfl, rfl⟩
    · have h2' : (((fr : Int) * 4096) != 0) = true := by simp; omega
      have h2'' : ¬ ((fr : Int) * 4096 = 0) := by omega
      have h2''' : (((fr : Int) * 4096) == 0) = false := by simp; omega
      rw [show Flt.kindNo b = 4 by unfold Flt.kindNo; simp [HX.out, HF.out, h2], show Flt.kindNeg b = ng by unfold Flt.kindNeg; simp [HX.out, HF.out, h2, hng.out]]
      go_enter Tryd.func89, Tryd.ntmps89
      go_wp2_with fail
      go_ret2
      exact ⟨rfl, rfl⟩
  · have h0' : ¬ ((ex : Int) = 0) := by omega
    have h0'' : ((ex : Int) == 0) = false := by simp; omega
    rw [show Flt.kindNo b = 5 by unfold Flt.kindNo; simp [HX.out, HF.out, h1, h0], show Flt.kindNeg b = ng by unfold Flt.kindNeg; simp [HX.out, HF.out, h1, hng.out]]
    go_enter Tryd.func89, Tryd.ntmps89
    go_wp2_with fail
    go_ret2
    exact ⟨rfl, rfl⟩

theorem kind_one (b : Nat) : (((Flt.kindNo b : Nat) : Int) == 1) = Flt.nanb b := by
  rw [Flt.nan_kind, Bool.eq_iff_iff, beq_iff_eq, decide_eq_true_eq]
  omega
set_option maxRecDepth 100000 in
theorem refnan_c (b : Nat) (hb : b < 18446744073709551616) (w : World) :
    Calls Tryd.prog 58 #[.float .f64 b] w fun e w' => e = .returned (.bool (Flt.nanb b)) ∧ w' = w := by
  have hk := refkind_c b hb w
  have h1 := kind_one b
  obtain ⟨kn, hkn⟩ : ∃ x, Hid (Flt.kindNo b = x) := ⟨_, hide rfl⟩
  obtain ⟨na, hna⟩ : ∃ x, Hid (Flt.nanb b = x) := ⟨_, hide rfl⟩
  rw [hkn.out] at hk h1
  rw [hna.out] at h1 ⊢
  have HK := hide hk
  clear hk
  go_enter Tryd.func58, Tryd.ntmps58
  go_wp2_with fail
  refine HK.out.mono ?_
  rintro e w1 ⟨rfl, rfl⟩
  go_wp2_with fail
  go_ret
  exact ⟨rfl, rfl⟩

set_option maxRecDepth 100000 in
theorem rank_c (b : Nat) (hb : b < 18446744073709551616) (w : World) :
    Calls Tryd.prog 86 #[.float .f64 b] w fun e w' => e = .returned (.int .u64 (Flt.rank b)) ∧ w' = w := by
  have hfb := run_f64bits
  have h3 := neg_div b hb
  have ho := Flt.order_self b
  unfold Flt.rank
  cases hn : Flt.nanb b
  · have ho' : FloatKind.f64.format.order b b = some .eq := ho.trans (by rw [hn]; rfl)
    rw [if_neg (by decide)]
    clear ho hn
    by_cases hs : 9223372036854775808 ≤ b
    · rw [if_pos hs]
      have h4 := xor_max b hb
      rw [show Flt.neg b = true from decide_eq_true hs] at h3
      go_enter Tryd.func86, Tryd.ntmps86
      go_wp2_with fail
      go_ret
      exact ⟨rfl, rfl⟩
    · rw [if_neg hs]
      have h4 := or_top b (by omega)
      rw [show Flt.neg b = false from decide_eq_false hs] at h3
      go_enter Tryd.func86, Tryd.ntmps86
      go_wp2_with fail
      go_ret
      exact ⟨rfl, rfl⟩
  · have ho' : FloatKind.f64.format.order b b = none := ho.trans (by rw [hn]; rfl)
    rw [if_pos rfl]
    clear ho hn
    go_enter Tryd.func86, Tryd.ntmps86
    go_wp2_with fail
    go_ret
    exact ⟨rfl, rfl⟩
def Flt.rrank (b : Nat) : Int := if 9223372036854775808 ≤ b then 9223372036854775807 - b else b
set_option maxRecDepth 100000 in
theorem refrank_c (b : Nat) (hb : b < 18446744073709551616) (w : World) :
    Calls Tryd.prog 88 #[.float .f64 b] w fun e w' => e = .returned (.int .i64 (Flt.rrank b)) ∧ w' = w := by
  have hfb := run_f64bits
  unfold Flt.rrank
  by_cases hs : 9223372036854775808 ≤ b
  · rw [if_pos hs]
    have h1 : wrap64 (b : Int) = (b : Int) - 18446744073709551616 := by unfold wrap64; omega
    have h2 : (b : Int) - 18446744073709551616 < 0 := by omega
    go_enter Tryd.func88, Tryd.ntmps88
    go_wp2_with fail
    go_ret
    have e : (-9223372036854775808 - ((b : Int) - 18446744073709551616) - 1) = 9223372036854775807 - (b : Int) := by omega
    exact ⟨congrArg (fun z => Ending.returned (Value.int .i64 z)) e, rfl⟩
  · rw [if_neg hs]
    have h1 : wrap64 (b : Int) = (b : Int) := by unfold wrap64; omega
    have h2 : ¬ ((b : Int) < 0) := by omega
    go_enter Tryd.func88, Tryd.ntmps88
    go_wp2_with fail
    go_ret
    exact ⟨rfl, rfl⟩
end Go.Proofs.YtboighnmgnjhdaaDoor
