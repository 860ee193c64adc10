/-
  Floats: the number nearest to s times 2^e, its bounds, its sign. By an AI agent. No person has read it.
-/
import Derived.Test.YtboighnmgnjhdaaDoorFltT
import Derived.Test.YtboighnmgnjhdaaDoorFltO
namespace Go.Proofs.YtboighnmgnjhdaaDoor
open Go.RowKit


theorem log2_step (x k : Nat) (h : 2 ^ k ≤ x) : (x / 2 ^ k).log2 + k = x.log2 := by
  have hp := Nat.two_pow_pos k
  have h1 : x / 2 ^ k ≠ 0 := by
    have := Nat.div_pos h hp
    omega
  obtain ⟨q, hq⟩ : ∃ q, (x / 2 ^ k).log2 = q := ⟨_, rfl⟩
  have h2 : 2 ^ q ≤ x / 2 ^ k := by rw [← hq]; exact Nat.log2_self_le h1
  have h3 : x / 2 ^ k < 2 ^ (q + 1) := by rw [← hq]; exact Nat.lt_log2_self
  rw [hq]
  symm
  apply Flt.log2_of
  · rw [Nat.pow_add]
    exact (Nat.le_div_iff_mul_le hp).1 h2
  · rw [show q + k + 1 = q + 1 + k by omega, Nat.pow_add]
    exact (Nat.div_lt_iff_lt_mul hp).1 h3

theorem half_le2 (s P : Nat) : Flt.half s P ≤ s / P + 1 := by
  unfold Flt.half
  split <;> omega
theorem half_le (s P : Nat) (hP : 2 ≤ P) : Flt.half s P ≤ s / 2 + 1 := by
  unfold Flt.half
  have h : s / P ≤ s / 2 := Nat.div_le_div_left hP (by decide)
  split <;> omega
/-- The word of s times 2^e, without a sign. -/
def Flt.near (s : Nat) (e : Int) : Nat := Ieee.double.nearest false s e
theorem near_eq (s : Nat) (e : Int) (h0 : s ≠ 0) : Flt.near s e = min ((max (e + s.log2 - 52) (-1074) + 1074).toNat * 4503599627370496 + Flt.half (s * 2 ^ (e - max (e + s.log2 - 52) (-1074)).toNat) (2 ^ (max (e + s.log2 - 52) (-1074) - e).toNat)) 9218868437227405312 := by
  unfold Flt.near Ieee.Format.nearest
  rw [if_neg h0, Flt.lp, Flt.bn, Flt.ir, Flt.word_eq]
  have hf : Ieee.double.fractionBits = 52 := rfl
  rw [hf, Flt.cut_even, Nat.shiftLeft_eq]
  simp only [Bool.false_eq_true, if_false, Nat.zero_add]
  rfl
theorem half_one (s : Nat) : Flt.half s (2 ^ 0) = s := by
  unfold Flt.half
  rw [Nat.pow_zero, Nat.div_one, Nat.mod_one, if_neg (by omega), Nat.add_zero]
/-- The nearest number of m times 2^e. -/
def Flt.mk (m e : Int) : Nat := if m = 0 then 0 else Ieee.double.nearest (decide (m < 0)) m.natAbs e
theorem near_sign (g : Bool) (s : Nat) (e : Int) (h0 : s ≠ 0) : Ieee.double.nearest g s e = (if g = true then 9223372036854775808 else 0) + Flt.near s e := by
  unfold Flt.near Ieee.Format.nearest
  rw [if_neg h0, if_neg h0]
  simp only [Flt.word_eq, Flt.cut_even]
  simp
theorem near_lt (s : Nat) (e : Int) (h0 : s ≠ 0) : Flt.near s e ≤ 9218868437227405312 := by
  rw [near_eq s e h0]
  exact Nat.min_le_right _ _
theorem neg_bits (b : Nat) (h : b < 9223372036854775808) : Op.negFloat .f64 b = b + 9223372036854775808 := by
  unfold Op.negFloat
  have e : 2 ^ (FloatKind.f64.format.exponentBits + FloatKind.f64.format.fractionBits) = 2 ^ 63 := rfl
  rw [e]
  have h1 := Nat.two_pow_add_eq_or_of_lt (b := b) (i := 63) (by omega) 1
  have h2 : b ^^^ 2 ^ 63 = b ||| 2 ^ 63 := by
    apply Nat.eq_of_testBit_eq
    intro i
    rw [Nat.testBit_xor, Nat.testBit_or, Nat.testBit_two_pow]
    by_cases hi : 63 = i
    · subst hi
      rw [Nat.testBit_lt_two_pow (by omega)]
      rfl
    · simp [hi]
  rw [h2, Nat.or_comm, Nat.add_comm]
  exact h1.symm

end Go.Proofs.YtboighnmgnjhdaaDoor
