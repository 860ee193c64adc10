/-
  flt.Make, walked: the nearest number. By an AI agent. No person has read it.
-/
import Derived.Test.YteeiehaebiigfaaDoorFltH
namespace Go.Proofs.YteeiehaebiigfaaDoor
open Go.RowKit

/-- The nearest number of m times 2^e. -/
def Flt.mk (m e : Int) : Nat := if m = 0 then 0 else Ieee.double.nearest (decide (m < 0)) m.natAbs e
theorem near_sign (g : Bool) (s : Nat) (e : Int) (h0 : s ≠ 0) : Ieee.double.nearest g s e = (if g = true then 9223372036854775808 else 0) + Flt.near s e := by
  unfold Flt.near Ieee.Format.nearest
  rw [if_neg h0, if_neg h0]
  simp only [Flt.word_eq, Flt.cut_even]
  simp
theorem near_lt (s : Nat) (e : Int) (h0 : s ≠ 0) : Flt.near s e ≤ 9218868437227405312 := by
  rw [near_eq s e h0]
  exact Nat.min_le_right _ _
theorem neg_bits (b : Nat) (h : b < 9223372036854775808) : Op.negFloat .f64 b = b + 9223372036854775808 := by
  unfold Op.negFloat
  have e : 2 ^ (FloatKind.f64.format.exponentBits + FloatKind.f64.format.fractionBits) = 2 ^ 63 := rfl
  rw [e]
  have h1 := Nat.two_pow_add_eq_or_of_lt (b := b) (i := 63) (by omega) 1
  have h2 : b ^^^ 2 ^ 63 = b ||| 2 ^ 63 := by
    apply Nat.eq_of_testBit_eq
    intro i
    rw [Nat.testBit_xor, Nat.testBit_or, Nat.testBit_two_pow]
    by_cases hi : 63 = i
    · subst hi
      rw [Nat.testBit_lt_two_pow (by omega)]
      rfl
    · simp [hi]
  rw [h2, Nat.or_comm, Nat.add_comm]
  exact h1.symm

set_option maxRecDepth 100000 in
set_option maxHeartbeats 4000000 in
theorem make_c (m e : Int) (h1 : -9223372036854775808 ≤ m) (h2 : m ≤ 9223372036854775807) (w : World) :
    Calls Tryd.prog 34 #[.int .i64 m, .int .i64 e] w fun e' w' => e' = .returned (.float .f64 (Flt.mk m e)) ∧ w' = w := by
  have hff := run_f64from
  unfold Flt.mk
  by_cases h0 : m = 0
  · subst h0
    rw [if_pos rfl]
    go_enter Tryd.func34, Tryd.ntmps34
    go_wp2_with fail
    go_ret
    exact ⟨rfl, rfl⟩
  rw [if_neg h0]
  have h0' : (m == 0) = false := by simp; omega
  obtain ⟨s, hs⟩ : ∃ s, m.natAbs = s := ⟨_, rfl⟩
  rw [hs, near_sign _ s e (by omega)]
  have HN := hide (nearest_c s e (by omega) (by omega) w)
  have hnl := near_lt s e (by omega)
  obtain ⟨n, hn⟩ : ∃ n, Hid (Flt.near s e = n) := ⟨_, hide rfl⟩
  rw [hn.out] at HN hnl ⊢
  by_cases hm : m < 0
  · rw [decide_eq_true hm, if_pos rfl]
    have hw1 : IntKind.u64.wrap m = ((18446744073709551616 - s : Nat) : Int) := by rw [IntKind.wrap_u64]; omega
    have hw2 : IntKind.u64.wrap (-((18446744073709551616 - s : Nat) : Int)) = (s : Int) := by rw [IntKind.wrap_u64]; omega
    have hng : ∀ w : World, (Op.unary .neg (.float .f64 n)).run Tryd.prog w = .ok (.float .f64 (9223372036854775808 + n)) w := fun w => by
      have h := neg_bits n (by omega)
      rw [Nat.add_comm] at h
      rw [← h]
      rfl
    obtain ⟨t, ht⟩ : ∃ t, Hid (18446744073709551616 - s = t) := ⟨_, hide rfl⟩
    rw [ht.out] at hw1 hw2
    clear hn ht hs h0
    go_enter Tryd.func34, Tryd.ntmps34
    go_wp2_with fail
    refine HN.out.mono ?_
    rintro e w1 ⟨rfl, rfl⟩
    go_wp2_with fail
    go_ret
    exact ⟨rfl, rfl⟩
  · rw [decide_eq_false hm, if_neg (by decide), Nat.zero_add]
    have hw1 : m = (s : Int) := by omega
    subst hw1
    clear hn hs h0
    go_enter Tryd.func34, Tryd.ntmps34
    go_wp2_with fail
    refine HN.out.mono ?_
    rintro e w1 ⟨rfl, rfl⟩
    go_wp2_with fail
    go_ret
    exact ⟨rfl, rfl⟩
end Go.Proofs.YteeiehaebiigfaaDoor
