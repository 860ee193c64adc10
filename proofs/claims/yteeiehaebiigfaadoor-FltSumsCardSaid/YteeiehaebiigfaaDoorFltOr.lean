/-
  The order of three numbers. By an AI agent. No person has read it.
-/
import Derived.Test.YteeiehaebiigfaaDoorFltSo
import Derived.Test.YteeiehaebiigfaaDoorFltHalves
namespace Go.Proofs.YteeiehaebiigfaaDoor
open Go.RowKit

theorem rank_max (a : Nat) (ha : a < 18446744073709551616) : Flt.rank a ≤ 18446744073709551615 := by
  unfold Flt.rank
  split
  · omega
  · split <;> omega
theorem rank_same (a b : Nat) (ha : a < 18446744073709551616) (hb : b < 18446744073709551616) : Flt.rank a = Flt.rank b ↔ Flt.same a b = true := by
  unfold Flt.rank Flt.same Flt.nanb
  by_cases h1 : 9218868437227405312 < a % 9223372036854775808 <;> by_cases h2 : 9218868437227405312 < b % 9223372036854775808 <;> by_cases h3 : 9223372036854775808 ≤ a <;> by_cases h4 : 9223372036854775808 ≤ b <;> simp [h1, h2, h3, h4] <;> omega
theorem rank_inf (a : Nat) (ha : a < 18446744073709551616) : 4503599627370495 ≤ Flt.rank a := by
  unfold Flt.rank
  split
  · decide
  · rename_i h
    unfold Flt.nanb at h
    rw [decide_eq_true_eq] at h
    split <;> omega
theorem less_iff (a b : Nat) : Flt.less a b = true ↔ Flt.rank a < Flt.rank b := by unfold Flt.less; rw [decide_eq_true_eq]
theorem less_not (a b : Nat) : Flt.less a b = false ↔ ¬ Flt.rank a < Flt.rank b := by unfold Flt.less; rw [decide_eq_false_iff_not]
/-- Of two, just one. -/
theorem three (a b : Nat) (ha : a < 18446744073709551616) (hb : b < 18446744073709551616) :
    (Flt.less a b = true ∧ Flt.less b a = false ∧ Flt.same a b = false) ∨ (Flt.less a b = false ∧ Flt.less b a = true ∧ Flt.same a b = false) ∨ (Flt.less a b = false ∧ Flt.less b a = false ∧ Flt.same a b = true) := by
  have hs := rank_same a b ha hb
  rw [less_iff, less_iff, less_not, less_not]
  rw [Bool.eq_false_iff, Ne, ← hs]
  omega
theorem least_rank (x y z : Nat) : (Flt.least x [y, z] = x ∨ Flt.least x [y, z] = y ∨ Flt.least x [y, z] = z) ∧ Flt.rank (Flt.least x [y, z]) ≤ Flt.rank x ∧ Flt.rank (Flt.least x [y, z]) ≤ Flt.rank y ∧ Flt.rank (Flt.least x [y, z]) ≤ Flt.rank z := by
  have e : Flt.least x [y, z] = if Flt.less z (if Flt.less y x = true then y else x) = true then z else (if Flt.less y x = true then y else x) := rfl
  rw [e]
  by_cases hy : Flt.less y x = true
  · rw [if_pos hy]
    have h1 := (less_iff y x).1 hy
    by_cases hz : Flt.less z y = true
    · have h2 := (less_iff z y).1 hz
      rw [if_pos hz]
      exact ⟨.inr (.inr rfl), by omega, by omega, by omega⟩
    · rw [if_neg hz]
      rw [less_iff] at hz
      exact ⟨.inr (.inl rfl), by omega, by omega, by omega⟩
  · rw [if_neg hy]
    rw [less_iff] at hy
    by_cases hz : Flt.less z x = true
    · have h2 := (less_iff z x).1 hz
      rw [if_pos hz]
      exact ⟨.inr (.inr rfl), by omega, by omega, by omega⟩
    · rw [if_neg hz]
      rw [less_iff] at hz
      exact ⟨.inl rfl, by omega, by omega, by omega⟩
/-- The first of the sorted row is the least. -/
theorem sorted_least (x y z : W64) : ∃ m : W64, (Sort.insertionSort ltF #[z, y, x] 0 3)[0]! = m ∧ Flt.same (Flt.least x.val [y.val, z.val]) m.val = true := by
  obtain ⟨⟨hsz, -, hp⟩, hs⟩ := Sort.insertionSort_holds (lt := ltF) swoF #[z, y, x] 0 3 (Nat.zero_le _) (Nat.le_refl 3)
  generalize Sort.insertionSort ltF #[z, y, x] 0 3 = d at *
  obtain ⟨l⟩ := d
  obtain ⟨a, b, c, rfl⟩ : ∃ a b c, l = [a, b, c] := by
    match l, hsz with
    | [a, b, c], _ => exact ⟨a, b, c, rfl⟩
  have hp : [a, b, c].Perm [z, y, x] := hp
  have s1 : ltF b a = false := hs 0 1 (by decide) (by decide) (by decide)
  have s2 : ltF c a = false := hs 0 2 (by decide) (by decide) (by decide)
  refine ⟨a, rfl, ?_⟩
  unfold ltF at s1 s2
  rw [less_not] at s1 s2
  have hge : ∀ e ∈ [z, y, x], Flt.rank a.val ≤ Flt.rank e.val := by
    intro e he
    have := hp.mem_iff.2 he
    simp only [List.mem_cons, List.not_mem_nil, or_false] at this
    rcases this with rfl | rfl | rfl <;> omega
  have hm : a ∈ [z, y, x] := hp.mem_iff.1 (List.mem_cons_self ..)
  obtain ⟨h0, h1, h2, h3⟩ := least_rank x.val y.val z.val
  have gx := hge x (by simp)
  have gy := hge y (by simp)
  have gz := hge z (by simp)
  have ml : Flt.rank (Flt.least x.val [y.val, z.val]) ≤ Flt.rank a.val := by
    simp only [List.mem_cons, List.not_mem_nil, or_false] at hm
    rcases hm with rfl | rfl | rfl <;> omega
  have hl : Flt.least x.val [y.val, z.val] < 18446744073709551616 := by
    rcases h0 with h | h | h <;> rw [h]
    · exact x.isLt
    · exact y.isLt
    · exact z.isLt
  rw [← rank_same _ _ hl a.isLt]
  have : Flt.rank a.val ≤ Flt.rank (Flt.least x.val [y.val, z.val]) := by
    rcases h0 with h | h | h <;> rw [h] <;> omega
  omega
end Go.Proofs.YteeiehaebiigfaaDoor
