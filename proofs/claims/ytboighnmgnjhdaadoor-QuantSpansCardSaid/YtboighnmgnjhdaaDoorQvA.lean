/-
  The least and the greatest of numbers, both ways; their difference. By an AI agent. No person has read it.
-/
import Derived.Test.YtboighnmgnjhdaaDoorQuaQ
import Derived.Test.YtboighnmgnjhdaaDoorQuaI
import Derived.Test.YtboighnmgnjhdaaDoorFltD
namespace Go.Proofs.YtboighnmgnjhdaaDoor
open Go.RowKit
open Ieee

/-- Is it finite? -/
def Qua.fin (b : Nat) : Bool := decide (b % 9223372036854775808 < 9218868437227405312)
/-- A word's place among the finite ones, both zeros being one. -/
def Qua.sk (b : Nat) : Int := if 9223372036854775808 ≤ b then 9223372036854775808 - (b : Int) else b
theorem order_sk (a b : Nat) (ha : a < 18446744073709551616) (hb : b < 18446744073709551616) (fa : Qua.fin a = true) (fb : Qua.fin b = true) :
    FloatKind.f64.format.order a b = some (compare (Qua.sk a) (Qua.sk b)) := by
  unfold Qua.fin at fa fb
  rw [decide_eq_true_eq] at fa fb
  have h := Flt.order_key a b ha hb fa fb
  have mono : ∀ x y : Nat, x % 9223372036854775808 < y % 9223372036854775808 → Flt.mag x < Flt.mag y := mag_lt
  have m0 : ∀ x y : Nat, x % 9223372036854775808 = y % 9223372036854775808 → Flt.mag x = Flt.mag y := fun x y hxy => by
    unfold Flt.mag
    rw [hxy, show x % 4503599627370496 = y % 4503599627370496 by omega]
  have hz : Flt.mag 0 = 0 := rfl
  have k1 := mono a b
  have k2 := mono b a
  have k3 := m0 a b
  have k4 := mono 0 a
  have k5 := mono 0 b
  have k6 := m0 0 a
  have k7 := m0 0 b
  refine h.trans (congrArg some ?_)
  unfold Flt.key Qua.sk
  generalize Flt.mag a = A at *
  generalize Flt.mag b = B at *
  generalize Flt.mag 0 = Z at *
  rcases Int.lt_trichotomy (if 9223372036854775808 ≤ a then 9223372036854775808 - (a : Int) else a) (if 9223372036854775808 ≤ b then 9223372036854775808 - (b : Int) else b) with h1 | h1 | h1
  · rw [Int.compare_eq_lt.2 h1]
    refine Int.compare_eq_lt.2 ?_
    (repeat' split at h1) <;> (repeat' split) <;> omega
  · rw [Int.compare_eq_eq.2 h1]
    refine Int.compare_eq_eq.2 ?_
    (repeat' split at h1) <;> (repeat' split) <;> omega
  · rw [Int.compare_eq_gt.2 h1]
    refine Int.compare_eq_gt.2 ?_
    (repeat' split at h1) <;> (repeat' split) <;> omega
/-- The reference's least and greatest. -/
def Qua.lows (xs : List Nat) : Nat := xs.foldl (fun m y => if Qua.fin y = true ∧ Qua.sk y < Qua.sk m then y else m) 0
def Qua.highs (xs : List Nat) : Nat := xs.foldl (fun m y => if Qua.fin y = true ∧ Qua.sk m < Qua.sk y then y else m) 0
theorem less_sk (a b : Nat) (ha : a < 18446744073709551616) (hb : b < 18446744073709551616) (fa : Qua.fin a = true) (fb : Qua.fin b = true) : Flt.less a b = true ↔ (Qua.sk a < Qua.sk b ∨ a = 9223372036854775808 ∧ b = 0) := by
  unfold Qua.fin at fa fb
  rw [decide_eq_true_eq] at fa fb
  have na : Flt.nanb a = false := by unfold Flt.nanb; rw [decide_eq_false_iff_not]; omega
  have nb : Flt.nanb b = false := by unfold Flt.nanb; rw [decide_eq_false_iff_not]; omega
  unfold Flt.less Flt.rank Qua.sk
  rw [decide_eq_true_eq, na, nb]
  simp only [Bool.false_eq_true, if_false]
  (repeat' split) <;> omega
theorem lows_snoc (xs : List Nat) (y : Nat) : Qua.lows (xs ++ [y]) = if Qua.fin y = true ∧ Qua.sk y < Qua.sk (Qua.lows xs) then y else Qua.lows xs := by
  unfold Qua.lows
  rw [List.foldl_append]
  rfl
theorem highs_snoc (xs : List Nat) (y : Nat) : Qua.highs (xs ++ [y]) = if Qua.fin y = true ∧ Qua.sk (Qua.highs xs) < Qua.sk y then y else Qua.highs xs := by
  unfold Qua.highs
  rw [List.foldl_append]
  rfl
theorem least_snoc (x : Nat) (xs : List Nat) (y : Nat) : Flt.least x (xs ++ [y]) = if Flt.less y (Flt.least x xs) = true then y else Flt.least x xs := by
  unfold Flt.least
  rw [List.foldl_append]
  rfl
theorem most_snoc (x : Nat) (xs : List Nat) (y : Nat) : Flt.most x (xs ++ [y]) = if Flt.less (Flt.most x xs) y = true then y else Flt.most x xs := by
  unfold Flt.most
  rw [List.foldl_append]
  rfl
theorem lows_rev (ys : List Nat) : ∀ xs : List Nat, ys.reverse = xs → (∀ x ∈ xs, x < 18446744073709551616) → Qua.fin (Qua.lows xs) = true ∧ Qua.lows xs < 18446744073709551616 ∧ Qua.sk (Qua.lows xs) ≤ 0 ∧ Qua.lows xs ≠ 9223372036854775808 ∧ Qua.fin (Qua.highs xs) = true ∧ Qua.highs xs < 9223372036854775808 ∧
    (Flt.least 0 (xs.filter Qua.fin) = Qua.lows xs ∨ Flt.least 0 (xs.filter Qua.fin) = 9223372036854775808 ∧ Qua.lows xs = 0) ∧ Flt.most 0 (xs.filter Qua.fin) = Qua.highs xs := by
  induction ys with
  | nil =>
    rintro xs rfl -
    exact ⟨by decide, by decide, by decide, by decide, by decide, by decide, .inl rfl, rfl⟩
  | cons y ys ih =>
    intro xs' hxs h
    rw [List.reverse_cons] at hxs
    subst hxs
    obtain ⟨xs, hx0⟩ : ∃ xs, ys.reverse = xs := ⟨_, rfl⟩
    rw [hx0] at h ⊢
    obtain ⟨i1, i2, i3, i4, i5, i6, i7, i8⟩ := ih xs hx0 (fun x hx => h x (by simp [hx]))
    have hy := h y (by simp)
    rw [lows_snoc, highs_snoc, List.filter_append]
    generalize Qua.lows xs = L at *
    generalize Qua.highs xs = H at *
    cases hf : Qua.fin y
    · rw [if_neg (by simp), if_neg (by simp), List.filter_cons_of_neg (by simp [hf]), List.filter_nil, List.append_nil]
      exact ⟨i1, i2, i3, i4, i5, i6, i7, i8⟩
    · rw [List.filter_cons_of_pos hf, List.filter_nil, least_snoc, most_snoc, i8]
      have e1 := less_sk H y (by omega) hy i5 hf
      have hH : Qua.sk H = H := by unfold Qua.sk; rw [if_neg (by omega)]
      have hyk : Qua.sk y = if 9223372036854775808 ≤ y then 9223372036854775808 - (y : Int) else y := rfl
      have hLk : Qua.sk L = if 9223372036854775808 ≤ L then 9223372036854775808 - (L : Int) else L := rfl
      have hfy := hf
      unfold Qua.fin at hfy
      rw [decide_eq_true_eq] at hfy
      have z0 : Qua.sk 0 = 0 := rfl
      have z1 : Qua.sk 9223372036854775808 = 0 := rfl
      have e3 : (if Flt.less H y = true then y else H) = (if true = true ∧ Qua.sk H < Qua.sk y then y else H) := by
        by_cases hc : Qua.sk H < Qua.sk y
        · rw [if_pos (e1.2 (.inl hc)), if_pos ⟨rfl, hc⟩]
        · rw [if_neg (fun hh => (e1.1 hh).elim hc (fun h2 => by omega)), if_neg (fun hh => hc hh.2)]
      have key : ∀ M : Nat, (M = L ∨ M = 9223372036854775808 ∧ L = 0) → ((if Flt.less y M = true then y else M) = (if true = true ∧ Qua.sk y < Qua.sk L then y else L) ∨ (if Flt.less y M = true then y else M) = 9223372036854775808 ∧ (if true = true ∧ Qua.sk y < Qua.sk L then y else L) = 0) := by
        rintro M (rfl | ⟨rfl, rfl⟩)
        · have e2 := less_sk y M hy i2 hf i1
          by_cases hc : Qua.sk y < Qua.sk M
          · rw [if_pos (e2.2 (.inl hc)), if_pos ⟨rfl, hc⟩]
            exact .inl rfl
          · rw [if_neg (fun hh : true = true ∧ _ => hc hh.2)]
            by_cases hl : Flt.less y M = true
            · rw [if_pos hl]
              exact .inr ((e2.1 hl).resolve_left hc)
            · rw [if_neg hl]
              exact .inl rfl
        · have e2 := less_sk y 9223372036854775808 hy (by decide) hf (by decide)
          rw [z0]
          rw [z1] at e2
          by_cases hc : Qua.sk y < 0
          · rw [if_pos (e2.2 (.inl hc)), if_pos ⟨rfl, hc⟩]
            exact .inl rfl
          · rw [if_neg (fun hh => (e2.1 hh).elim hc (fun h2 => by omega)), if_neg (fun hh : true = true ∧ _ => hc hh.2)]
            exact .inr ⟨rfl, rfl⟩
      refine ⟨?_, ?_, ?_, ?_, ?_, ?_, key _ i7, e3⟩
      · split
        · exact hf
        · exact i1
      · split <;> assumption
      · split
        · rename_i hc; omega
        · exact i3
      · split
        · rename_i hc
          intro h2
          rw [h2, z1] at hc
          omega
        · exact i4
      · split
        · exact hf
        · exact i5
      · split
        · rename_i hc
          have := hc.2
          rw [hyk, hH] at this
          split at this <;> omega
        · exact i6
theorem lows_facts (xs : List Nat) (h : ∀ x ∈ xs, x < 18446744073709551616) : Qua.fin (Qua.lows xs) = true ∧ Qua.lows xs < 18446744073709551616 ∧ Qua.sk (Qua.lows xs) ≤ 0 ∧ Qua.lows xs ≠ 9223372036854775808 ∧ Qua.fin (Qua.highs xs) = true ∧ Qua.highs xs < 9223372036854775808 ∧
    (Flt.least 0 (xs.filter Qua.fin) = Qua.lows xs ∨ Flt.least 0 (xs.filter Qua.fin) = 9223372036854775808 ∧ Qua.lows xs = 0) ∧ Flt.most 0 (xs.filter Qua.fin) = Qua.highs xs :=
  lows_rev xs.reverse xs (List.reverse_reverse xs) h
end Go.Proofs.YtboighnmgnjhdaaDoor
