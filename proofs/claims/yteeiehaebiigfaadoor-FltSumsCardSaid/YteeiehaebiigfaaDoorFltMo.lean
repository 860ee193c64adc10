/-
  The greatest of a row with a NaN, with an infinite one. By an AI agent. No person has read it.
-/
import Derived.Test.YteeiehaebiigfaaDoorFltOr
import Derived.Test.YteeiehaebiigfaaDoorFltSm
namespace Go.Proofs.YteeiehaebiigfaaDoor
open Go.RowKit

theorem most_rank (xs : List Nat) : ∀ x : Nat, Flt.most x xs ∈ x :: xs ∧ ∀ e ∈ x :: xs, Flt.rank e ≤ Flt.rank (Flt.most x xs) := by
  induction xs with
  | nil => intro x; exact ⟨List.mem_cons_self .., fun e he => by simp at he; rw [he]; exact Nat.le_refl _⟩
  | cons y ys ih =>
    intro x
    have hst : Flt.most x (y :: ys) = Flt.most (if Flt.less x y = true then y else x) ys := rfl
    rw [hst]
    by_cases h : Flt.less x y = true
    · rw [if_pos h]
      obtain ⟨h1, h2⟩ := ih y
      refine ⟨List.mem_cons_of_mem _ h1, fun e he => ?_⟩
      rcases List.mem_cons.1 he with rfl | he
      · have := h2 y (List.mem_cons_self ..)
        have := (less_iff e y).1 h
        omega
      · exact h2 e he
    · rw [if_neg h]
      obtain ⟨h1, h2⟩ := ih x
      refine ⟨?_, fun e he => ?_⟩
      · rcases List.mem_cons.1 h1 with h1 | h1
        · rw [h1]; exact List.mem_cons_self ..
        · exact List.mem_cons_of_mem _ (List.mem_cons_of_mem _ h1)
      · rcases List.mem_cons.1 he with rfl | he
        · exact h2 e (List.mem_cons_self ..)
        · rcases List.mem_cons.1 he with rfl | he
          · have := h2 x (List.mem_cons_self ..)
            rw [less_iff] at h
            omega
          · exact h2 e (List.mem_cons_of_mem _ he)
theorem most_same (x : Nat) (xs : List Nat) (b : Nat) (hl : ∀ e ∈ x :: xs, e < 18446744073709551616 ∧ Flt.rank e ≤ Flt.rank b) (hb : b ∈ x :: xs) : Flt.same (Flt.most x xs) b = true := by
  obtain ⟨h1, h2⟩ := most_rank xs x
  rw [← rank_same _ _ (hl _ h1).1 (hl _ hb).1]
  have := h2 b hb
  have := (hl _ h1).2
  omega
/-- With a NaN in it. -/
theorem most_nan (x : Nat) (xs : List Nat) (hl : ∀ e ∈ x :: xs, e < 18446744073709551616) (hb : 9221120237041090561 ∈ x :: xs) : Flt.same (Flt.most x xs) 9221120237041090561 = true :=
  most_same x xs _ (fun e he => ⟨hl e he, by rw [show Flt.rank 9221120237041090561 = 18446744073709551615 by decide]; exact rank_max e (hl e he)⟩) hb
theorem rank_num (e : Nat) (he : e < 18446744073709551616) (h : e % 9223372036854775808 ≤ 9218868437227405312) : Flt.rank e ≤ 18442240474082181120 := by
  unfold Flt.rank Flt.nanb
  rw [if_neg (by rw [decide_eq_true_eq]; omega)]
  split <;> omega
/-- With an infinite one in it, and no NaN. -/
theorem most_inf (x : Nat) (xs : List Nat) (hl : ∀ e ∈ x :: xs, e < 18446744073709551616 ∧ e % 9223372036854775808 ≤ 9218868437227405312) (hb : 9218868437227405312 ∈ x :: xs) : Flt.most x xs = 9218868437227405312 := by
  have h := most_same x xs 9218868437227405312 (fun e he => ⟨(hl e he).1, by rw [show Flt.rank 9218868437227405312 = 18442240474082181120 by decide]; exact rank_num e (hl e he).1 (hl e he).2⟩) hb
  unfold Flt.same at h
  rw [show Flt.nanb 9218868437227405312 = false by decide, Bool.and_false, Bool.false_or, decide_eq_true_eq] at h
  exact h
end Go.Proofs.YteeiehaebiigfaaDoor
