/-
  Sums of whole numbers, of a row with a NaN, of a row with an infinite one. By an AI agent. No person has read it.
-/
import Derived.Test.YteeiehaebiigfaaDoorFltC
import Derived.Test.YteeiehaebiigfaaDoorFltE
namespace Go.Proofs.YteeiehaebiigfaaDoor
open Go.RowKit
open Ieee

theorem read_nan (s : Nat) (h : Flt.nanb s = true) : ∃ g f, double.read s = .nan g f := by
  have hs := Flt.order_self s
  rw [h, if_pos rfl] at hs
  unfold Format.order at hs
  cases hd : double.read s with
  | nan g f => exact ⟨g, f, rfl⟩
  | number g m e => rw [hd] at hs; simp [Datum.order] at hs
  | infinity g => rw [hd] at hs; simp [Datum.order] at hs
theorem add_nan (s x : Nat) (h : Flt.nanb s = true ∨ Flt.nanb x = true) : double.add s x = none := by
  unfold Format.add
  rcases h with h | h
  · obtain ⟨g, f, e⟩ := read_nan s h
    rw [e]
    rfl
  · obtain ⟨g, f, e⟩ := read_nan x h
    rw [e]
    cases double.read s <;> rfl
theorem step_nan (s x t : Nat) (h : Flt.nanb s = true ∨ Flt.nanb x = true) (ht : Flt.step s x t) : Flt.nanb t = true := by
  obtain ⟨-, h1 | h1⟩ := ht
  · rw [add_nan s x h] at h1; cases h1
  · exact h1.2
theorem sum_nan (xs : List Nat) : ∀ s r, Flt.nanb s = true → Flt.sumTo s xs r → Flt.nanb r = true := by
  induction xs with
  | nil => intro s r h hr; subst hr; exact h
  | cons x xs ih => intro s r h hr; obtain ⟨t, ht, hr⟩ := hr; exact ih t r (step_nan s x t (.inl h) ht) hr
theorem sum_append (xs ys : List Nat) : ∀ s r, Flt.sumTo s (xs ++ ys) r → ∃ t, Flt.sumTo s xs t ∧ Flt.sumTo t ys r := by
  induction xs with
  | nil => intro s r hr; exact ⟨s, rfl, hr⟩
  | cons x xs ih => intro s r hr; obtain ⟨t, ht, hr⟩ := hr; obtain ⟨u, h1, h2⟩ := ih t r hr; exact ⟨u, ⟨t, ht, h1⟩, h2⟩
/-- A row with a NaN in it. -/
theorem sum_with_nan (xs ys : List Nat) (x s r : Nat) (hx : Flt.nanb x = true) (h : Flt.sumTo s (xs ++ x :: ys) r) : Flt.nanb r = true := by
  obtain ⟨t, -, u, h2, h3⟩ := sum_append xs (x :: ys) s r h
  exact sum_nan ys u r (step_nan t x u (.inr hx) h2) h3
/-- The sum of two finite numbers that is zero. -/
theorem add_zero (a b : Nat) (ha : a < 18446744073709551616) (hb : b < 18446744073709551616) (h1 : a % 9223372036854775808 < 9218868437227405312) (h2 : b % 9223372036854775808 < 9218868437227405312) (h0 : Flt.key a + Flt.key b = 0) (hs : (Flt.neg a && Flt.neg b) = false) :
    double.add a b = some 0 := by
  obtain ⟨m, i, e1, hi, hm, -⟩ := Flt.read_num a ha h1
  obtain ⟨n, j, e2, hj, hn, -⟩ := Flt.read_num b hb h2
  have ka : Flt.key a = signed (decide (9223372036854775808 ≤ a)) m (i + 1074).toNat := by
    rw [Flt.signed_eq, hm]
    unfold Flt.key
    by_cases h : 9223372036854775808 ≤ a <;> simp [h]
  have kb : Flt.key b = signed (decide (9223372036854775808 ≤ b)) n (j + 1074).toNat := by
    rw [Flt.signed_eq, hn]
    unfold Flt.key
    by_cases h : 9223372036854775808 ≤ b <;> simp [h]
  obtain ⟨base, hbase⟩ : ∃ base : Int, min i j = base := ⟨_, rfl⟩
  obtain ⟨k, hk⟩ : ∃ k : Nat, (base + 1074).toNat = k := ⟨_, rfl⟩
  obtain ⟨T, hT⟩ : ∃ T, signed (decide (9223372036854775808 ≤ a)) m (i - base).toNat + signed (decide (9223372036854775808 ≤ b)) n (j - base).toNat = T := ⟨_, rfl⟩
  have hkey : Flt.key a + Flt.key b = T * ((2 ^ k : Nat) : Int) := by
    rw [ka, kb, ← hT, show (i + 1074).toNat = (i - base).toNat + k by omega, show (j + 1074).toNat = (j - base).toNat + k by omega, Flt.signed_add, Flt.signed_add, Int.add_mul]
  have hp : ((2 ^ k : Nat) : Int) ≠ 0 := by have := Nat.two_pow_pos k; omega
  have hT0 : T = 0 := by
    rw [h0] at hkey
    rcases Int.mul_eq_zero.1 hkey.symm with h | h
    · exact h
    · exact absurd h hp
  unfold Flt.neg at hs
  unfold Format.add
  rw [e1, e2]
  simp only [Datum.sum, Option.map_some, Format.write]
  rw [hbase, hT, hT0, if_pos rfl, hs, Int.natAbs_zero, Flt.nearest_zero]
  rfl
/-- Two whole numbers. -/
theorem add_whole (a b : Int) (ha : a.natAbs < 1125899906842624) (hb : b.natAbs < 1125899906842624) : double.add (Flt.mk a 0) (Flt.mk b 0) = some (Flt.mk (a + b) 0) := by
  obtain ⟨a1, a2, -, a4⟩ := whole_facts a (by omega)
  obtain ⟨b1, b2, -, b4⟩ := whole_facts b (by omega)
  have hp : (0 : Int) < (Flt.unit : Int) := by have := Flt.unit_pos; omega
  have hk : Flt.key (Flt.mk a 0) + Flt.key (Flt.mk b 0) = (a + b) * (Flt.unit : Int) := by rw [a4, b4, Int.add_mul]
  by_cases h0 : a + b = 0
  · have hs : (Flt.neg (Flt.mk a 0) && Flt.neg (Flt.mk b 0)) = false := by
      by_cases ha0 : a = 0
      · subst ha0
        rw [mk_zero]
        rfl
      · rw [(mk_facts a 0 ha0 (by omega) (by decide) (by decide)).2.2.2.1, (mk_facts b 0 (by omega) (by omega) (by decide) (by decide)).2.2.2.1]
        by_cases h : a < 0
        · rw [decide_eq_false (show ¬ b < 0 by omega), Bool.and_false]
        · rw [decide_eq_false h, Bool.false_and]
    rw [h0, mk_zero, add_zero _ _ a1 b1 a2 b2 (by rw [hk, h0, Int.zero_mul]) hs]
  · have h1 : (a + b) * (Flt.unit : Int) ≠ 0 := Int.mul_ne_zero h0 (by omega)
    have hneg : (a + b) * (Flt.unit : Int) < 0 ↔ a + b < 0 := by
      constructor
      · intro h
        by_cases hc : a + b < 0
        · exact hc
        · have := Int.mul_nonneg (show 0 ≤ a + b by omega) (Int.le_of_lt hp)
          omega
      · intro h
        exact Int.mul_neg_of_neg_of_pos h hp
    rw [add_key _ _ a1 b1 a2 b2 (by rw [hk]; exact h1), hk, Int.natAbs_mul, Int.natAbs_natCast, show Flt.unit = Flt.pw 1074 from rfl, near_pw _ _ _ (by omega)]
    rw [show Flt.pw 1074 = Flt.unit from rfl, show (-1074 : Int) + ((1074 : Nat) : Int) = 0 by decide]
    rw [(mk_facts (a + b) 0 h0 (by omega) (by decide) (by decide)).1]
    congr 2
    by_cases h : a + b < 0
    · rw [if_pos h, if_pos (hneg.2 h)]
    · rw [if_neg h, if_neg (fun h' => h (hneg.1 h'))]
theorem step_whole (a b : Int) (ha : a.natAbs < 1125899906842624) (hb : b.natAbs < 1125899906842624) (t : Nat) (h : Flt.step (Flt.mk a 0) (Flt.mk b 0) t) : t = Flt.mk (a + b) 0 := by
  obtain ⟨-, h1 | h1⟩ := h
  · rw [add_whole a b ha hb] at h1
    exact (Option.some.inj h1).symm
  · rw [add_whole a b ha hb] at h1
    cases h1.1
/-- Whole numbers, one by one. -/
theorem sum_whole (ns : List Int) (B : Nat) : ∀ (a : Int) (r : Nat), (∀ n ∈ ns, n.natAbs ≤ 549755813888) → a.natAbs ≤ 549755813888 * B → B + ns.length ≤ 1000 → Flt.sumTo (Flt.mk a 0) (ns.map fun n => Flt.mk n 0) r → r = Flt.mk (a + ns.sum) 0 := by
  induction ns generalizing B with
  | nil => intro a r _ _ _ h; rw [List.sum_nil, Int.add_zero]; exact h
  | cons n ns ih =>
    intro a r hn ha hl h
    obtain ⟨t, ht, h⟩ := h
    have h1 := hn n (List.mem_cons_self ..)
    rw [List.length_cons] at hl
    obtain rfl := step_whole a n (by omega) (by omega) t ht
    rw [List.sum_cons, ← Int.add_assoc]
    exact ih (B + 1) (a + n) r (fun k hk => hn k (List.mem_cons_of_mem _ hk)) (by omega) (by omega) h
/-- An infinite one and a finite one. -/
theorem add_inf (x : Nat) (hx : x < 18446744073709551616) (hf : x % 9223372036854775808 < 9218868437227405312) : double.add 9218868437227405312 x = some 9218868437227405312 ∧ double.add x 9218868437227405312 = some 9218868437227405312 := by
  obtain ⟨m, i, e1, -⟩ := Flt.read_num x hx hf
  have e2 : double.read 9218868437227405312 = .infinity false := by
    have := Flt.read_inf 9218868437227405312 (by decide) (by decide) (by decide)
    rw [this]
    rfl
  have e3 : double.write (.infinity false) = 9218868437227405312 := by decide +kernel
  constructor <;> (unfold Format.add; rw [e1, e2]; simp only [Datum.sum, Option.map_some, e3])
theorem sum_inf (ns : List Int) : ∀ r : Nat, (∀ n ∈ ns, n.natAbs ≤ 549755813888) → Flt.sumTo 9218868437227405312 (ns.map fun n => Flt.mk n 0) r → r = 9218868437227405312 := by
  induction ns with
  | nil => intro r _ h; exact h
  | cons n ns ih =>
    intro r hn h
    obtain ⟨t, ⟨-, ht⟩, h⟩ := h
    have h1 := hn n (List.mem_cons_self ..)
    obtain ⟨a1, a2, -, -⟩ := whole_facts n (by omega)
    rw [(add_inf _ a1 a2).1] at ht
    rcases ht with ht | ⟨ht, -⟩
    · obtain rfl := Option.some.inj ht
      exact ih r (fun k hk => hn k (List.mem_cons_of_mem _ hk)) h
    · cases ht
theorem sum_small (ns : List Int) (hn : ∀ n ∈ ns, n.natAbs ≤ 549755813888) : ns.sum.natAbs ≤ 549755813888 * ns.length := by
  induction ns with
  | nil => simp
  | cons n ns ih =>
    have h1 := hn n (List.mem_cons_self ..)
    have h2 := ih (fun k hk => hn k (List.mem_cons_of_mem _ hk))
    rw [List.sum_cons, List.length_cons]
    omega
/-- A row with an infinite one in it. -/
theorem sum_with_inf (ns ms : List Int) (r : Nat) (hn : ∀ n ∈ ns, n.natAbs ≤ 549755813888) (hm : ∀ n ∈ ms, n.natAbs ≤ 549755813888) (hl : ns.length ≤ 1000)
    (h : Flt.sumTo 0 ((ns.map fun n => Flt.mk n 0) ++ 9218868437227405312 :: ms.map fun n => Flt.mk n 0) r) : r = 9218868437227405312 := by
  obtain ⟨t, h1, u, ⟨-, h2⟩, h3⟩ := sum_append _ _ 0 r h
  rw [← mk_zero 0] at h1
  obtain rfl := sum_whole ns 0 0 t hn (by decide) (by omega) h1
  have hb := sum_small ns hn
  obtain ⟨a1, a2, -, -⟩ := whole_facts (0 + ns.sum) (by omega)
  rw [(add_inf _ a1 a2).2] at h2
  rcases h2 with h2 | ⟨h2, -⟩
  · obtain rfl := Option.some.inj h2
    exact sum_inf ms r hm h3
  · cases h2
end Go.Proofs.YteeiehaebiigfaaDoor
