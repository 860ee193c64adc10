/-
  The law QuantSpans of package lodgelaw4: its loop's numbers. By an AI agent. No person has read it.
-/
import Derived.Test.YtboighnmgnjhdaaDoorQvS
import Derived.Test.YtboighnmgnjhdaaDoorQvU
namespace Go.Proofs.YtboighnmgnjhdaaDoor
open Go.RowKit
open Ieee

theorem mk_fin (c : Int) (hc : c.natAbs < 1000000) : Qua.fin (Flt.mk c 0) = true ∧ Flt.mk c 0 < 18446744073709551616 := by
  obtain ⟨-, l, m⟩ := mk_key c 0 (by omega) (by decide) (by decide)
  exact ⟨by unfold Qua.fin; rw [decide_eq_true_eq]; exact m, l⟩
theorem sk_mk (c d : Int) (hc : c.natAbs < 1000000) (hd : d.natAbs < 1000000) : Qua.sk (Flt.mk c 0) < Qua.sk (Flt.mk d 0) ↔ c < d := by
  obtain ⟨f1, l1⟩ := mk_fin c hc
  obtain ⟨f2, l2⟩ := mk_fin d hd
  have h1 := order_sk _ _ l1 l2 f1 f2
  have h2 := order_mk c d 0 hc hd (by decide) (by decide)
  have h3 := Option.some.inj (h1.symm.trans h2)
  rw [← Int.compare_eq_lt, ← Int.compare_eq_lt, h3]
theorem spans_step (X : List Nat) (lo hi m : Int) (h1 : lo.natAbs ≤ 1000) (h2 : hi.natAbs ≤ 1000) (h3 : m.natAbs ≤ 1000) (hl : Qua.lows X = Flt.mk lo 0) (hh : Qua.highs X = Flt.mk hi 0) :
    Qua.lows (X ++ [Flt.mk m 0, 9221120237041090561, 9218868437227405312]) = Flt.mk (min lo m) 0 ∧ Qua.highs (X ++ [Flt.mk m 0, 9221120237041090561, 9218868437227405312]) = Flt.mk (max hi m) 0 := by
  have e : X ++ [Flt.mk m 0, 9221120237041090561, 9218868437227405312] = ((X ++ [Flt.mk m 0]) ++ [9221120237041090561]) ++ [9218868437227405312] := by simp
  have n1 : Qua.fin 9221120237041090561 = false := by decide
  have n2 : Qua.fin 9218868437227405312 = false := by decide
  obtain ⟨f, -⟩ := mk_fin m (by omega)
  have s1 := sk_mk m lo (by omega) (by omega)
  have s2 := sk_mk hi m (by omega) (by omega)
  rw [e]
  constructor
  · rw [lows_snoc, n2, if_neg (by simp), lows_snoc, n1, if_neg (by simp), lows_snoc, f, hl]
    by_cases h : m < lo
    · rw [if_pos ⟨rfl, s1.2 h⟩, Int.min_eq_right (by omega)]
    · rw [if_neg (fun hh => h (s1.1 hh.2)), Int.min_eq_left (by omega)]
  · rw [highs_snoc, n2, if_neg (by simp), highs_snoc, n1, if_neg (by simp), highs_snoc, f, hh]
    by_cases h : hi < m
    · rw [if_pos ⟨rfl, s2.2 h⟩, Int.max_eq_right (by omega)]
    · rw [if_neg (fun hh => h (s2.1 hh.2)), Int.max_eq_left (by omega)]
theorem back_zero (b : Nat) (z : Int) (hz : -128 ≤ z ∧ z ≤ 127) (hb : Qua.pos b = true) : Qua.back b z z = 0 := by
  obtain ⟨n, j, e2, hn0⟩ := pos_read b hb
  have hc : Flt.clamp z (-128) 127 = z := by unfold Flt.clamp; split <;> split <;> omega
  unfold Qua.back
  rw [hc, Int.sub_self, mk_zero]
  have h : double.mul b 0 = some 0 := by
    unfold Format.mul
    rw [e2, show double.read 0 = .number false 0 (-1074) by decide +kernel]
    simp only [Datum.product, Option.map_some, Format.write, Nat.mul_zero, Bool.xor_false]
    rw [Flt.nearest_zero]
    rfl
  rw [h]
  rfl
theorem fby_none (xs : List Nat) (hl : Qua.lows xs = 0) (hh : Qua.highs xs = 0) : Qua.pos (Qua.fby xs) = false := by
  unfold Qua.fby
  rw [hl, hh]
  decide +kernel
/-- What the law asks of the numbers that it made. -/
theorem spans_all (xs : List Nat) (hx : ∀ x ∈ xs, x < 18446744073709551616) (lo hi : Int) (h1 : -1000 ≤ lo) (h2 : lo ≤ 0) (h3 : 0 ≤ hi) (h4 : hi ≤ 1000) (h5 : lo ≠ hi) (hl : Qua.lows xs = Flt.mk lo 0) (hh : Qua.highs xs = Flt.mk hi 0) :
    Qua.pos (Qua.fby xs) = true ∧ Qua.of (Qua.fby xs) (Qua.zer (Qua.lows xs) (Qua.fby xs)) (Flt.mk lo 0) ≤ -126 ∧ 125 ≤ Qua.of (Qua.fby xs) (Qua.zer (Qua.lows xs) (Qua.fby xs)) (Flt.mk hi 0) ∧
      (∃ d, double.sub (Flt.mk hi 0) (Flt.mk lo 0) = some d ∧ double.div d 4643176031446892544 = some (Qua.fby xs)) ∧ double.sub (Qua.fby xs) (Qua.fby xs) = some 0 ∧ (-128 ≤ Qua.zer (Qua.lows xs) (Qua.fby xs) ∧ Qua.zer (Qua.lows xs) (Qua.fby xs) ≤ 127) := by
  obtain ⟨d, -, hd, hdv, -, -, hn, -, -⟩ := fit_facts xs hx _ rfl
  obtain ⟨l, rfl⟩ : ∃ l : Nat, lo = -(l : Int) := ⟨(-lo).toNat, by omega⟩
  obtain ⟨H, rfl⟩ : ∃ H : Nat, hi = (H : Int) := ⟨hi.toNat, by omega⟩
  rw [hl] at hd hn ⊢
  rw [hh] at hd
  obtain ⟨p1, p2, p3, -, p5⟩ := spans_facts l H (by omega) (by omega) (by omega) (Qua.fby xs) (by rw [hd]; exact hdv)
  refine ⟨p1, p2, p3, ⟨d, hd, hdv⟩, ?_, ?_⟩
  · refine sub_eq _ _ (by omega) (by omega) (by omega) (by omega) (Int.sub_self _) ?_
    unfold Flt.neg
    rw [decide_eq_false_iff_not]
    omega
  · obtain ⟨t, u, -, -, -, hzu⟩ := zer_facts _ _ hn p1
    rw [hzu]
    exact clamp_in _ _ _ (by decide)
end Go.Proofs.YtboighnmgnjhdaaDoor
