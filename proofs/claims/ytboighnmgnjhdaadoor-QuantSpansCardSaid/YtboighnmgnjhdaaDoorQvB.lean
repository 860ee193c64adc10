/-
  The scale that fits: its numbers. By an AI agent. No person has read it.
-/
import Derived.Test.YtboighnmgnjhdaaDoorQvA
namespace Go.Proofs.YtboighnmgnjhdaaDoor
open Go.RowKit
open Ieee

theorem nearest_num (g : Bool) (s : Nat) (e : Int) : Flt.nanb (double.nearest g s e) = false ∧ double.nearest g s e < 18446744073709551616 := by
  by_cases h0 : s = 0
  · subst h0
    rw [Flt.nearest_zero]
    cases g <;> decide
  · have := near_lt s e h0
    rw [near_sign g s e h0]
    unfold Flt.nanb
    rw [decide_eq_false_iff_not]
    split <;> omega
theorem sub_num (a b : Nat) (ha : a < 18446744073709551616) (hb : b < 18446744073709551616) (fa : Qua.fin a = true) (fb : Qua.fin b = true) : ∃ d, double.sub a b = some d ∧ Flt.nanb d = false ∧ d < 18446744073709551616 := by
  unfold Qua.fin at fa fb
  rw [decide_eq_true_eq] at fa fb
  obtain ⟨T, base, k, -, -, hs⟩ := sub_read a b ha hb fa fb
  exact ⟨_, hs, nearest_num _ _ _⟩
theorem sub_negzero (a : Nat) (ha : a < 9223372036854775808) (fa : Qua.fin a = true) : double.sub a 9223372036854775808 = double.sub a 0 := by
  unfold Qua.fin at fa
  rw [decide_eq_true_eq] at fa
  obtain ⟨m, i, e1, -⟩ := Flt.read_num a (by omega) fa
  unfold Format.sub
  rw [e1, show double.read 9223372036854775808 = .number true 0 (-1074) by decide +kernel, show double.read 0 = .number false 0 (-1074) by decide +kernel, show decide (9223372036854775808 ≤ a) = false by rw [decide_eq_false_iff_not]; omega]
  simp only [Datum.opposite, Datum.sum, Option.map_some, Bool.not_true, Bool.not_false, Bool.false_and]
  rw [Flt.signed_eq false 0, Flt.signed_eq true 0]
  simp
theorem div_num (x b : Nat) (hn : Flt.nanb x = false) (hb : Qua.pos b = true) : ∃ r, double.div x b = some r ∧ Flt.nanb r = false ∧ r < 18446744073709551616 := by
  obtain ⟨n, j, e2, hn0⟩ := pos_read b hb
  unfold Format.div
  rw [e2]
  rcases num_read x hn with ⟨s, m, i, e1⟩ | ⟨s, e1⟩
  · rw [e1]
    simp only [Datum.quotient, if_neg hn0, Option.map_some, Format.write]
    exact ⟨_, rfl, nearest_num _ _ _⟩
  · rw [e1]
    refine ⟨_, rfl, ?_⟩
    cases s <;> decide +kernel
theorem sub_some (a t : Nat) (ha : a < 18446744073709551616) (fa : Qua.fin a = true) (hn : Flt.nanb t = false) : ∃ u, double.sub a t = some u ∧ u < 18446744073709551616 := by
  unfold Qua.fin at fa
  rw [decide_eq_true_eq] at fa
  obtain ⟨m, i, e1, -⟩ := Flt.read_num a ha fa
  have hs : ∃ u, double.sub a t = some u := by
    unfold Format.sub
    rcases num_read t hn with ⟨s, k, j, e2⟩ | ⟨s, e2⟩
    · rw [e1, e2]
      exact ⟨_, rfl⟩
    · rw [e1, e2]
      exact ⟨_, rfl⟩
  obtain ⟨u, hu⟩ := hs
  refine ⟨u, hu, ?_⟩
  unfold Format.sub at hu
  rw [Option.map_eq_some_iff] at hu
  obtain ⟨d, -, rfl⟩ := hu
  exact write_lt d
theorem run_sub_nan (x b : Nat) (h : double.sub x b = none) (w : World) : ∃ t q, (t < 18446744073709551616 ∧ Flt.nanb t = true) ∧ (binOp .sub 27 (.float .f64 x) (.float .f64 b)).run Tryd.prog w = .ok (.float .f64 t) (w.drewN q) := by
  have hf : FloatKind.f64.format.sub x b = none := h
  obtain ⟨T, hT⟩ : ∃ T, w.tape w.drawn (.nanBits .f64 x b) = T := ⟨_, rfl⟩
  obtain ⟨t, ht⟩ : ∃ t, (T % 2) * 9223372036854775808 + 9218868437227405312 + 1 + (T / 2) % 4503599627370495 = t := ⟨_, rfl⟩
  refine ⟨t, 1, nanbits T t ht, ?_⟩
  have hc : (Question.nanBits .f64 x b).cut (w.tape w.drawn (.nanBits .f64 x b)) = t := by rw [hT]; exact ht
  simp [binOp, Op.floatArith, hf, Question.forced, hc]
  rfl
theorem run_sub_any (x b : Nat) (w : World) : ∃ t q, t < 18446744073709551616 ∧ (binOp .sub 27 (.float .f64 x) (.float .f64 b)).run Tryd.prog w = .ok (.float .f64 t) (w.drewN q) := by
  cases h : double.sub x b with
  | none =>
    obtain ⟨t, q, h1, h2⟩ := run_sub_nan x b h w
    exact ⟨t, q, h1.1, h2⟩
  | some r =>
    refine ⟨r, 0, ?_, run_float_arith (P := Tryd.prog) w .sub 27 .f64 _ _ _ h⟩
    unfold Format.sub at h
    rw [Option.map_eq_some_iff] at h
    obtain ⟨d, -, rfl⟩ := h
    exact write_lt d
theorem run_quo_any (x b : Nat) (w : World) : ∃ t q, t < 18446744073709551616 ∧ (binOp .quo 27 (.float .f64 x) (.float .f64 b)).run Tryd.prog w = .ok (.float .f64 t) (w.drewN q) := by
  cases h : double.div x b with
  | none =>
    obtain ⟨t, q, h1, h2⟩ := run_quo_nan x b h w
    exact ⟨t, q, h1.1, h2⟩
  | some r => exact ⟨r, 0, div_lt x b r h, run_float_arith (P := Tryd.prog) w .quo 27 .f64 _ _ _ h⟩
/-- The step of the scale that fits. -/
def Qua.fby (xs : List Nat) : Nat := (double.div ((double.sub (Qua.highs xs) (Qua.lows xs)).getD 0) 4643176031446892544).getD 0
/-- Its zero, where the least is L and the step b. -/
def Qua.zer (L b : Nat) : Int := match double.div L b with
  | some t => (match double.sub 13862079653046386688 t with
    | some u => Flt.clamp (Flt.wv (Flt.round u)) (-128) 127
    | none => 0)
  | none => 0
theorem zer_facts (L b : Nat) (hL : Flt.nanb L = false) (hb : Qua.pos b = true) : ∃ t u, double.div L b = some t ∧ double.sub 13862079653046386688 t = some u ∧ u < 18446744073709551616 ∧ Qua.zer L b = Flt.clamp (Flt.wv (Flt.round u)) (-128) 127 := by
  obtain ⟨t, ht, hn, -⟩ := div_num L b hL hb
  obtain ⟨u, hu, hl⟩ := sub_some 13862079653046386688 t (by decide) (by decide) hn
  refine ⟨t, u, ht, hu, hl, ?_⟩
  unfold Qua.zer
  rw [ht]
  dsimp only
  rw [hu]
theorem zer_negzero (b : Nat) (hb : Qua.pos b = true) : Qua.zer 9223372036854775808 b = Qua.zer 0 b := by
  obtain ⟨n, j, e2, hn0⟩ := pos_read b hb
  have h : double.div 0 b = some 0 := by
    unfold Format.div
    rw [e2, show double.read 0 = .number false 0 (-1074) by decide +kernel]
    simp only [Datum.quotient, if_neg hn0, Option.map_some, Format.write, Nat.zero_shiftLeft, Nat.zero_div, Nat.zero_mod, Bool.xor_false]
    rw [show (2 * 0 + ((0 : Nat) != 0).toNat) = 0 by decide, Flt.nearest_zero]
    rfl
  have h2 : double.div 9223372036854775808 b = some 9223372036854775808 := by
    unfold Format.div
    rw [e2, show double.read 9223372036854775808 = .number true 0 (-1074) by decide +kernel]
    simp only [Datum.quotient, if_neg hn0, Option.map_some, Format.write, Nat.zero_shiftLeft, Nat.zero_div, Nat.zero_mod, Bool.xor_false]
    rw [show (2 * 0 + ((0 : Nat) != 0).toNat) = 0 by decide, Flt.nearest_zero]
    rfl
  unfold Qua.zer
  rw [h, h2]
  dsimp only
  rw [show double.sub 13862079653046386688 9223372036854775808 = some 13862079653046386688 by decide +kernel, show double.sub 13862079653046386688 0 = some 13862079653046386688 by decide +kernel]
/-- What the least of the program is. -/
theorem fit_facts (xs : List Nat) (h : ∀ x ∈ xs, x < 18446744073709551616) (lo : Nat) (hlo : Flt.least 0 (xs.filter Qua.fin) = lo) :
    ∃ d, double.sub (Qua.highs xs) lo = some d ∧ double.sub (Qua.highs xs) (Qua.lows xs) = some d ∧ double.div d 4643176031446892544 = some (Qua.fby xs) ∧ Qua.fby xs < 18446744073709551616 ∧ Flt.nanb lo = false ∧ Flt.nanb (Qua.lows xs) = false ∧ lo < 18446744073709551616 ∧
      (Qua.pos (Qua.fby xs) = true → Qua.zer lo (Qua.fby xs) = Qua.zer (Qua.lows xs) (Qua.fby xs)) := by
  obtain ⟨i1, i2, i3, i4, i5, i6, i7, -⟩ := lows_facts xs h
  rw [hlo] at i7
  obtain ⟨d, hd, hn, hl⟩ := sub_num (Qua.highs xs) (Qua.lows xs) (by omega) i2 i5 i1
  obtain ⟨r, hr, hrn, hrl⟩ := div_num d 4643176031446892544 hn (by decide)
  have hby : Qua.fby xs = r := by
    unfold Qua.fby
    rw [hd]
    dsimp only [Option.getD]
    rw [hr]
  have hnl : Flt.nanb (Qua.lows xs) = false := by
    unfold Qua.fin at i1
    rw [decide_eq_true_eq] at i1
    unfold Flt.nanb
    rw [decide_eq_false_iff_not]
    omega
  rw [hby]
  rcases i7 with rfl | ⟨rfl, h0⟩
  · exact ⟨d, hd, hd, hr, hrl, hnl, hnl, i2, fun _ => rfl⟩
  · refine ⟨d, ?_, hd, hr, hrl, by decide, hnl, by decide, fun hp => ?_⟩
    · rw [sub_negzero _ i6 i5, ← h0]
      exact hd
    · rw [h0]
      exact zer_negzero r hp
end Go.Proofs.YtboighnmgnjhdaaDoor
