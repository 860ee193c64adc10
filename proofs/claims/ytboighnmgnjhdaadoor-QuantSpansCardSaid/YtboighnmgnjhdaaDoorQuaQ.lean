/-
  What a narrow number stands for. By an AI agent. No person has read it.
-/
import Derived.Test.YtboighnmgnjhdaaDoorQuaP
namespace Go.Proofs.YtboighnmgnjhdaaDoor
open Go.RowKit
open Ieee

def Qua.back (b : Nat) (z q : Int) : Nat := (double.mul b (Flt.mk (Flt.clamp q (-128) 127 - z) 0)).getD 0
theorem back_mul (b : Nat) (z q : Int) (hz : -128 ≤ z ∧ z ≤ 127) (hb : Qua.pos b = true) : double.mul b (Flt.mk (Flt.clamp q (-128) 127 - z) 0) = some (Qua.back b z q) ∧ Qua.back b z q < 18446744073709551616 := by
  have b1 := clamp_in q (-128) 127 (by decide)
  obtain ⟨f1, f2, -, -⟩ := whole_facts (Flt.clamp q (-128) 127 - z) (by omega)
  obtain ⟨r, hr⟩ := mul_some (Flt.mk (Flt.clamp q (-128) 127 - z) 0) b f1 f2 hb
  unfold Qua.back
  rw [hr]
  exact ⟨rfl, mul_lt _ _ _ hr⟩
set_option maxRecDepth 100000 in
set_option maxHeartbeats 4000000 in
theorem back_c (b : Nat) (z q : Int) (hz : -128 ≤ z ∧ z ≤ 127) (hb : Qua.pos b = true) (w : World) :
    Calls Tryd.prog 29 #[.agg #[.float .f64 b, .int .i64 z], .int .i64 q] w fun e w' => e = .returned (.float .f64 (Qua.back b z q)) ∧ Below w.heap.size w w' := by
  have HB := hide ((Below.refl w.heap.size w).alloc (Nat.le_refl _) (.cells #[.float .f64 b, .int .i64 z] 33))
  have hn0 := scale_cells w b z
  have hm := (back_mul b z q hz hb).1
  have b1 := clamp_in q (-128) 127 (by decide)
  have HN := hide (qnarrow_c q)
  obtain ⟨c, hc⟩ : ∃ c, Hid (Flt.clamp q (-128) 127 = c) := ⟨_, hide rfl⟩
  rw [hc.out] at HN hm b1
  have s1 : IntKind.i64.wrap (c - z) = c - z := iwrap_small _ (by omega) (by omega)
  have hf := float_of_any (c - z)
  obtain ⟨f, hf2⟩ : ∃ f, Hid (Flt.mk (c - z) 0 = f) := ⟨_, hide rfl⟩
  obtain ⟨r, hr⟩ : ∃ r, Hid (Qua.back b z q = r) := ⟨_, hide rfl⟩
  rw [hf2.out] at hf hm
  rw [hr.out] at hm ⊢
  have hq : ∀ W : World, (binOp .mul 27 (.float .f64 b) (.float .f64 f)).run Tryd.prog W = .ok (.float .f64 r) W := fun W => run_float_arith (P := Tryd.prog) W .mul 27 .f64 _ _ _ hm
  clear hc hf2 hr hm hz hb b1
  go_enter Tryd.func29, Tryd.ntmps29
  go_wp2_with fail
  go_region_held3 (fun W => W.cell? ⟨w.heap.size, 0, none⟩ = some (.float .f64 b) ∧ W.cell? ⟨w.heap.size, 1, none⟩ = some (.int .i64 z))
    (first | exact hn0 | assumption)
    (first
      | (go_at_call 66; refine (HN.out _).mono ?_; rintro e W2 ⟨rfl, rfl⟩))
  go_wp2_with fail
  go_ret
  exact ⟨rfl, HB.out.drew⟩
set_option maxRecDepth 100000 in
set_option maxHeartbeats 4000000 in
theorem refback_c (b : Nat) (z q : Int) (hz : -128 ≤ z ∧ z ≤ 127) (hb : Qua.pos b = true) (w : World) :
    Calls Tryd.prog 30 #[.float .f64 b, .int .i64 z, .int .i64 q] w fun e w' => e = .returned (.float .f64 (Qua.back b z q)) ∧ w' = w := by
  have hm := (back_mul b z q hz hb).1
  have b1 := clamp_in q (-128) 127 (by decide)
  have HN := hide (refclamp_c q (-128) 127 (by decide))
  obtain ⟨c, hc⟩ : ∃ c, Hid (Flt.clamp q (-128) 127 = c) := ⟨_, hide rfl⟩
  rw [hc.out] at HN hm b1
  have s1 : IntKind.i64.wrap (c - z) = c - z := iwrap_small _ (by omega) (by omega)
  have hf := float_of_any (c - z)
  obtain ⟨f, hf2⟩ : ∃ f, Hid (Flt.mk (c - z) 0 = f) := ⟨_, hide rfl⟩
  obtain ⟨r, hr⟩ : ∃ r, Hid (Qua.back b z q = r) := ⟨_, hide rfl⟩
  rw [hf2.out] at hf hm
  rw [hr.out] at hm ⊢
  have hq : ∀ W : World, (binOp .mul 27 (.float .f64 b) (.float .f64 f)).run Tryd.prog W = .ok (.float .f64 r) W := fun W => run_float_arith (P := Tryd.prog) W .mul 27 .f64 _ _ _ hm
  clear hc hf2 hr hm hz hb b1
  go_enter Tryd.func30, Tryd.ntmps30
  go_wp2_with fail
  refine (HN.out _).mono ?_
  rintro e w1 ⟨rfl, rfl⟩
  go_wp2_with fail
  go_ret
  exact ⟨rfl, rfl⟩
/-- Nothing, and the infinite ones. -/
theorem val_zero (b : Nat) (hb : Qua.pos b = true) : Qua.val 0 b = 0 := by
  obtain ⟨n, j, e2, hn0⟩ := pos_read b hb
  have h : double.div 0 b = some 0 := by
    unfold Format.div
    rw [e2, show double.read 0 = .number false 0 (-1074) by decide +kernel]
    simp only [Datum.quotient, if_neg hn0, Option.map_some, Format.write, Nat.zero_shiftLeft, Nat.zero_div, Nat.zero_mod, Bool.xor_false]
    rw [show (2 * 0 + ((0 : Nat) != 0).toNat) = 0 by decide, Flt.nearest_zero]
    rfl
  unfold Qua.val
  rw [h]
  decide +kernel
theorem val_inf (b : Nat) (hb : Qua.pos b = true) : Qua.val 9218868437227405312 b = 9223372036854775807 ∧ Qua.val 18442240474082181120 b = -9223372036854775808 := by
  obtain ⟨n, j, e2, hn0⟩ := pos_read b hb
  have h : double.div 9218868437227405312 b = some 9218868437227405312 := by
    unfold Format.div
    rw [e2, show double.read 9218868437227405312 = .infinity false by decide +kernel]
    rfl
  have h2 : double.div 18442240474082181120 b = some 18442240474082181120 := by
    unfold Format.div
    rw [e2, show double.read 18442240474082181120 = .infinity true by decide +kernel]
    rfl
  unfold Qua.val
  rw [h, h2]
  constructor <;> decide +kernel
theorem of_ends (b : Nat) (z : Int) (hz : -128 ≤ z ∧ z ≤ 127) (hb : Qua.pos b = true) : Qua.of b z 0 = z ∧ Qua.of b z 9218868437227405312 = 127 ∧ Qua.of b z 18442240474082181120 = -128 ∧ Qua.of b z 9221120237041090561 = z := by
  obtain ⟨v1, v2⟩ := val_inf b hb
  refine ⟨?_, ?_, ?_, of_nan b _ z hz (by decide)⟩
  · unfold Qua.of
    rw [val_zero b hb]
    unfold Flt.clamp
    split <;> split <;> split <;> split <;> omega
  · unfold Qua.of
    rw [v1]
    unfold Flt.clamp
    split <;> split <;> split <;> split <;> omega
  · unfold Qua.of
    rw [v2]
    unfold Flt.clamp
    split <;> split <;> split <;> split <;> omega
end Go.Proofs.YtboighnmgnjhdaaDoor
