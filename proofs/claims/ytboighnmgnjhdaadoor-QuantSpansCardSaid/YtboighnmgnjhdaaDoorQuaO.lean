/-
  The narrow number that stands for any number best. By an AI agent. No person has read it.
-/
import Derived.Test.YtboighnmgnjhdaaDoorQuaN
import Derived.Deep.RegionLaw
namespace Go.Proofs.YtboighnmgnjhdaaDoor
open Go.RowKit
open Ieee

theorem below_dn {B : Nat} {a w : World} (h : Below B a w) (n : Nat) : Below B a (w.drewN n) := h.trans ⟨rfl, rfl, rfl, Nat.le_refl _, fun _ _ => rfl⟩
theorem div_lt (x b r : Nat) (h : double.div x b = some r) : r < 18446744073709551616 := by
  unfold Ieee.Format.div at h
  rw [Option.map_eq_some_iff] at h
  obtain ⟨d, -, rfl⟩ := h
  exact write_lt d
theorem nanbits (T t : Nat) (ht : (T % 2) * 9223372036854775808 + 9218868437227405312 + 1 + (T / 2) % 4503599627370495 = t) : t < 18446744073709551616 ∧ Flt.nanb t = true := by
  refine ⟨by omega, ?_⟩
  unfold Flt.nanb
  rw [decide_eq_true_eq]
  have h3 : T / 2 % 4503599627370495 < 4503599627370495 := Nat.mod_lt _ (by decide)
  generalize T / 2 % 4503599627370495 = z at *
  rcases Nat.mod_two_eq_zero_or_one T with h2 | h2 <;> rw [h2] at ht <;> omega
theorem run_quo_nan (x b : Nat) (h : double.div x b = none) (w : World) : ∃ t q, (t < 18446744073709551616 ∧ Flt.nanb t = true) ∧ (binOp .quo 27 (.float .f64 x) (.float .f64 b)).run Tryd.prog w = .ok (.float .f64 t) (w.drewN q) := by
  have hf : FloatKind.f64.format.div x b = none := h
  obtain ⟨T, hT⟩ : ∃ T, w.tape w.drawn (.nanBits .f64 x b) = T := ⟨_, rfl⟩
  obtain ⟨t, ht⟩ : ∃ t, (T % 2) * 9223372036854775808 + 9218868437227405312 + 1 + (T / 2) % 4503599627370495 = t := ⟨_, rfl⟩
  refine ⟨t, 1, nanbits T t ht, ?_⟩
  have hc : (Question.nanBits .f64 x b).cut (w.tape w.drawn (.nanBits .f64 x b)) = t := by rw [hT]; exact ht
  simp [binOp, Op.floatArith, hf, Question.forced, hc]
  rfl
def Qua.val (x b : Nat) : Int := match double.div x b with
  | some r => Flt.wv (Flt.round r)
  | none => 0
def Qua.of (b : Nat) (z : Int) (x : Nat) : Int := Flt.clamp (Flt.clamp (Qua.val x b) (-255) 255 + z) (-128) 127
theorem round_nan (t : Nat) (ht : t < 18446744073709551616) (hn : Flt.nanb t = true) : Flt.wv (Flt.round t) = 0 := by
  rw [round_rround t ht]
  exact wv_nan ((Flt.nan_rround t ht).trans hn)
theorem scale_cells (w : World) (b : Nat) (z : Int) : (w.alloc (.cells #[.float .f64 b, .int .i64 z] 33)).cell? ⟨w.heap.size, 0, none⟩ = some (.float .f64 b) ∧ (w.alloc (.cells #[.float .f64 b, .int .i64 z] 33)).cell? ⟨w.heap.size, 1, none⟩ = some (.int .i64 z) := by
  have h := Has.new w 33 [.float .f64 b, .int .i64 z]
  exact ⟨h.cell 0, h.cell 1⟩
set_option maxRecDepth 100000 in
set_option maxHeartbeats 4000000 in
theorem of_c (b x : Nat) (z : Int) (hz : -128 ≤ z ∧ z ≤ 127) (w : World) :
    Calls Tryd.prog 27 #[.agg #[.float .f64 b, .int .i64 z], .float .f64 x] w fun e w' => e = .returned (.int .i64 (Qua.of b z x)) ∧ Below w.heap.size w w' := by
  have hB := (Below.refl w.heap.size w).alloc (Nat.le_refl _) (.cells #[.float .f64 b, .int .i64 z] 33)
  have HB := hide hB
  have hn0 := scale_cells w b z
  unfold Qua.of Qua.val
  cases h : double.div x b with
  | some r =>
    dsimp only
    have hq : ∀ W : World, (binOp .quo 27 (.float .f64 x) (.float .f64 b)).run Tryd.prog W = .ok (.float .f64 r) W := fun W => run_float_arith (P := Tryd.prog) W .quo 27 .f64 _ _ _ h
    have HW := hide (wholeof_c r (div_lt x b r h) (-255) 255)
    have b1 := clamp_in (Flt.wv (Flt.round r)) (-255) 255 (by decide)
    obtain ⟨v, hv⟩ : ∃ v, Hid (Flt.clamp (Flt.wv (Flt.round r)) (-255) 255 = v) := ⟨_, hide rfl⟩
    rw [hv.out] at HW b1 ⊢
    have HN := hide (qnarrow_c (v + z))
    have s1 : IntKind.i64.wrap (v + z) = v + z := iwrap_small _ (by omega) (by omega)
    clear hv hB hz h
    go_enter Tryd.func27, Tryd.ntmps27
    go_wp2_with fail
    go_region_held3 (fun W => W.cell? ⟨w.heap.size, 0, none⟩ = some (.float .f64 b) ∧ W.cell? ⟨w.heap.size, 1, none⟩ = some (.int .i64 z))
      (first | exact hn0 | assumption)
      (first
        | (go_at_call 67; refine (HW.out _).mono ?_; rintro e W2 ⟨rfl, rfl⟩)
        | (go_at_call 66; refine (HN.out _).mono ?_; rintro e W2 ⟨rfl, rfl⟩))
    go_wp2_with fail
    go_ret
    exact ⟨rfl, HB.out.drew⟩
  | none =>
    dsimp only
    obtain ⟨T, Q, hT⟩ : ∃ (T : World → Nat) (Q : World → Nat), ∀ W, (binOp .quo 27 (.float .f64 x) (.float .f64 b)).run Tryd.prog W = .ok (.float .f64 (T W)) (W.drewN (Q W)) ∧ ∀ W', Calls Tryd.prog 67 #[.float .f64 (T W), .int .i64 (-255), .int .i64 255] W' fun e w' => e = .returned (.int .i64 0) ∧ w' = W' := by
      refine ⟨fun W => (run_quo_nan x b h W).choose, fun W => (run_quo_nan x b h W).choose_spec.choose, fun W => ⟨(run_quo_nan x b h W).choose_spec.choose_spec.2, fun W' => ?_⟩⟩
      obtain ⟨t1, t2⟩ := (run_quo_nan x b h W).choose_spec.choose_spec.1
      have := wholeof_c _ t1 (-255) 255 W'
      rw [round_nan _ t1 t2] at this
      exact this
    have hq : ∀ W, (binOp .quo 27 (.float .f64 x) (.float .f64 b)).run Tryd.prog W = .ok (.float .f64 (T W)) (W.drewN (Q W)) := fun W => (hT W).1
    have HW := hide (fun W => (hT W).2)
    rw [show Flt.clamp 0 (-255) 255 = 0 by decide, Int.zero_add]
    have HN := hide (qnarrow_c z)
    have s1 : IntKind.i64.wrap z = z := iwrap_small _ (by omega) (by omega)
    clear hB hz h hT
    go_enter Tryd.func27, Tryd.ntmps27
    go_wp2_with fail
    go_region_law (first
        | (go_simp; go_at_call 67; refine (HW.out _ _).mono ?_; rintro e W2 ⟨rfl, rfl⟩)
        | (go_simp; go_at_call 66; refine (HN.out _).mono ?_; rintro e W2 ⟨rfl, rfl⟩))
    all_goals
      go_wp2_with fail
      go_ret
      exact ⟨rfl, below_dn HB.out _⟩
end Go.Proofs.YtboighnmgnjhdaaDoor
