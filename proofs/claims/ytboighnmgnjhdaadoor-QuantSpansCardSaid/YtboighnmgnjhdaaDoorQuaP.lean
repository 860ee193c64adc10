/-
  The reference's narrow number, and what a narrow number stands for. By an AI agent. No person has read it.
-/
import Derived.Test.YtboighnmgnjhdaaDoorQuaO
import Derived.Test.YtboighnmgnjhdaaDoorQuaD
namespace Go.Proofs.YtboighnmgnjhdaaDoor
open Go.RowKit
open Ieee

theorem pos_read (b : Nat) (h : Qua.pos b = true) : ∃ m i, double.read b = .number false m i ∧ m ≠ 0 := by
  unfold Qua.pos at h
  rw [decide_eq_true_eq] at h
  obtain ⟨m, i, e1, -, hm, -⟩ := Flt.read_num b (by omega) (by omega)
  refine ⟨m, i, by rw [e1]; congr 1; rw [decide_eq_false_iff_not]; omega, ?_⟩
  rintro rfl
  have := mag_lt 0 b (by omega)
  rw [Nat.zero_mul] at hm
  have h0 : Flt.mag 0 = 0 := rfl
  omega
theorem div_none (x b : Nat) (hn : Flt.nanb x = true) : double.div x b = none := by
  have h := Flt.order_self x
  rw [hn, if_pos rfl] at h
  unfold Format.order at h
  unfold Format.div
  cases hr : double.read x with
  | number s m e => rw [hr] at h; simp [Datum.order] at h
  | infinity s => rw [hr] at h; simp [Datum.order] at h
  | nan s f => simp [Datum.quotient]
theorem num_read (x : Nat) (hn : Flt.nanb x = false) : (∃ s m i, double.read x = .number s m i) ∨ (∃ s, double.read x = .infinity s) := by
  have h := Flt.order_self x
  rw [hn, if_neg (by decide)] at h
  unfold Format.order at h
  cases hr : double.read x with
  | number s m e => exact .inl ⟨s, m, e, rfl⟩
  | infinity s => exact .inr ⟨s, rfl⟩
  | nan s f => rw [hr] at h; simp [Datum.order] at h
theorem div_some (x b : Nat) (hn : Flt.nanb x = false) (hb : Qua.pos b = true) : ∃ r, double.div x b = some r := by
  obtain ⟨n, j, e2, hn0⟩ := pos_read b hb
  unfold Format.div
  rw [e2]
  rcases num_read x hn with ⟨s, m, i, e1⟩ | ⟨s, e1⟩
  · rw [e1]
    simp only [Datum.quotient, if_neg hn0, Option.map_some]
    exact ⟨_, rfl⟩
  · rw [e1]
    exact ⟨_, rfl⟩
theorem mul_some (x b : Nat) (hx : x < 18446744073709551616) (h7 : x % 9223372036854775808 < 9218868437227405312) (hb : Qua.pos b = true) : ∃ r, double.mul b x = some r := by
  obtain ⟨n, j, e2, hn0⟩ := pos_read b hb
  obtain ⟨m, i, e1, -⟩ := Flt.read_num x hx h7
  unfold Format.mul
  rw [e1, e2]
  exact ⟨_, rfl⟩
theorem mul_lt (x b r : Nat) (h : double.mul x b = some r) : r < 18446744073709551616 := by
  unfold Ieee.Format.mul at h
  rw [Option.map_eq_some_iff] at h
  obtain ⟨d, -, rfl⟩ := h
  exact write_lt d
theorem val_nan (x b : Nat) (hn : Flt.nanb x = true) : Qua.val x b = 0 := by
  unfold Qua.val
  rw [div_none x b hn]
theorem clamp_wide (v z : Int) (hz : -128 ≤ z ∧ z ≤ 127) : Flt.clamp (Flt.clamp v (-1000) 1000 + z) (-128) 127 = Flt.clamp (Flt.clamp v (-255) 255 + z) (-128) 127 := by
  unfold Flt.clamp
  split <;> split <;> split <;> split <;> split <;> split <;> omega
theorem of_nan (b x : Nat) (z : Int) (hz : -128 ≤ z ∧ z ≤ 127) (hn : Flt.nanb x = true) : Qua.of b z x = z := by
  unfold Qua.of
  rw [val_nan x b hn]
  unfold Flt.clamp
  split <;> split <;> split <;> split <;> omega
set_option maxRecDepth 100000 in
set_option maxHeartbeats 4000000 in
theorem refquant_c (b x : Nat) (z : Int) (hz : -128 ≤ z ∧ z ≤ 127) (hb : Qua.pos b = true) (hx : x < 18446744073709551616) (w : World) :
    Calls Tryd.prog 28 #[.float .f64 b, .int .i64 z, .float .f64 x] w fun e w' => e = .returned (.int .i64 (Qua.of b z x)) ∧ w' = w := by
  have HN := hide (refnan_c x hx)
  cases hn : Flt.nanb x
  · obtain ⟨r, hr⟩ := div_some x b hn hb
    rw [hn] at HN
    have hq : ∀ W : World, (binOp .quo 27 (.float .f64 x) (.float .f64 b)).run Tryd.prog W = .ok (.float .f64 r) W := fun W => run_float_arith (P := Tryd.prog) W .quo 27 .f64 _ _ _ hr
    have HW := hide (refwhole_c r (div_lt x b r hr) (-1000) 1000 (by decide) (by decide) (by decide))
    rw [← Flt.clamp_cut, ← round_rround r (div_lt x b r hr)] at HW
    have b1 := clamp_in (Flt.wv (Flt.round r)) (-1000) 1000 (by decide)
    have e1 := clamp_wide (Flt.wv (Flt.round r)) z hz
    unfold Qua.of Qua.val
    rw [hr]
    dsimp only
    rw [← e1]
    obtain ⟨v, hv⟩ : ∃ v, Hid (Flt.clamp (Flt.wv (Flt.round r)) (-1000) 1000 = v) := ⟨_, hide rfl⟩
    rw [hv.out] at HW b1 ⊢
    have HC := hide (refclamp_c (v + z) (-128) 127 (by decide))
    have s1 : IntKind.i64.wrap (v + z) = v + z := iwrap_small _ (by omega) (by omega)
    clear hv hz e1 hr hn hx hb
    go_enter Tryd.func28, Tryd.ntmps28
    go_wp2_with fail
    refine (HN.out _).mono ?_
    rintro e w1 ⟨rfl, rfl⟩
    go_wp2_with fail
    refine (HW.out _).mono ?_
    rintro e w1 ⟨rfl, rfl⟩
    go_wp2_with fail
    refine (HC.out _).mono ?_
    rintro e w1 ⟨rfl, rfl⟩
    go_wp2_with fail
    go_ret
    exact ⟨rfl, rfl⟩
  · rw [of_nan b x z hz hn]
    rw [hn] at HN
    clear hz hn hx hb
    go_enter Tryd.func28, Tryd.ntmps28
    go_wp2_with fail
    refine (HN.out _).mono ?_
    rintro e w1 ⟨rfl, rfl⟩
    go_wp2_with fail
    go_ret
    exact ⟨rfl, rfl⟩
end Go.Proofs.YtboighnmgnjhdaaDoor
