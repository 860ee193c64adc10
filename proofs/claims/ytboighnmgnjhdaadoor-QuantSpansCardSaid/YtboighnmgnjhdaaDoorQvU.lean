/-
  math.Min and math.Max of whole numbers. By an AI agent. No person has read it.
-/
import Derived.Test.YtboighnmgnjhdaaDoorQuaY
import Derived.Test.YtboighnmgnjhdaaDoorQvA
namespace Go.Proofs.YtboighnmgnjhdaaDoor
open Go.RowKit
open Ieee

theorem mk_datum (c : Int) (hc : c.natAbs < 1000000) : ∃ s m i, FloatKind.f64.decode (Flt.mk c 0) = .number s m i ∧ (m = 0 → c = 0 ∧ s = false) := by
  by_cases h0 : c = 0
  · subst h0
    rw [mk_zero]
    exact ⟨false, 0, -1074, (by decide +kernel : double.read 0 = .number false 0 (-1074)), fun _ => ⟨rfl, rfl⟩⟩
  · obtain ⟨m, i, hr, m1, -⟩ := mk_read c 0 h0 (by omega) (by decide) (by decide)
    exact ⟨_, m, i, hr, fun h => by omega⟩
theorem pick_eq (name : String) (neg : Bool) (win : Ordering) (x y : Nat) : Extern.MathDim.pick name neg win #[.float .f64 x, .float .f64 y] = pure (.float .f64 (if (FloatKind.f64.decode x == Datum.infinity neg || FloatKind.f64.decode y == Datum.infinity neg) = true then FloatKind.f64.encode (Datum.infinity neg)
        else if ((FloatKind.f64.decode x).isNaN || (FloatKind.f64.decode y).isNaN) = true then 9221120237041090561
        else if ((FloatKind.f64.decode x).isZero && (FloatKind.f64.decode y).isZero) = true then (if ((FloatKind.f64.decode x).neg == neg) = true then x else y)
        else if ((FloatKind.f64.decode x).order (FloatKind.f64.decode y) == some win) = true then x else y)) := rfl
theorem run_min (c d : Int) (hc : c.natAbs < 1000000) (hd : d.natAbs < 1000000) (w : World) : (callFunc 78 #[.float .f64 (Flt.mk c 0), .float .f64 (Flt.mk d 0)]).run Tryd.prog w = .ok (.value (.float .f64 (Flt.mk (min c d) 0))) w := by
  obtain ⟨s, m, i, e1, z1⟩ := mk_datum c hc
  obtain ⟨t, n, j, e2, z2⟩ := mk_datum d hd
  have ho := order_mk c d 0 hc hd (by decide) (by decide)
  have hr : (Extern.MathDim.pick "math.archMin" true .lt #[.float .f64 (Flt.mk c 0), .float .f64 (Flt.mk d 0)]).run Tryd.prog w = .ok (.float .f64 (Flt.mk (min c d) 0)) w := by
    have ho' : (FloatKind.f64.decode (Flt.mk c 0)).order (FloatKind.f64.decode (Flt.mk d 0)) = some (compare c d) := ho
    rw [pick_eq]
    rw [e1, e2] at ho' ⊢
    have hr : (if (Datum.number s m i == Datum.infinity true || Datum.number t n j == Datum.infinity true) = true then FloatKind.f64.encode (Datum.infinity true)
        else if ((Datum.number s m i).isNaN || (Datum.number t n j).isNaN) = true then 9221120237041090561
        else if ((Datum.number s m i).isZero && (Datum.number t n j).isZero) = true then (if ((Datum.number s m i).neg == true) = true then Flt.mk c 0 else Flt.mk d 0)
        else if ((Datum.number s m i).order (Datum.number t n j) == some Ordering.lt) = true then Flt.mk c 0 else Flt.mk d 0) = Flt.mk (min c d) 0 := by
      rw [if_neg (by simp), if_neg (by simp [Datum.isNaN])]
      by_cases hz : ((Datum.number s m i).isZero && (Datum.number t n j).isZero) = true
      · rw [if_pos hz]
        have hm : m = 0 ∧ n = 0 := by
          rw [Bool.and_eq_true] at hz
          constructor
          · cases m with
            | zero => rfl
            | succ m => exact absurd hz.1 (by simp [Datum.isZero])
          · cases n with
            | zero => rfl
            | succ n => exact absurd hz.2 (by simp [Datum.isZero])
        obtain ⟨rfl, rfl⟩ := z1 hm.1
        obtain ⟨rfl, rfl⟩ := z2 hm.2
        rfl
      · rw [if_neg hz, ho']
        rcases Int.lt_trichotomy c d with h | h | h
        · rw [Int.compare_eq_lt.2 h, if_pos (by decide), Int.min_eq_left (by omega)]
        · rw [Int.compare_eq_eq.2 h, if_neg (by decide), Int.min_eq_right (by omega)]
        · rw [Int.compare_eq_gt.2 h, if_neg (by decide), Int.min_eq_right (by omega)]
    rw [hr]
    rfl
  rw [run_callFunc_extern Tryd.func78 (by kernel_rfl) (by kernel_rfl) (by kernel_rfl) (show Extern.find Tryd.f78 = some (Extern.MathDim.pick "math.archMin" true .lt) by kernel_rfl), hr]
  rfl
theorem run_max (c d : Int) (hc : c.natAbs < 1000000) (hd : d.natAbs < 1000000) (w : World) : (callFunc 80 #[.float .f64 (Flt.mk c 0), .float .f64 (Flt.mk d 0)]).run Tryd.prog w = .ok (.value (.float .f64 (Flt.mk (max c d) 0))) w := by
  obtain ⟨s, m, i, e1, z1⟩ := mk_datum c hc
  obtain ⟨t, n, j, e2, z2⟩ := mk_datum d hd
  have ho := order_mk c d 0 hc hd (by decide) (by decide)
  have hr : (Extern.MathDim.pick "math.archMax" false .gt #[.float .f64 (Flt.mk c 0), .float .f64 (Flt.mk d 0)]).run Tryd.prog w = .ok (.float .f64 (Flt.mk (max c d) 0)) w := by
    have ho' : (FloatKind.f64.decode (Flt.mk c 0)).order (FloatKind.f64.decode (Flt.mk d 0)) = some (compare c d) := ho
    rw [pick_eq]
    rw [e1, e2] at ho' ⊢
    have hr : (if (Datum.number s m i == Datum.infinity false || Datum.number t n j == Datum.infinity false) = true then FloatKind.f64.encode (Datum.infinity false)
        else if ((Datum.number s m i).isNaN || (Datum.number t n j).isNaN) = true then 9221120237041090561
        else if ((Datum.number s m i).isZero && (Datum.number t n j).isZero) = true then (if ((Datum.number s m i).neg == false) = true then Flt.mk c 0 else Flt.mk d 0)
        else if ((Datum.number s m i).order (Datum.number t n j) == some Ordering.gt) = true then Flt.mk c 0 else Flt.mk d 0) = Flt.mk (max c d) 0 := by
      rw [if_neg (by simp), if_neg (by simp [Datum.isNaN])]
      by_cases hz : ((Datum.number s m i).isZero && (Datum.number t n j).isZero) = true
      · rw [if_pos hz]
        have hm : m = 0 ∧ n = 0 := by
          rw [Bool.and_eq_true] at hz
          constructor
          · cases m with
            | zero => rfl
            | succ m => exact absurd hz.1 (by simp [Datum.isZero])
          · cases n with
            | zero => rfl
            | succ n => exact absurd hz.2 (by simp [Datum.isZero])
        obtain ⟨rfl, rfl⟩ := z1 hm.1
        obtain ⟨rfl, rfl⟩ := z2 hm.2
        rfl
      · rw [if_neg hz, ho']
        rcases Int.lt_trichotomy c d with h | h | h
        · rw [Int.compare_eq_lt.2 h, if_neg (by decide), Int.max_eq_right (by omega)]
        · rw [Int.compare_eq_eq.2 h, if_neg (by decide), Int.max_eq_right (by omega)]
        · rw [Int.compare_eq_gt.2 h, if_pos (by decide), Int.max_eq_left (by omega)]
    rw [hr]
    rfl
  rw [run_callFunc_extern Tryd.func80 (by kernel_rfl) (by kernel_rfl) (by kernel_rfl) (show Extern.find Tryd.f80 = some (Extern.MathDim.pick "math.archMax" false .gt) by kernel_rfl), hr]
  rfl
set_option maxRecDepth 100000 in
theorem mathmin_c (c d : Int) (hc : c.natAbs < 1000000) (hd : d.natAbs < 1000000) (w : World) :
    Calls Tryd.prog 48 #[.float .f64 (Flt.mk c 0), .float .f64 (Flt.mk d 0)] w fun e w' => e = .returned (.float .f64 (Flt.mk (min c d) 0)) ∧ w' = w := by
  have h := run_min c d hc hd
  generalize Flt.mk c 0 = x at *
  generalize Flt.mk d 0 = y at *
  generalize Flt.mk (min c d) 0 = z at *
  go_enter Tryd.func48, Tryd.ntmps48
  go_wp2_with fail
  go_ret
  exact ⟨rfl, rfl⟩
set_option maxRecDepth 100000 in
theorem mathmax_c (c d : Int) (hc : c.natAbs < 1000000) (hd : d.natAbs < 1000000) (w : World) :
    Calls Tryd.prog 49 #[.float .f64 (Flt.mk c 0), .float .f64 (Flt.mk d 0)] w fun e w' => e = .returned (.float .f64 (Flt.mk (max c d) 0)) ∧ w' = w := by
  have h := run_max c d hc hd
  generalize Flt.mk c 0 = x at *
  generalize Flt.mk d 0 = y at *
  generalize Flt.mk (max c d) 0 = z at *
  go_enter Tryd.func49, Tryd.ntmps49
  go_wp2_with fail
  go_ret
  exact ⟨rfl, rfl⟩
end Go.Proofs.YtboighnmgnjhdaaDoor
