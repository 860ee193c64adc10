/-
  What the law TensSays's drawn statements hold. By an AI agent. No person has read it.
-/
import Derived.Test.YtnbjcdmiehnceaaDoorTenI
import Derived.Test.YtnbjcdmiehnceaaDoorTenN
import Derived.Test.YtnbjcdmiehnceaaDoorTenO
import Derived.Test.YtnbjcdmiehnceaaDoorShpD
import Derived.Deep.RegionHeld3
namespace Go.Proofs.YtnbjcdmiehnceaaDoor
open Go.RowKit

theorem Tens.fault_zero {zs ds : List Int} {u : Bool} (h : Tens.fault zs u ds = (0, none)) : Shp.code zs = 0 := by
  have := (Tens.fine h).1
  unfold Shp.ok at this
  exact of_decide_eq_true this
theorem nowhere (zs ds ys : List Int) (u : Bool) (h : Tens.fault zs u ds ≠ (0, none)) : Tens.get zs u ds ys = none := by unfold Tens.get; rw [if_neg h]
theorem fval_code (k : Nat) (o : Option Nat) : ∃ p i, Tens.fval (k, o) = gcells (k : Int) p i := by cases o <;> exact ⟨_, _, rfl⟩
/-- What is held through the law's first drawn statement. -/
abbrev SayS (B0 Bw Bf : Nat) (wr : World) (x1 x2 x3 y1 y2 y3 z1 z2 z3 : Value) (W : World) : Prop :=
  W.cell? ⟨B0, 0, none⟩ = some x1 ∧ W.cell? ⟨B0, 1, none⟩ = some x2 ∧ W.cell? ⟨B0, 2, none⟩ = some x3 ∧ W.cell? ⟨Bw, 0, none⟩ = some y1 ∧ W.cell? ⟨Bw, 1, none⟩ = some y2 ∧ W.cell? ⟨Bw, 2, none⟩ = some y3 ∧ W.cell? ⟨Bf, 0, none⟩ = some z1 ∧ W.cell? ⟨Bf, 1, none⟩ = some z2 ∧ W.cell? ⟨Bf, 2, none⟩ = some z3 ∧ Hid (Below wr.heap.size wr W)
theorem SayS.keep {B0 Bw Bf : Nat} {wr : World} {x1 x2 x3 y1 y2 y3 z1 z2 z3 : Value} {W W' : World} (h : SayS B0 Bw Bf wr x1 x2 x3 y1 y2 y3 z1 z2 z3 W) (hb : Below W.heap.size W W') : SayS B0 Bw Bf wr x1 x2 x3 y1 y2 y3 z1 z2 z3 W' := by
  obtain ⟨h1, h2, h3, h4, h5, h6, h7, h8, h9, h⟩ := h
  exact ⟨ten_kept h1 hb, ten_kept h2 hb, ten_kept h3 hb, ten_kept h4 hb, ten_kept h5 hb, ten_kept h6 hb, ten_kept h7 hb, ten_kept h8 hb, ten_kept h9 hb, hide (h.out.trans (hb.mono h.out.size))⟩
theorem SayS.low {B0 Bw Bf : Nat} {wr : World} {x1 x2 x3 y1 y2 y3 z1 z2 z3 : Value} {W : World} (h : SayS B0 Bw Bf wr x1 x2 x3 y1 y2 y3 z1 z2 z3 W) : Below wr.heap.size wr W := h.2.2.2.2.2.2.2.2.2.out

abbrev ZerS (B0 Bz : Nat) (wr : World) (x1 x2 x3 y1 y2 y3 : Value) (W : World) : Prop :=
  W.cell? ⟨B0, 0, none⟩ = some x1 ∧ W.cell? ⟨B0, 1, none⟩ = some x2 ∧ W.cell? ⟨B0, 2, none⟩ = some x3 ∧ W.cell? ⟨Bz, 0, none⟩ = some y1 ∧ W.cell? ⟨Bz, 1, none⟩ = some y2 ∧ W.cell? ⟨Bz, 2, none⟩ = some y3 ∧ Hid (Below wr.heap.size wr W)
theorem ZerS.keep {B0 Bz : Nat} {wr : World} {x1 x2 x3 y1 y2 y3 : Value} {W W' : World} (h : ZerS B0 Bz wr x1 x2 x3 y1 y2 y3 W) (hb : Below W.heap.size W W') : ZerS B0 Bz wr x1 x2 x3 y1 y2 y3 W' := by
  obtain ⟨h1, h2, h3, h4, h5, h6, h⟩ := h
  exact ⟨ten_kept h1 hb, ten_kept h2 hb, ten_kept h3 hb, ten_kept h4 hb, ten_kept h5 hb, ten_kept h6 hb, hide (h.out.trans (hb.mono h.out.size))⟩
theorem ZerS.low {B0 Bz : Nat} {wr : World} {x1 x2 x3 y1 y2 y3 : Value} {W : World} (h : ZerS B0 Bz wr x1 x2 x3 y1 y2 y3 W) : Below wr.heap.size wr W := h.2.2.2.2.2.2.out

end Go.Proofs.YtnbjcdmiehnceaaDoor
