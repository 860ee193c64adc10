/-
  What an operation element by element makes of one element. By an AI agent. No person has read it.
-/
import Derived.Test.YtgdcfjmpjhlndaaGreatDoorZFTenWn
import Derived.Test.YtgdcfjmpjhlndaaGreatDoorZFElmQ
namespace Go.Proofs.YtgdcfjmpjhlndaaGreatDoor
open Go.RowKit
/-- How many args such an operation has, and how many ins. -/
def Elm.nargs (op : Int) : Nat := if op = 9 then 2 else if op = 10 then 3 else if op = 11 then 1 else 0
def Elm.nins (op : Int) : Nat := if 4 ≤ op ∧ op ≤ 7 then 2 else 1
def Elm.known (op : Int) : Bool := decide (4 ≤ op ∧ op ≤ 11)
/-- What it makes of an element. -/
def Elm.val (op : Int) (u : Bool) (x y : Int) (qs : List Int) : Int :=
  if op = 8 then max x 0 else if op = 9 then max (qs.getD 0 0) (min x (qs.getD 1 0)) else if op = 10 then Qua.req x (qs.getD 0 0) (qs.getD 1 0) (qs.getD 2 0) else if op = 11 then IntKind.i64.wrap (x - qs.getD 0 0) else Elm.bin op u x y
theorem ri_one {w : World} {A : Option Addr} {a : Int} {l : List Int} (h : Ri w A (a :: l)) : ∃ ad, A = some ad ∧ ad.block < w.heap.size ∧ w.cell? ad = some (.int .i64 a) := by
  obtain ⟨ad, h1, h2, h3⟩ := h.2 (by simp)
  have := h3 0 a rfl
  rw [Addr.add_zero'] at this
  exact ⟨ad, h1, h2, this⟩
end Go.Proofs.YtgdcfjmpjhlndaaGreatDoor
