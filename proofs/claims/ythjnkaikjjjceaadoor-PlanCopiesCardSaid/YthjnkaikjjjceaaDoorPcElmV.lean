/-
  What an operation element by element makes of one element. By an AI agent. No person has read it.
-/
import Derived.Test.YthjnkaikjjjceaaDoorPcTenCard
import Derived.Deep.RegionHeld3
namespace Go.Proofs.YthjnkaikjjjceaaDoor
open Go.RowKit
/-- How many args such an operation has, and how many ins. -/
def Elm.nargs (op : Int) : Nat := if op = 9 then 2 else if op = 10 then 3 else if op = 11 then 1 else 0
def Elm.nins (op : Int) : Nat := if 4 ≤ op ∧ op ≤ 7 then 2 else 1
def Elm.known (op : Int) : Bool := decide (4 ≤ op ∧ op ≤ 11)
end Go.Proofs.YthjnkaikjjjceaaDoor
