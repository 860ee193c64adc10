/-
  conv.Cell, walked. By an AI agent. No person has read it.
-/
import Derived.Test.YtgdcfjmpjhlndaaGreatDoorZFOpK
import Derived.Test.YtgdcfjmpjhlndaaGreatDoorZFRefR
import Derived.Test.YtgdcfjmpjhlndaaGreatDoorZFRefI
namespace Go.Proofs.YtgdcfjmpjhlndaaGreatDoor
open Go.RowKit
/-- conv.Cell's answer: an element; 0 of a place that is none, and where something is amiss. -/
def Cv.cell (qs : List Int) (a b : Ten) (i : Int) : Int := if Cel.fault [a, b] (Cv.code qs a.look b.look) = (0, none) then (if 0 ≤ i then (Cv.ds qs a b).getD i.toNat 0 else 0) else 0
end Go.Proofs.YtgdcfjmpjhlndaaGreatDoor
namespace Go.Proofs.YtgdcfjmpjhlndaaGreatDoor
open Go.RowKit
/-- What lodgeref3.conv reads. -/
def RcS (p0 p1 p2 p3 p4 p5 p6 p7 p8 p9 p10 p11 p12 p13 p14 p15 : Addr) (v0 v1 v2 v3 v4 v5 v6 v7 v8 v9 v10 v11 v12 v13 v14 v15 : Value) (W : World) : Prop := W.cell? p0 = some v0 ∧ W.cell? p1 = some v1 ∧ W.cell? p2 = some v2 ∧ W.cell? p3 = some v3 ∧ W.cell? p4 = some v4 ∧ W.cell? p5 = some v5 ∧ W.cell? p6 = some v6 ∧ W.cell? p7 = some v7 ∧ W.cell? p8 = some v8 ∧ W.cell? p9 = some v9 ∧ W.cell? p10 = some v10 ∧ W.cell? p11 = some v11 ∧ W.cell? p12 = some v12 ∧ W.cell? p13 = some v13 ∧ W.cell? p14 = some v14 ∧ W.cell? p15 = some v15
theorem RcS.keep {p0 p1 p2 p3 p4 p5 p6 p7 p8 p9 p10 p11 p12 p13 p14 p15 : Addr} {v0 v1 v2 v3 v4 v5 v6 v7 v8 v9 v10 v11 v12 v13 v14 v15 : Value} {W W' : World} (h : RcS p0 p1 p2 p3 p4 p5 p6 p7 p8 p9 p10 p11 p12 p13 p14 p15 v0 v1 v2 v3 v4 v5 v6 v7 v8 v9 v10 v11 v12 v13 v14 v15 W) (hB : Below W.heap.size W W') : RcS p0 p1 p2 p3 p4 p5 p6 p7 p8 p9 p10 p11 p12 p13 p14 p15 v0 v1 v2 v3 v4 v5 v6 v7 v8 v9 v10 v11 v12 v13 v14 v15 W' := by
  obtain ⟨h0, h1, h2, h3, h4, h5, h6, h7, h8, h9, h10, h11, h12, h13, h14, h15⟩ := h
  exact ⟨ten_kept h0 hB, ten_kept h1 hB, ten_kept h2 hB, ten_kept h3 hB, ten_kept h4 hB, ten_kept h5 hB, ten_kept h6 hB, ten_kept h7 hB, ten_kept h8 hB, ten_kept h9 hB, ten_kept h10 hB, ten_kept h11 hB, ten_kept h12 hB, ten_kept h13 hB, ten_kept h14 hB, ten_kept h15 hB⟩
end Go.Proofs.YtgdcfjmpjhlndaaGreatDoor
