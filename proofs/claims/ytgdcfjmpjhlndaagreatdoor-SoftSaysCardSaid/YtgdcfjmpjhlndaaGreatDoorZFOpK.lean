/-
  cells.fill, Of, All and One of an operation that gives another shape, walked. By an AI agent. No person has read it.
-/
import Derived.Test.YtgdcfjmpjhlndaaGreatDoorZFOpJ
import Derived.Test.YtgdcfjmpjhlndaaGreatDoorZFMatN
import Derived.Test.YtgdcfjmpjhlndaaGreatDoorZFCnvB
import Derived.Test.YtgdcfjmpjhlndaaGreatDoorZFOpD
import Derived.Test.YtgdcfjmpjhlndaaGreatDoorZFElmN
import Derived.Test.YtgdcfjmpjhlndaaGreatDoorZFBasE
import Derived.Test.YtgdcfjmpjhlndaaGreatDoorZFElmS
namespace Go.Proofs.YtgdcfjmpjhlndaaGreatDoor
open Go.RowKit
def Op.cut (ds : List Int) (f n : Nat) : List Int := (ds.drop f).take n
end Go.Proofs.YtgdcfjmpjhlndaaGreatDoor
namespace Go.Proofs.YtgdcfjmpjhlndaaGreatDoor
open Go.RowKit
/-- The sizes, read off. -/
def Cv.of (qs : List Int) (a b : Ten) : Cv := ⟨(a.zs.getD 0 0).toNat, (a.zs.getD 1 0).toNat, (a.zs.getD 2 0).toNat, (b.zs.getD 0 0).toNat, (b.zs.getD 1 0).toNat, (b.zs.getD 3 0).toNat, (qs.getD 0 0).toNat, (qs.getD 1 0).toNat, qs.getD 2 0⟩
/-- The numbers of a convolution. -/
def Cv.ds (qs : List Int) (a b : Ten) : List Int := (Cv.of qs a b).part a.ds b.ds 0 ((Cv.of qs a b).oh * (Cv.of qs a b).ow * (Cv.of qs a b).N)
/-- An element of it; 0 of a place that is none. -/
def Cv.at (qs : List Int) (a b : Ten) (i : Int) : Int := (if 0 ≤ i then (Cv.ds qs a b).getD i.toNat 0 else 0)
end Go.Proofs.YtgdcfjmpjhlndaaGreatDoor
namespace Go.Proofs.YtgdcfjmpjhlndaaGreatDoor
open Go.RowKit
/-- A number of some, 0 of a place that is none. -/
def Op.at (rs : List Int) (i : Int) : Int := if 0 ≤ i then rs.getD i.toNat 0 else 0
end Go.Proofs.YtgdcfjmpjhlndaaGreatDoor
namespace Go.Proofs.YtgdcfjmpjhlndaaGreatDoor
open Go.RowKit
/-- Two good tensors that look alike. -/
structure Elm.Pair (a b : Ten) : Prop where
  fa : a.fault = (0, none)
  fb : b.fault = (0, none)
  z : a.zs = b.zs
  u : a.u = b.u
theorem Elm.Pair.len {a b : Ten} (h : Elm.Pair a b) : b.ds.length = a.ds.length := by
  have h1 := (fine_len h.fa).1
  have h2 := (fine_len h.fb).1
  rw [h.z] at h1
  omega
end Go.Proofs.YtgdcfjmpjhlndaaGreatDoor
