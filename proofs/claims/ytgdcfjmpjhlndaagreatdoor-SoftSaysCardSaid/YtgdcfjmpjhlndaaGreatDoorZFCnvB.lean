/-
  cells.conv: elements of a convolution. By an AI agent. No person has read it.
-/
import Derived.Test.YtgdcfjmpjhlndaaGreatDoorZFCnvA
import Derived.Test.YtgdcfjmpjhlndaaGreatDoorZFCelC
import Derived.Test.YtgdcfjmpjhlndaaGreatDoorZFMatN
import Derived.Test.YtgdcfjmpjhlndaaGreatDoorZFElmN
import Derived.Deep.RegionLaw
import Derived.RegionTactic
import Derived.ChangeAlike
import Derived.BigRegion
namespace Go.Proofs.YtgdcfjmpjhlndaaGreatDoor
open Go.RowKit
/-- What a convolution's sizes keep. -/
structure Cv.Ok (c : Cv) : Prop where
  s1 : 1 ≤ c.s
  s2 : c.s ≤ 16
  p2 : c.p ≤ 15
  kh1 : 1 ≤ c.KH
  kw1 : 1 ≤ c.KW
  kh2 : c.KH ≤ c.H + 2 * c.p
  kw2 : c.KW ≤ c.W + 2 * c.p
  n1 : 1 ≤ c.N
  c1 : 1 ≤ c.C
  h2 : c.H ≤ 1000000
  w2 : c.W ≤ 1000000
  a2 : c.H * c.W * c.C ≤ 1000000
  k2 : c.KH * c.KW * c.C * c.N ≤ 1000000
  o2 : c.oh * c.ow * c.N ≤ 1000000
  z2 : -128 ≤ c.za ∧ c.za ≤ 127
end Go.Proofs.YtgdcfjmpjhlndaaGreatDoor
namespace Go.Proofs.YtgdcfjmpjhlndaaGreatDoor
open Go.RowKit
/-- What a convolution looks like, if nothing is amiss. -/
def Cv.dims (qs : List Int) (a b : Dsc) : List Int := [Cv.reach (a.zs.getD 0 0) (b.zs.getD 0 0) (qs.getD 0 0) (qs.getD 1 0), Cv.reach (a.zs.getD 1 0) (b.zs.getD 1 0) (qs.getD 0 0) (qs.getD 1 0), b.zs.getD 3 0]
/-- What is amiss with a convolution: the error's number. -/
def Cv.code (qs : List Int) (a b : Dsc) : Nat :=
  if qs.length ≠ 3 then 101 else if Shp.firstbad [a, b] ≠ 0 then Shp.firstbad [a, b]
  else if a.u = true ∨ b.u = true ∨ a.zs.length ≠ 3 ∨ b.zs.length ≠ 4 ∨ b.zs.getD 2 0 ≠ a.zs.getD 2 0 then 101
  else if qs.getD 0 0 < 1 ∨ qs.getD 0 0 > 16 ∨ qs.getD 1 0 < 0 ∨ qs.getD 1 0 > 15 ∨ Tens.narrow (qs.getD 2 0) ≠ qs.getD 2 0 then 102
  else if b.zs.getD 0 0 > a.zs.getD 0 0 + 2 * qs.getD 1 0 ∨ b.zs.getD 1 0 > a.zs.getD 1 0 + 2 * qs.getD 1 0 then 101
  else Shp.code (Cv.dims qs a b)
def Cv.shape (qs : List Int) (a b : Dsc) : List Int := if Cv.code qs a b = 0 then Cv.dims qs a b else []
def Cv.kind (qs : List Int) (a b : Dsc) : Bool := decide (Cv.code qs a b = 0)
end Go.Proofs.YtgdcfjmpjhlndaaGreatDoor
