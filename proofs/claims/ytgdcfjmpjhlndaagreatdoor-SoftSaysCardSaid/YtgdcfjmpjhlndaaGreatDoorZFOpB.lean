/-
  Reshaped, turned: what they look like; package op's reshaped, turned, walked. By an AI agent. No person has read it.
-/
import Derived.Test.YtgdcfjmpjhlndaaGreatDoorZFOpA
import Derived.Test.YtgdcfjmpjhlndaaGreatDoorZFCelC
import Derived.RegionTactic
import Derived.ChangeAlike
import Derived.BigRegion
namespace Go.Proofs.YtgdcfjmpjhlndaaGreatDoor
open Go.RowKit
/-- What is amiss with a turned one: the error's number. -/
def Op.tcode (d : Dsc) : Nat := if Shp.code d.zs ≠ 0 then Shp.code d.zs else if d.zs.length ≠ 2 then 101 else 0
def Op.tshape (d : Dsc) : List Int := if Op.tcode d = 0 then [d.zs.getD 1 0, d.zs.getD 0 0] else []
def Op.tkind (d : Dsc) : Bool := if Op.tcode d = 0 then d.u else false
/-- .. with a reshaped one. -/
def Op.rcode (qs : List Int) (d : Dsc) : Nat := if Shp.code d.zs ≠ 0 then Shp.code d.zs else if Shp.code qs ≠ 0 then Shp.code qs else if Shp.elems qs ≠ Shp.elems d.zs then 101 else 0
def Op.rshape (qs : List Int) (d : Dsc) : List Int := if Op.rcode qs d = 0 then qs else []
def Op.rkind (qs : List Int) (d : Dsc) : Bool := if Op.rcode qs d = 0 then d.u else false
end Go.Proofs.YtgdcfjmpjhlndaaGreatDoor
