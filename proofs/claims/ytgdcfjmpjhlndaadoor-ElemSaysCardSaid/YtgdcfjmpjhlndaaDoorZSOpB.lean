/-
  Reshaped, turned: what they look like; package op's reshaped, turned, walked. By an AI agent. No person has read it.
-/
import Derived.Test.YtgdcfjmpjhlndaaDoorZSOpA
import Derived.Test.YtgdcfjmpjhlndaaDoorZSCelC
import Derived.RegionTactic
import Derived.ChangeAlike
import Derived.BigRegion
namespace Go.Proofs.YtgdcfjmpjhlndaaDoor
open Go.RowKit
/-- What is amiss with a turned one: the error's number. -/
def Op.tcode (d : Dsc) : Nat := if Shp.code d.zs ≠ 0 then Shp.code d.zs else if d.zs.length ≠ 2 then 101 else 0
def Op.tshape (d : Dsc) : List Int := if Op.tcode d = 0 then [d.zs.getD 1 0, d.zs.getD 0 0] else []
def Op.tkind (d : Dsc) : Bool := if Op.tcode d = 0 then d.u else false
theorem Op.tbad {d : Dsc} (h : Op.tcode d ≠ 0) : Op.tshape d = [] ∧ Op.tkind d = false := by
  unfold Op.tshape Op.tkind
  rw [if_neg h, if_neg h]
  exact ⟨rfl, rfl⟩
/-- .. with a reshaped one. -/
def Op.rcode (qs : List Int) (d : Dsc) : Nat := if Shp.code d.zs ≠ 0 then Shp.code d.zs else if Shp.code qs ≠ 0 then Shp.code qs else if Shp.elems qs ≠ Shp.elems d.zs then 101 else 0
def Op.rshape (qs : List Int) (d : Dsc) : List Int := if Op.rcode qs d = 0 then qs else []
def Op.rkind (qs : List Int) (d : Dsc) : Bool := if Op.rcode qs d = 0 then d.u else false
theorem Op.rbad {qs : List Int} {d : Dsc} (h : Op.rcode qs d ≠ 0) : Op.rshape qs d = [] ∧ Op.rkind qs d = false := by
  unfold Op.rshape Op.rkind
  rw [if_neg h, if_neg h]
  exact ⟨rfl, rfl⟩
theorem Op.tcode_known (d : Dsc) : Cel.known (Op.tcode d) := by
  unfold Op.tcode
  split
  · exact Cel.known_shp _
  split
  · exact .inr (.inl rfl)
  · exact .inl rfl
theorem Op.rcode_known (qs : List Int) (d : Dsc) : Cel.known (Op.rcode qs d) := by
  unfold Op.rcode
  split
  · exact Cel.known_shp _
  split
  · exact Cel.known_shp _
  split
  · exact .inr (.inl rfl)
  · exact .inl rfl
end Go.Proofs.YtgdcfjmpjhlndaaDoor
