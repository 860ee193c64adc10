/-
  What an operation makes of what looks so; package op's Result, walked. By an AI agent. No person has read it.
-/
import Derived.Test.YtgdcfjmpjhlndaaGreatDoorZFOpB
import Derived.Test.YtgdcfjmpjhlndaaGreatDoorZFElmN
import Derived.Test.YtgdcfjmpjhlndaaGreatDoorZFSftN
import Derived.Test.YtgdcfjmpjhlndaaGreatDoorZFCnvB
namespace Go.Proofs.YtgdcfjmpjhlndaaGreatDoor
open Go.RowKit
def Op.no : Dsc := ⟨none, [], 0, false⟩
/-- What a lawful number of ins looks like, behind: the error's number, the shape, the kind. -/
def Op.look2 (op : Int) (qs : List Int) (ds : List Dsc) : Nat × List Int × Bool :=
  if op ≤ 11 then (Elm.code op qs ds, Elm.shape op qs ds, Elm.kind op qs ds)
  else if op = 12 then (Mat.code (qs.getD 0 0) (qs.getD 1 0) (ds.getD 0 Op.no) (ds.getD 1 Op.no), Mat.shape (qs.getD 0 0) (qs.getD 1 0) (ds.getD 0 Op.no) (ds.getD 1 Op.no), Mat.kind (qs.getD 0 0) (qs.getD 1 0) (ds.getD 0 Op.no) (ds.getD 1 Op.no))
  else if op = 13 then (Cv.code qs (ds.getD 0 Op.no) (ds.getD 1 Op.no), Cv.shape qs (ds.getD 0 Op.no) (ds.getD 1 Op.no), Cv.kind qs (ds.getD 0 Op.no) (ds.getD 1 Op.no))
  else if op = 14 ∨ op = 15 then (Pl.code qs (ds.getD 0 Op.no), Pl.shape qs (ds.getD 0 Op.no), Pl.kind qs (ds.getD 0 Op.no))
  else if op = 18 then (Op.rcode qs (ds.getD 0 Op.no), Op.rshape qs (ds.getD 0 Op.no), Op.rkind qs (ds.getD 0 Op.no))
  else if op = 21 then (Op.tcode (ds.getD 0 Op.no), Op.tshape (ds.getD 0 Op.no), Op.tkind (ds.getD 0 Op.no))
  else (Sf.code op ds, Sf.shape op ds, Sf.kind op ds)
def Op.fits (op : Int) (qs : List Int) (ds : List Dsc) : Prop := ds.length = Op.ins op ∧ (op ≠ 18 → qs.length = Op.args op)
instance (op : Int) (qs : List Int) (ds : List Dsc) : Decidable (Op.fits op qs ds) := inferInstanceAs (Decidable (_ ∧ _))
def Op.look (op : Int) (qs : List Int) (ds : List Dsc) : Nat × List Int × Bool :=
  if ¬ Op.known op then (103, [], false) else if ¬ Op.fits op qs ds then (101, [], false) else Op.look2 op qs ds
theorem Op.err_known {ah am ar ak : Addr} {k : Nat} (h : Cel.known k) : Elm.err ah am ar ak k = Tens.err ah am ar k := by
  unfold Elm.err
  unfold Cel.known at h
  rw [if_neg (by omega)]
end Go.Proofs.YtgdcfjmpjhlndaaGreatDoor
