/-
  NARROWER THAN 'FOR EVERY INPUT', by the rows' own cells (each row's printed sentence says how): MatSays: laid · MatTurns: laid · MatOnes: laid · MatAdds: laid · ConvSays: laid · ConvInside: laid · ConvOnes: laid · ConvPads: laid · ConvStrides: laid · ConvOnly: laid.
  DERIVED. THE GIVEN ROWS OF THIS SEAT. 10 by the template 'for every input the law returns true; each argument reads behind the call as it read before'; 0 by the template 'total and deterministic' (their statements: YtkehdgjdieemkaaDoorTotals.lean).
  GIVEN WITH THE SEED: the statements are not yours to turn. If you find one false, say at which input.
  Laid BY PROGRAM, IN A SANDBOX (cutbox-rows.mjs): the forced cells as the released guide's own fill.sh prints them over the translation eca97c78500d1cd7… (all of the seat's roots in one cut). By AI agents, Wed Nov 11 2026. No macro, syntax, notation, axiom, sorry.
-/
import Derived.Test.YtkehdgjdieemkaaDoorChecked
import GoSem.Claim
import GoSem.ClaimJoined
import GoSem.ClaimMapViews
import Derived.JoinedTies
import Derived.KernelRfl
namespace Go.Proofs.YtkehdgjdieemkaaDoor
/- THE CELL 'sum', in the pinned program and in every row, IS THE sha256 OF THE DUMP (.gsa) THAT YtkehdgjdieemkaaDoorProg.lean LOADS. Nothing in Lean hashes anything: it is a label: what it is worth is what the hold of that sum in a sandbox is worth. -/
noncomputable def Tryd.pinned : Pinned := { name := "ytkehdgjdieemkaadoor", sum := "eca97c78500d1cd7f5d239579af01add2ddbba027f8a346d19ee28896d0d19c3", checked := Tryd.checked }
namespace Rows
def none {H : Type} : Left H := { results := [], args := [] }

/- WHAT THE LISTED PACKAGE-LEVEL VARIABLES READ AS WHEN THE CALL BEGINS. Each datum BY PROGRAM (the guide's laid-datum.mjs) off the statement by which the dump's own 'gosem.cut.vars' lays the variable. In a bare row this is a premise. The card (YtkehdgjdieemkaaDoorCards.lean) ties it to the program's text. -/
def laid_lodge_api_ErrShape {H : Type} : DataW H := .iface "*errors.errorString" (.ptr (.agg [.lit (.string [110, 111, 116, 32, 116, 104, 101, 32, 115, 104, 97, 112, 101, 32, 116, 104, 97, 116, 32, 105, 116, 32, 104, 97, 115, 32, 116, 111, 32, 104, 97, 118, 101])]))
def laid_lodge_api_ErrRange {H : Type} : DataW H := .iface "*errors.errorString" (.ptr (.agg [.lit (.string [97, 32, 110, 117, 109, 98, 101, 114, 32, 111, 117, 116, 32, 111, 102, 32, 105, 116, 115, 32, 114, 97, 110, 103, 101])]))
def laid_lodge_api_ErrKind {H : Type} : DataW H := .iface "*errors.errorString" (.ptr (.agg [.lit (.string [110, 111, 32, 115, 117, 99, 104, 32, 107, 105, 110, 100])]))
def laid_lodge_api_ErrMany {H : Type} : DataW H := .iface "*errors.errorString" (.ptr (.agg [.lit (.string [116, 111, 111, 32, 109, 97, 110, 121])]))
def laid_lodge_api_ErrEnd {H : Type} : DataW H := .iface "*errors.errorString" (.ptr (.agg [.lit (.string [105, 116, 32, 101, 110, 100, 115, 32, 116, 111, 111, 32, 101, 97, 114, 108, 121])]))
def laid_lodge_api_ErrRoom {H : Type} : DataW H := .iface "*errors.errorString" (.ptr (.agg [.lit (.string [116, 104, 101, 114, 101, 32, 105, 115, 32, 110, 111, 32, 114, 111, 111, 109])]))
def laid_lodge_api_ErrNone {H : Type} : DataW H := .iface "*errors.errorString" (.ptr (.agg [.lit (.string [116, 104, 101, 114, 101, 32, 105, 115, 32, 110, 111, 110, 101])]))
def laid_lodge_api_ErrAlias {H : Type} : DataW H := .iface "*errors.errorString" (.ptr (.agg [.lit (.string [105, 116, 32, 108, 105, 101, 115, 32, 111, 118, 101, 114, 32, 119, 104, 97, 116, 32, 105, 115, 32, 114, 101, 97, 100])]))
def laid_lodge_api_ErrCost {H : Type} : DataW H := .iface "*errors.errorString" (.ptr (.agg [.lit (.string [105, 116, 32, 99, 111, 115, 116, 115, 32, 116, 111, 111, 32, 109, 117, 99, 104])]))
def laid_lodge_api_ErrJump {H : Type} : DataW H := .iface "*errors.errorString" (.ptr (.agg [.lit (.string [105, 116, 32, 103, 111, 101, 115, 32, 119, 104, 101, 114, 101, 32, 116, 104, 101, 114, 101, 32, 105, 115, 32, 110, 111, 116, 104, 105, 110, 103])]))
def laid_lodge_api_ErrCycle {H : Type} : DataW H := .iface "*errors.errorString" (.ptr (.agg [.lit (.string [105, 116, 32, 103, 111, 101, 115, 32, 114, 111, 117, 110, 100, 32, 105, 110, 32, 97, 32, 114, 105, 110, 103])]))
def laid_lodge_api_ErrFuel {H : Type} : DataW H := .iface "*errors.errorString" (.ptr (.agg [.lit (.string [110, 111, 32, 102, 117, 101, 108, 32, 105, 115, 32, 108, 101, 102, 116])]))
def laid_lodge_api_ErrFull {H : Type} : DataW H := .iface "*errors.errorString" (.ptr (.agg [.lit (.string [116, 104, 101, 32, 113, 117, 101, 117, 101, 32, 105, 115, 32, 102, 117, 108, 108])]))
def laid_lodge_api_ErrQuota {H : Type} : DataW H := .iface "*errors.errorString" (.ptr (.agg [.lit (.string [98, 101, 121, 111, 110, 100, 32, 116, 104, 101, 32, 113, 117, 111, 116, 97])]))
def laid_lodge_api_ErrCap {H : Type} : DataW H := .iface "*errors.errorString" (.ptr (.agg [.lit (.string [110, 111, 32, 115, 117, 99, 104, 32, 114, 105, 103, 104, 116])]))
def laid_lodge_api_ErrStale {H : Type} : DataW H := .iface "*errors.errorString" (.ptr (.agg [.lit (.string [111, 102, 32, 97, 110, 32, 101, 108, 100, 101, 114, 32, 103, 101, 110, 101, 114, 97, 116, 105, 111, 110])]))
def laid_lodge_api_ErrTag {H : Type} : DataW H := .iface "*errors.errorString" (.ptr (.agg [.lit (.string [116, 104, 101, 32, 116, 97, 103, 32, 105, 115, 32, 97, 110, 111, 116, 104, 101, 114, 32, 111, 110, 101])]))
def laid_lodge_api_ErrOld {H : Type} : DataW H := .iface "*errors.errorString" (.ptr (.agg [.lit (.string [97, 32, 99, 111, 117, 110, 116, 101, 114, 32, 116, 104, 97, 116, 32, 105, 115, 32, 110, 111, 116, 32, 97, 98, 111, 118, 101, 32, 116, 104, 101, 32, 108, 97, 115, 116, 32, 111, 110, 101])]))
def laid_lodge_api_ErrTenant {H : Type} : DataW H := .iface "*errors.errorString" (.ptr (.agg [.lit (.string [110, 111, 32, 115, 117, 99, 104, 32, 116, 101, 110, 97, 110, 116])]))
def laid_lodge_api_ErrWord {H : Type} : DataW H := .iface "*errors.errorString" (.ptr (.agg [.lit (.string [110, 111, 32, 115, 117, 99, 104, 32, 119, 111, 114, 100])]))
def laid_lodge_api_ErrNumber {H : Type} : DataW H := .iface "*errors.errorString" (.ptr (.agg [.lit (.string [110, 111, 32, 115, 117, 99, 104, 32, 110, 117, 109, 98, 101, 114])]))

/-- 'lodgelaw8.MatSays': WHATEVER THE INPUT: true; the input reads as it did. -/
def matSaysSpec : ChangeSpec := { name := "matSays", fn := fun _ => fun
  | [d1, d2, d3, d4, d5] => { results := [.lit (.bool true)], args := [d1, d2, d3, d4, d5] }
  | _ => none }
def matSaysRow : OpenClaim := { program := "ytkehdgjdieemkaadoor", sum := "eca97c78500d1cd7f5d239579af01add2ddbba027f8a346d19ee28896d0d19c3", func := "lodge/lodgelaw8.MatSays", spec := "matSays", named := ["lodge/api.ErrShape", "lodge/api.ErrRange", "lodge/api.ErrMany", "lodge/api.ErrKind", "lodge/api.ErrEnd", "lodge/api.ErrRoom", "lodge/api.ErrNone", "lodge/api.ErrAlias", "lodge/api.ErrCost", "lodge/api.ErrJump", "lodge/api.ErrCycle", "lodge/api.ErrFuel", "lodge/api.ErrFull", "lodge/api.ErrQuota", "lodge/api.ErrCap", "lodge/api.ErrStale", "lodge/api.ErrTag", "lodge/api.ErrOld", "lodge/api.ErrTenant", "lodge/api.ErrWord", "lodge/api.ErrNumber"], apart := false, laid := [("lodge/api.ErrShape", laid_lodge_api_ErrShape), ("lodge/api.ErrRange", laid_lodge_api_ErrRange), ("lodge/api.ErrKind", laid_lodge_api_ErrKind), ("lodge/api.ErrMany", laid_lodge_api_ErrMany), ("lodge/api.ErrEnd", laid_lodge_api_ErrEnd), ("lodge/api.ErrRoom", laid_lodge_api_ErrRoom), ("lodge/api.ErrNone", laid_lodge_api_ErrNone), ("lodge/api.ErrAlias", laid_lodge_api_ErrAlias), ("lodge/api.ErrCost", laid_lodge_api_ErrCost), ("lodge/api.ErrJump", laid_lodge_api_ErrJump), ("lodge/api.ErrCycle", laid_lodge_api_ErrCycle), ("lodge/api.ErrFuel", laid_lodge_api_ErrFuel), ("lodge/api.ErrFull", laid_lodge_api_ErrFull), ("lodge/api.ErrQuota", laid_lodge_api_ErrQuota), ("lodge/api.ErrCap", laid_lodge_api_ErrCap), ("lodge/api.ErrStale", laid_lodge_api_ErrStale), ("lodge/api.ErrTag", laid_lodge_api_ErrTag), ("lodge/api.ErrOld", laid_lodge_api_ErrOld), ("lodge/api.ErrTenant", laid_lodge_api_ErrTenant), ("lodge/api.ErrWord", laid_lodge_api_ErrWord), ("lodge/api.ErrNumber", laid_lodge_api_ErrNumber)] }
def MatSaysSaid : Prop := matSaysRow.holds Tryd.pinned (OpenSpec.ofChange matSaysSpec)

/-- ITS FALSE NEIGHBOUR: 'it returns false'. Refute it at one input. -/
def matSaysWrong : ChangeSpec := { name := "matSays", fn := fun _ => fun
  | [d1, d2, d3, d4, d5] => { results := [.lit (.bool false)], args := [d1, d2, d3, d4, d5] }
  | _ => none }
def MatSaysWrongFalsely : Prop := matSaysRow.holds Tryd.pinned (OpenSpec.ofChange matSaysWrong)

/-- 'lodgelaw8.MatTurns': WHATEVER THE INPUT: true; the input reads as it did. -/
def matTurnsSpec : ChangeSpec := { name := "matTurns", fn := fun _ => fun
  | [d1, d2, d3, d4, d5, d6] => { results := [.lit (.bool true)], args := [d1, d2, d3, d4, d5, d6] }
  | _ => none }
def matTurnsRow : OpenClaim := { program := "ytkehdgjdieemkaadoor", sum := "eca97c78500d1cd7f5d239579af01add2ddbba027f8a346d19ee28896d0d19c3", func := "lodge/lodgelaw8.MatTurns", spec := "matTurns", named := ["lodge/api.ErrShape", "lodge/api.ErrRange", "lodge/api.ErrMany"], apart := false, laid := [("lodge/api.ErrShape", laid_lodge_api_ErrShape), ("lodge/api.ErrRange", laid_lodge_api_ErrRange), ("lodge/api.ErrMany", laid_lodge_api_ErrMany)] }
def MatTurnsSaid : Prop := matTurnsRow.holds Tryd.pinned (OpenSpec.ofChange matTurnsSpec)

/-- ITS FALSE NEIGHBOUR: 'it returns false'. Refute it at one input. -/
def matTurnsWrong : ChangeSpec := { name := "matTurns", fn := fun _ => fun
  | [d1, d2, d3, d4, d5, d6] => { results := [.lit (.bool false)], args := [d1, d2, d3, d4, d5, d6] }
  | _ => none }
def MatTurnsWrongFalsely : Prop := matTurnsRow.holds Tryd.pinned (OpenSpec.ofChange matTurnsWrong)

/-- 'lodgelaw8.MatOnes': WHATEVER THE INPUT: true; the input reads as it did. -/
def matOnesSpec : ChangeSpec := { name := "matOnes", fn := fun _ => fun
  | [d1, d2, d3, d4] => { results := [.lit (.bool true)], args := [d1, d2, d3, d4] }
  | _ => none }
def matOnesRow : OpenClaim := { program := "ytkehdgjdieemkaadoor", sum := "eca97c78500d1cd7f5d239579af01add2ddbba027f8a346d19ee28896d0d19c3", func := "lodge/lodgelaw8.MatOnes", spec := "matOnes", named := ["lodge/api.ErrShape", "lodge/api.ErrRange", "lodge/api.ErrMany"], apart := false, laid := [("lodge/api.ErrShape", laid_lodge_api_ErrShape), ("lodge/api.ErrRange", laid_lodge_api_ErrRange), ("lodge/api.ErrMany", laid_lodge_api_ErrMany)] }
def MatOnesSaid : Prop := matOnesRow.holds Tryd.pinned (OpenSpec.ofChange matOnesSpec)

/-- ITS FALSE NEIGHBOUR: 'it returns false'. Refute it at one input. -/
def matOnesWrong : ChangeSpec := { name := "matOnes", fn := fun _ => fun
  | [d1, d2, d3, d4] => { results := [.lit (.bool false)], args := [d1, d2, d3, d4] }
  | _ => none }
def MatOnesWrongFalsely : Prop := matOnesRow.holds Tryd.pinned (OpenSpec.ofChange matOnesWrong)

/-- 'lodgelaw8.MatAdds': WHATEVER THE INPUT: true; the input reads as it did. -/
def matAddsSpec : ChangeSpec := { name := "matAdds", fn := fun _ => fun
  | [d1, d2, d3, d4, d5, d6] => { results := [.lit (.bool true)], args := [d1, d2, d3, d4, d5, d6] }
  | _ => none }
def matAddsRow : OpenClaim := { program := "ytkehdgjdieemkaadoor", sum := "eca97c78500d1cd7f5d239579af01add2ddbba027f8a346d19ee28896d0d19c3", func := "lodge/lodgelaw8.MatAdds", spec := "matAdds", named := ["lodge/api.ErrShape", "lodge/api.ErrRange", "lodge/api.ErrMany"], apart := false, laid := [("lodge/api.ErrShape", laid_lodge_api_ErrShape), ("lodge/api.ErrRange", laid_lodge_api_ErrRange), ("lodge/api.ErrMany", laid_lodge_api_ErrMany)] }
def MatAddsSaid : Prop := matAddsRow.holds Tryd.pinned (OpenSpec.ofChange matAddsSpec)

/-- ITS FALSE NEIGHBOUR: 'it returns false'. Refute it at one input. -/
def matAddsWrong : ChangeSpec := { name := "matAdds", fn := fun _ => fun
  | [d1, d2, d3, d4, d5, d6] => { results := [.lit (.bool false)], args := [d1, d2, d3, d4, d5, d6] }
  | _ => none }
def MatAddsWrongFalsely : Prop := matAddsRow.holds Tryd.pinned (OpenSpec.ofChange matAddsWrong)

/-- 'lodgelaw9.ConvSays': WHATEVER THE INPUT: true; the input reads as it did. -/
def convSaysSpec : ChangeSpec := { name := "convSays", fn := fun _ => fun
  | [d1, d2, d3, d4] => { results := [.lit (.bool true)], args := [d1, d2, d3, d4] }
  | _ => none }
def convSaysRow : OpenClaim := { program := "ytkehdgjdieemkaadoor", sum := "eca97c78500d1cd7f5d239579af01add2ddbba027f8a346d19ee28896d0d19c3", func := "lodge/lodgelaw9.ConvSays", spec := "convSays", named := ["lodge/api.ErrShape", "lodge/api.ErrRange", "lodge/api.ErrMany", "lodge/api.ErrKind", "lodge/api.ErrEnd", "lodge/api.ErrRoom", "lodge/api.ErrNone", "lodge/api.ErrAlias", "lodge/api.ErrCost", "lodge/api.ErrJump", "lodge/api.ErrCycle", "lodge/api.ErrFuel", "lodge/api.ErrFull", "lodge/api.ErrQuota", "lodge/api.ErrCap", "lodge/api.ErrStale", "lodge/api.ErrTag", "lodge/api.ErrOld", "lodge/api.ErrTenant", "lodge/api.ErrWord", "lodge/api.ErrNumber"], apart := false, laid := [("lodge/api.ErrShape", laid_lodge_api_ErrShape), ("lodge/api.ErrRange", laid_lodge_api_ErrRange), ("lodge/api.ErrKind", laid_lodge_api_ErrKind), ("lodge/api.ErrMany", laid_lodge_api_ErrMany), ("lodge/api.ErrEnd", laid_lodge_api_ErrEnd), ("lodge/api.ErrRoom", laid_lodge_api_ErrRoom), ("lodge/api.ErrNone", laid_lodge_api_ErrNone), ("lodge/api.ErrAlias", laid_lodge_api_ErrAlias), ("lodge/api.ErrCost", laid_lodge_api_ErrCost), ("lodge/api.ErrJump", laid_lodge_api_ErrJump), ("lodge/api.ErrCycle", laid_lodge_api_ErrCycle), ("lodge/api.ErrFuel", laid_lodge_api_ErrFuel), ("lodge/api.ErrFull", laid_lodge_api_ErrFull), ("lodge/api.ErrQuota", laid_lodge_api_ErrQuota), ("lodge/api.ErrCap", laid_lodge_api_ErrCap), ("lodge/api.ErrStale", laid_lodge_api_ErrStale), ("lodge/api.ErrTag", laid_lodge_api_ErrTag), ("lodge/api.ErrOld", laid_lodge_api_ErrOld), ("lodge/api.ErrTenant", laid_lodge_api_ErrTenant), ("lodge/api.ErrWord", laid_lodge_api_ErrWord), ("lodge/api.ErrNumber", laid_lodge_api_ErrNumber)] }
def ConvSaysSaid : Prop := convSaysRow.holds Tryd.pinned (OpenSpec.ofChange convSaysSpec)

/-- ITS FALSE NEIGHBOUR: 'it returns false'. Refute it at one input. -/
def convSaysWrong : ChangeSpec := { name := "convSays", fn := fun _ => fun
  | [d1, d2, d3, d4] => { results := [.lit (.bool false)], args := [d1, d2, d3, d4] }
  | _ => none }
def ConvSaysWrongFalsely : Prop := convSaysRow.holds Tryd.pinned (OpenSpec.ofChange convSaysWrong)

/-- 'lodgelaw9.ConvInside': WHATEVER THE INPUT: true; the input reads as it did. -/
def convInsideSpec : ChangeSpec := { name := "convInside", fn := fun _ => fun
  | [d1, d2, d3, d4, d5] => { results := [.lit (.bool true)], args := [d1, d2, d3, d4, d5] }
  | _ => none }
def convInsideRow : OpenClaim := { program := "ytkehdgjdieemkaadoor", sum := "eca97c78500d1cd7f5d239579af01add2ddbba027f8a346d19ee28896d0d19c3", func := "lodge/lodgelaw9.ConvInside", spec := "convInside", named := ["lodge/api.ErrShape", "lodge/api.ErrRange", "lodge/api.ErrMany"], apart := false, laid := [("lodge/api.ErrShape", laid_lodge_api_ErrShape), ("lodge/api.ErrRange", laid_lodge_api_ErrRange), ("lodge/api.ErrMany", laid_lodge_api_ErrMany)] }
def ConvInsideSaid : Prop := convInsideRow.holds Tryd.pinned (OpenSpec.ofChange convInsideSpec)

/-- ITS FALSE NEIGHBOUR: 'it returns false'. Refute it at one input. -/
def convInsideWrong : ChangeSpec := { name := "convInside", fn := fun _ => fun
  | [d1, d2, d3, d4, d5] => { results := [.lit (.bool false)], args := [d1, d2, d3, d4, d5] }
  | _ => none }
def ConvInsideWrongFalsely : Prop := convInsideRow.holds Tryd.pinned (OpenSpec.ofChange convInsideWrong)

/-- 'lodgelaw9.ConvOnes': WHATEVER THE INPUT: true; the input reads as it did. -/
def convOnesSpec : ChangeSpec := { name := "convOnes", fn := fun _ => fun
  | [d1, d2, d3, d4, d5, d6] => { results := [.lit (.bool true)], args := [d1, d2, d3, d4, d5, d6] }
  | _ => none }
def convOnesRow : OpenClaim := { program := "ytkehdgjdieemkaadoor", sum := "eca97c78500d1cd7f5d239579af01add2ddbba027f8a346d19ee28896d0d19c3", func := "lodge/lodgelaw9.ConvOnes", spec := "convOnes", named := ["lodge/api.ErrShape", "lodge/api.ErrRange", "lodge/api.ErrMany"], apart := false, laid := [("lodge/api.ErrShape", laid_lodge_api_ErrShape), ("lodge/api.ErrRange", laid_lodge_api_ErrRange), ("lodge/api.ErrMany", laid_lodge_api_ErrMany)] }
def ConvOnesSaid : Prop := convOnesRow.holds Tryd.pinned (OpenSpec.ofChange convOnesSpec)

/-- ITS FALSE NEIGHBOUR: 'it returns false'. Refute it at one input. -/
def convOnesWrong : ChangeSpec := { name := "convOnes", fn := fun _ => fun
  | [d1, d2, d3, d4, d5, d6] => { results := [.lit (.bool false)], args := [d1, d2, d3, d4, d5, d6] }
  | _ => none }
def ConvOnesWrongFalsely : Prop := convOnesRow.holds Tryd.pinned (OpenSpec.ofChange convOnesWrong)

/-- 'lodgelaw9.ConvPads': WHATEVER THE INPUT: true; the input reads as it did. -/
def convPadsSpec : ChangeSpec := { name := "convPads", fn := fun _ => fun
  | [d1, d2, d3, d4, d5, d6] => { results := [.lit (.bool true)], args := [d1, d2, d3, d4, d5, d6] }
  | _ => none }
def convPadsRow : OpenClaim := { program := "ytkehdgjdieemkaadoor", sum := "eca97c78500d1cd7f5d239579af01add2ddbba027f8a346d19ee28896d0d19c3", func := "lodge/lodgelaw9.ConvPads", spec := "convPads", named := ["lodge/api.ErrShape", "lodge/api.ErrRange", "lodge/api.ErrMany"], apart := false, laid := [("lodge/api.ErrShape", laid_lodge_api_ErrShape), ("lodge/api.ErrRange", laid_lodge_api_ErrRange), ("lodge/api.ErrMany", laid_lodge_api_ErrMany)] }
def ConvPadsSaid : Prop := convPadsRow.holds Tryd.pinned (OpenSpec.ofChange convPadsSpec)

/-- ITS FALSE NEIGHBOUR: 'it returns false'. Refute it at one input. -/
def convPadsWrong : ChangeSpec := { name := "convPads", fn := fun _ => fun
  | [d1, d2, d3, d4, d5, d6] => { results := [.lit (.bool false)], args := [d1, d2, d3, d4, d5, d6] }
  | _ => none }
def ConvPadsWrongFalsely : Prop := convPadsRow.holds Tryd.pinned (OpenSpec.ofChange convPadsWrong)

/-- 'lodgelaw9.ConvStrides': WHATEVER THE INPUT: true; the input reads as it did. -/
def convStridesSpec : ChangeSpec := { name := "convStrides", fn := fun _ => fun
  | [d1, d2, d3, d4, d5, d6] => { results := [.lit (.bool true)], args := [d1, d2, d3, d4, d5, d6] }
  | _ => none }
def convStridesRow : OpenClaim := { program := "ytkehdgjdieemkaadoor", sum := "eca97c78500d1cd7f5d239579af01add2ddbba027f8a346d19ee28896d0d19c3", func := "lodge/lodgelaw9.ConvStrides", spec := "convStrides", named := ["lodge/api.ErrShape", "lodge/api.ErrRange", "lodge/api.ErrMany"], apart := false, laid := [("lodge/api.ErrShape", laid_lodge_api_ErrShape), ("lodge/api.ErrRange", laid_lodge_api_ErrRange), ("lodge/api.ErrMany", laid_lodge_api_ErrMany)] }
def ConvStridesSaid : Prop := convStridesRow.holds Tryd.pinned (OpenSpec.ofChange convStridesSpec)

/-- ITS FALSE NEIGHBOUR: 'it returns false'. Refute it at one input. -/
def convStridesWrong : ChangeSpec := { name := "convStrides", fn := fun _ => fun
  | [d1, d2, d3, d4, d5, d6] => { results := [.lit (.bool false)], args := [d1, d2, d3, d4, d5, d6] }
  | _ => none }
def ConvStridesWrongFalsely : Prop := convStridesRow.holds Tryd.pinned (OpenSpec.ofChange convStridesWrong)

/-- 'lodgelaw9.ConvOnly': WHATEVER THE INPUT: true; the input reads as it did. -/
def convOnlySpec : ChangeSpec := { name := "convOnly", fn := fun _ => fun
  | [d1, d2, d3, d4, d5, d6, d7] => { results := [.lit (.bool true)], args := [d1, d2, d3, d4, d5, d6, d7] }
  | _ => none }
def convOnlyRow : OpenClaim := { program := "ytkehdgjdieemkaadoor", sum := "eca97c78500d1cd7f5d239579af01add2ddbba027f8a346d19ee28896d0d19c3", func := "lodge/lodgelaw9.ConvOnly", spec := "convOnly", named := ["lodge/api.ErrShape", "lodge/api.ErrRange", "lodge/api.ErrMany"], apart := false, laid := [("lodge/api.ErrShape", laid_lodge_api_ErrShape), ("lodge/api.ErrRange", laid_lodge_api_ErrRange), ("lodge/api.ErrMany", laid_lodge_api_ErrMany)] }
def ConvOnlySaid : Prop := convOnlyRow.holds Tryd.pinned (OpenSpec.ofChange convOnlySpec)

/-- ITS FALSE NEIGHBOUR: 'it returns false'. Refute it at one input. -/
def convOnlyWrong : ChangeSpec := { name := "convOnly", fn := fun _ => fun
  | [d1, d2, d3, d4, d5, d6, d7] => { results := [.lit (.bool false)], args := [d1, d2, d3, d4, d5, d6, d7] }
  | _ => none }
def ConvOnlyWrongFalsely : Prop := convOnlyRow.holds Tryd.pinned (OpenSpec.ofChange convOnlyWrong)

/- THE SECOND FORM. 'bulk': how many values and letters a reading holds, each counted each time it is reached (what is shared counts as often as it is met; a slice's spare places count too). A statement '..UptoSaid' is the law's where the arguments, and the package variables that the reading takes, are together of bulk at most 1048576: NARROWER than '..Said'. Prove '..Said' where nothing that the law and all that it calls make is longer than what came in: it says more and counts as full. Else prove '..UptoSaid'. A law counts once. -/
mutual
def uptoBulk {H : Type} : DataW H → Nat
  | .lit (.string bytes) => bytes.length + 1
  | .lit _ => 1
  | .nil => 1
  | .ptr d => uptoBulk d + 1
  | .slice elems spare => uptoBulkAll elems + uptoBulkAll spare + 1
  | .agg parts => uptoBulkAll parts + 1
  | .iface _ d => uptoBulk d + 1
  | .map entries => uptoBulkEntries entries + 1
  | .held _ => 1
def uptoBulkAll {H : Type} : List (DataW H) → Nat
  | [] => 0
  | d :: r => uptoBulk d + uptoBulkAll r
def uptoBulkEntries {H : Type} : List (Lit × DataW H) → Nat
  | [] => 0
  | x :: r => uptoBulkEntry x + uptoBulkEntries r
def uptoBulkEntry {H : Type} : Lit × DataW H → Nat
  | (.string bytes, d) => bytes.length + uptoBulk d + 1
  | (_, d) => uptoBulk d + 1
 end
def uptoSmall : (H : Type) → List (DataW H) → Bool := fun _ ds => decide (uptoBulkAll ds ≤ 1048576)
def OpenSpec.upto (s : _root_.Go.ChangeSpec) : _root_.Go.OpenSpec := { _root_.Go.OpenSpec.ofChange s with cond := some uptoSmall }

/-- 'lodgelaw8.MatSays', WHERE WHAT IT READS IS OF BULK AT MOST 1048576: true; the input reads as it did. -/
def matSaysUptoRow : OpenClaim := { program := "ytkehdgjdieemkaadoor", sum := "eca97c78500d1cd7f5d239579af01add2ddbba027f8a346d19ee28896d0d19c3", func := "lodge/lodgelaw8.MatSays", spec := "matSays", named := ["lodge/api.ErrShape", "lodge/api.ErrRange", "lodge/api.ErrMany", "lodge/api.ErrKind", "lodge/api.ErrEnd", "lodge/api.ErrRoom", "lodge/api.ErrNone", "lodge/api.ErrAlias", "lodge/api.ErrCost", "lodge/api.ErrJump", "lodge/api.ErrCycle", "lodge/api.ErrFuel", "lodge/api.ErrFull", "lodge/api.ErrQuota", "lodge/api.ErrCap", "lodge/api.ErrStale", "lodge/api.ErrTag", "lodge/api.ErrOld", "lodge/api.ErrTenant", "lodge/api.ErrWord", "lodge/api.ErrNumber"], apart := false, laid := [("lodge/api.ErrShape", laid_lodge_api_ErrShape), ("lodge/api.ErrRange", laid_lodge_api_ErrRange), ("lodge/api.ErrKind", laid_lodge_api_ErrKind), ("lodge/api.ErrMany", laid_lodge_api_ErrMany), ("lodge/api.ErrEnd", laid_lodge_api_ErrEnd), ("lodge/api.ErrRoom", laid_lodge_api_ErrRoom), ("lodge/api.ErrNone", laid_lodge_api_ErrNone), ("lodge/api.ErrAlias", laid_lodge_api_ErrAlias), ("lodge/api.ErrCost", laid_lodge_api_ErrCost), ("lodge/api.ErrJump", laid_lodge_api_ErrJump), ("lodge/api.ErrCycle", laid_lodge_api_ErrCycle), ("lodge/api.ErrFuel", laid_lodge_api_ErrFuel), ("lodge/api.ErrFull", laid_lodge_api_ErrFull), ("lodge/api.ErrQuota", laid_lodge_api_ErrQuota), ("lodge/api.ErrCap", laid_lodge_api_ErrCap), ("lodge/api.ErrStale", laid_lodge_api_ErrStale), ("lodge/api.ErrTag", laid_lodge_api_ErrTag), ("lodge/api.ErrOld", laid_lodge_api_ErrOld), ("lodge/api.ErrTenant", laid_lodge_api_ErrTenant), ("lodge/api.ErrWord", laid_lodge_api_ErrWord), ("lodge/api.ErrNumber", laid_lodge_api_ErrNumber)], narrowed := true }
def MatSaysUptoSaid : Prop := matSaysUptoRow.holds Tryd.pinned (OpenSpec.upto matSaysSpec)

/-- 'lodgelaw8.MatTurns', WHERE WHAT IT READS IS OF BULK AT MOST 1048576: true; the input reads as it did. -/
def matTurnsUptoRow : OpenClaim := { program := "ytkehdgjdieemkaadoor", sum := "eca97c78500d1cd7f5d239579af01add2ddbba027f8a346d19ee28896d0d19c3", func := "lodge/lodgelaw8.MatTurns", spec := "matTurns", named := ["lodge/api.ErrShape", "lodge/api.ErrRange", "lodge/api.ErrMany"], apart := false, laid := [("lodge/api.ErrShape", laid_lodge_api_ErrShape), ("lodge/api.ErrRange", laid_lodge_api_ErrRange), ("lodge/api.ErrMany", laid_lodge_api_ErrMany)], narrowed := true }
def MatTurnsUptoSaid : Prop := matTurnsUptoRow.holds Tryd.pinned (OpenSpec.upto matTurnsSpec)

/-- 'lodgelaw8.MatOnes', WHERE WHAT IT READS IS OF BULK AT MOST 1048576: true; the input reads as it did. -/
def matOnesUptoRow : OpenClaim := { program := "ytkehdgjdieemkaadoor", sum := "eca97c78500d1cd7f5d239579af01add2ddbba027f8a346d19ee28896d0d19c3", func := "lodge/lodgelaw8.MatOnes", spec := "matOnes", named := ["lodge/api.ErrShape", "lodge/api.ErrRange", "lodge/api.ErrMany"], apart := false, laid := [("lodge/api.ErrShape", laid_lodge_api_ErrShape), ("lodge/api.ErrRange", laid_lodge_api_ErrRange), ("lodge/api.ErrMany", laid_lodge_api_ErrMany)], narrowed := true }
def MatOnesUptoSaid : Prop := matOnesUptoRow.holds Tryd.pinned (OpenSpec.upto matOnesSpec)

/-- 'lodgelaw8.MatAdds', WHERE WHAT IT READS IS OF BULK AT MOST 1048576: true; the input reads as it did. -/
def matAddsUptoRow : OpenClaim := { program := "ytkehdgjdieemkaadoor", sum := "eca97c78500d1cd7f5d239579af01add2ddbba027f8a346d19ee28896d0d19c3", func := "lodge/lodgelaw8.MatAdds", spec := "matAdds", named := ["lodge/api.ErrShape", "lodge/api.ErrRange", "lodge/api.ErrMany"], apart := false, laid := [("lodge/api.ErrShape", laid_lodge_api_ErrShape), ("lodge/api.ErrRange", laid_lodge_api_ErrRange), ("lodge/api.ErrMany", laid_lodge_api_ErrMany)], narrowed := true }
def MatAddsUptoSaid : Prop := matAddsUptoRow.holds Tryd.pinned (OpenSpec.upto matAddsSpec)

/-- 'lodgelaw9.ConvSays', WHERE WHAT IT READS IS OF BULK AT MOST 1048576: true; the input reads as it did. -/
def convSaysUptoRow : OpenClaim := { program := "ytkehdgjdieemkaadoor", sum := "eca97c78500d1cd7f5d239579af01add2ddbba027f8a346d19ee28896d0d19c3", func := "lodge/lodgelaw9.ConvSays", spec := "convSays", named := ["lodge/api.ErrShape", "lodge/api.ErrRange", "lodge/api.ErrMany", "lodge/api.ErrKind", "lodge/api.ErrEnd", "lodge/api.ErrRoom", "lodge/api.ErrNone", "lodge/api.ErrAlias", "lodge/api.ErrCost", "lodge/api.ErrJump", "lodge/api.ErrCycle", "lodge/api.ErrFuel", "lodge/api.ErrFull", "lodge/api.ErrQuota", "lodge/api.ErrCap", "lodge/api.ErrStale", "lodge/api.ErrTag", "lodge/api.ErrOld", "lodge/api.ErrTenant", "lodge/api.ErrWord", "lodge/api.ErrNumber"], apart := false, laid := [("lodge/api.ErrShape", laid_lodge_api_ErrShape), ("lodge/api.ErrRange", laid_lodge_api_ErrRange), ("lodge/api.ErrKind", laid_lodge_api_ErrKind), ("lodge/api.ErrMany", laid_lodge_api_ErrMany), ("lodge/api.ErrEnd", laid_lodge_api_ErrEnd), ("lodge/api.ErrRoom", laid_lodge_api_ErrRoom), ("lodge/api.ErrNone", laid_lodge_api_ErrNone), ("lodge/api.ErrAlias", laid_lodge_api_ErrAlias), ("lodge/api.ErrCost", laid_lodge_api_ErrCost), ("lodge/api.ErrJump", laid_lodge_api_ErrJump), ("lodge/api.ErrCycle", laid_lodge_api_ErrCycle), ("lodge/api.ErrFuel", laid_lodge_api_ErrFuel), ("lodge/api.ErrFull", laid_lodge_api_ErrFull), ("lodge/api.ErrQuota", laid_lodge_api_ErrQuota), ("lodge/api.ErrCap", laid_lodge_api_ErrCap), ("lodge/api.ErrStale", laid_lodge_api_ErrStale), ("lodge/api.ErrTag", laid_lodge_api_ErrTag), ("lodge/api.ErrOld", laid_lodge_api_ErrOld), ("lodge/api.ErrTenant", laid_lodge_api_ErrTenant), ("lodge/api.ErrWord", laid_lodge_api_ErrWord), ("lodge/api.ErrNumber", laid_lodge_api_ErrNumber)], narrowed := true }
def ConvSaysUptoSaid : Prop := convSaysUptoRow.holds Tryd.pinned (OpenSpec.upto convSaysSpec)

/-- 'lodgelaw9.ConvInside', WHERE WHAT IT READS IS OF BULK AT MOST 1048576: true; the input reads as it did. -/
def convInsideUptoRow : OpenClaim := { program := "ytkehdgjdieemkaadoor", sum := "eca97c78500d1cd7f5d239579af01add2ddbba027f8a346d19ee28896d0d19c3", func := "lodge/lodgelaw9.ConvInside", spec := "convInside", named := ["lodge/api.ErrShape", "lodge/api.ErrRange", "lodge/api.ErrMany"], apart := false, laid := [("lodge/api.ErrShape", laid_lodge_api_ErrShape), ("lodge/api.ErrRange", laid_lodge_api_ErrRange), ("lodge/api.ErrMany", laid_lodge_api_ErrMany)], narrowed := true }
def ConvInsideUptoSaid : Prop := convInsideUptoRow.holds Tryd.pinned (OpenSpec.upto convInsideSpec)

/-- 'lodgelaw9.ConvOnes', WHERE WHAT IT READS IS OF BULK AT MOST 1048576: true; the input reads as it did. -/
def convOnesUptoRow : OpenClaim := { program := "ytkehdgjdieemkaadoor", sum := "eca97c78500d1cd7f5d239579af01add2ddbba027f8a346d19ee28896d0d19c3", func := "lodge/lodgelaw9.ConvOnes", spec := "convOnes", named := ["lodge/api.ErrShape", "lodge/api.ErrRange", "lodge/api.ErrMany"], apart := false, laid := [("lodge/api.ErrShape", laid_lodge_api_ErrShape), ("lodge/api.ErrRange", laid_lodge_api_ErrRange), ("lodge/api.ErrMany", laid_lodge_api_ErrMany)], narrowed := true }
def ConvOnesUptoSaid : Prop := convOnesUptoRow.holds Tryd.pinned (OpenSpec.upto convOnesSpec)

/-- 'lodgelaw9.ConvPads', WHERE WHAT IT READS IS OF BULK AT MOST 1048576: true; the input reads as it did. -/
def convPadsUptoRow : OpenClaim := { program := "ytkehdgjdieemkaadoor", sum := "eca97c78500d1cd7f5d239579af01add2ddbba027f8a346d19ee28896d0d19c3", func := "lodge/lodgelaw9.ConvPads", spec := "convPads", named := ["lodge/api.ErrShape", "lodge/api.ErrRange", "lodge/api.ErrMany"], apart := false, laid := [("lodge/api.ErrShape", laid_lodge_api_ErrShape), ("lodge/api.ErrRange", laid_lodge_api_ErrRange), ("lodge/api.ErrMany", laid_lodge_api_ErrMany)], narrowed := true }
def ConvPadsUptoSaid : Prop := convPadsUptoRow.holds Tryd.pinned (OpenSpec.upto convPadsSpec)

/-- 'lodgelaw9.ConvStrides', WHERE WHAT IT READS IS OF BULK AT MOST 1048576: true; the input reads as it did. -/
def convStridesUptoRow : OpenClaim := { program := "ytkehdgjdieemkaadoor", sum := "eca97c78500d1cd7f5d239579af01add2ddbba027f8a346d19ee28896d0d19c3", func := "lodge/lodgelaw9.ConvStrides", spec := "convStrides", named := ["lodge/api.ErrShape", "lodge/api.ErrRange", "lodge/api.ErrMany"], apart := false, laid := [("lodge/api.ErrShape", laid_lodge_api_ErrShape), ("lodge/api.ErrRange", laid_lodge_api_ErrRange), ("lodge/api.ErrMany", laid_lodge_api_ErrMany)], narrowed := true }
def ConvStridesUptoSaid : Prop := convStridesUptoRow.holds Tryd.pinned (OpenSpec.upto convStridesSpec)

/-- 'lodgelaw9.ConvOnly', WHERE WHAT IT READS IS OF BULK AT MOST 1048576: true; the input reads as it did. -/
def convOnlyUptoRow : OpenClaim := { program := "ytkehdgjdieemkaadoor", sum := "eca97c78500d1cd7f5d239579af01add2ddbba027f8a346d19ee28896d0d19c3", func := "lodge/lodgelaw9.ConvOnly", spec := "convOnly", named := ["lodge/api.ErrShape", "lodge/api.ErrRange", "lodge/api.ErrMany"], apart := false, laid := [("lodge/api.ErrShape", laid_lodge_api_ErrShape), ("lodge/api.ErrRange", laid_lodge_api_ErrRange), ("lodge/api.ErrMany", laid_lodge_api_ErrMany)], narrowed := true }
def ConvOnlyUptoSaid : Prop := convOnlyUptoRow.holds Tryd.pinned (OpenSpec.upto convOnlySpec)

end Rows
end Go.Proofs.YtkehdgjdieemkaaDoor
