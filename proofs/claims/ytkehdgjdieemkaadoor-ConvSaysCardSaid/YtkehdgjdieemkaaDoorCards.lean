/-
  DERIVED. GIVEN WITH THE SEED: THE CARDS: each row of YtkehdgjdieemkaaDoorRows.lean that lists a variable, with what it lists TIED to the program's text (the seventh form; the later family's looks); each row that meets fmt, with fmt's text TOLD by the authors' own Lean function (tested against real Go, not proved from fmt's source: count such statements apart). THE CARD IS WHAT COUNTS. Prove the row's statement (the work); the ties are given (YtkehdgjdieemkaaDoorTie.lean); close each card by the builder's one call (the guide's Derived/Test/ToyasCard.lean, 'card_holds'). Laid BY PROGRAM, IN A SANDBOX (cutbox-door.mjs). By AI agents, Wed Nov 11 2026. No macro, syntax, notation, axiom, sorry.
-/
import Derived.Test.YtkehdgjdieemkaaDoorRows
import GoSem.ClaimSeven
namespace Go.Proofs.YtkehdgjdieemkaaDoor
namespace Rows

/-- THE TIED CARD OF 'lodgelaw8.MatSays'. -/
def matSaysCard : Claim7 := { stood := { row := matSaysRow, standIns := [], harness := (true, "eaa4c0d1afb9fde0d6fdb471f6654b32eb97726b0e36dde9f4e1506d8f929dba"), looks := true }, kinds := [], alts := [], laidByText := true, laidKinds := [.sentinel, .sentinel, .sentinel, .sentinel, .sentinel, .sentinel, .sentinel, .sentinel, .sentinel, .sentinel, .sentinel, .sentinel, .sentinel, .sentinel, .sentinel, .sentinel, .sentinel, .sentinel, .sentinel, .sentinel, .sentinel], laidTests := true, laidLooks := .later }
def MatSaysCardSaid : Prop := Claim7.holds Tryd.pinned (.plain (OpenSpec.ofChange matSaysSpec)) matSaysCard

/-- THE TIED CARD OF 'lodgelaw8.MatTurns'. -/
def matTurnsCard : Claim7 := { stood := { row := matTurnsRow, standIns := [], harness := (true, "eaa4c0d1afb9fde0d6fdb471f6654b32eb97726b0e36dde9f4e1506d8f929dba"), looks := true }, kinds := [], alts := [], laidByText := true, laidKinds := [.sentinel, .sentinel, .sentinel], laidTests := true, laidLooks := .later }
def MatTurnsCardSaid : Prop := Claim7.holds Tryd.pinned (.plain (OpenSpec.ofChange matTurnsSpec)) matTurnsCard

/-- THE TIED CARD OF 'lodgelaw8.MatOnes'. -/
def matOnesCard : Claim7 := { stood := { row := matOnesRow, standIns := [], harness := (true, "eaa4c0d1afb9fde0d6fdb471f6654b32eb97726b0e36dde9f4e1506d8f929dba"), looks := true }, kinds := [], alts := [], laidByText := true, laidKinds := [.sentinel, .sentinel, .sentinel], laidTests := true, laidLooks := .later }
def MatOnesCardSaid : Prop := Claim7.holds Tryd.pinned (.plain (OpenSpec.ofChange matOnesSpec)) matOnesCard

/-- THE TIED CARD OF 'lodgelaw8.MatAdds'. -/
def matAddsCard : Claim7 := { stood := { row := matAddsRow, standIns := [], harness := (true, "eaa4c0d1afb9fde0d6fdb471f6654b32eb97726b0e36dde9f4e1506d8f929dba"), looks := true }, kinds := [], alts := [], laidByText := true, laidKinds := [.sentinel, .sentinel, .sentinel], laidTests := true, laidLooks := .later }
def MatAddsCardSaid : Prop := Claim7.holds Tryd.pinned (.plain (OpenSpec.ofChange matAddsSpec)) matAddsCard

/-- THE TIED CARD OF 'lodgelaw9.ConvSays'. -/
def convSaysCard : Claim7 := { stood := { row := convSaysRow, standIns := [], harness := (true, "eaa4c0d1afb9fde0d6fdb471f6654b32eb97726b0e36dde9f4e1506d8f929dba"), looks := true }, kinds := [], alts := [], laidByText := true, laidKinds := [.sentinel, .sentinel, .sentinel, .sentinel, .sentinel, .sentinel, .sentinel, .sentinel, .sentinel, .sentinel, .sentinel, .sentinel, .sentinel, .sentinel, .sentinel, .sentinel, .sentinel, .sentinel, .sentinel, .sentinel, .sentinel], laidTests := true, laidLooks := .later }
def ConvSaysCardSaid : Prop := Claim7.holds Tryd.pinned (.plain (OpenSpec.ofChange convSaysSpec)) convSaysCard

/-- THE TIED CARD OF 'lodgelaw9.ConvInside'. -/
def convInsideCard : Claim7 := { stood := { row := convInsideRow, standIns := [], harness := (true, "eaa4c0d1afb9fde0d6fdb471f6654b32eb97726b0e36dde9f4e1506d8f929dba"), looks := true }, kinds := [], alts := [], laidByText := true, laidKinds := [.sentinel, .sentinel, .sentinel], laidTests := true, laidLooks := .later }
def ConvInsideCardSaid : Prop := Claim7.holds Tryd.pinned (.plain (OpenSpec.ofChange convInsideSpec)) convInsideCard

/-- THE TIED CARD OF 'lodgelaw9.ConvOnes'. -/
def convOnesCard : Claim7 := { stood := { row := convOnesRow, standIns := [], harness := (true, "eaa4c0d1afb9fde0d6fdb471f6654b32eb97726b0e36dde9f4e1506d8f929dba"), looks := true }, kinds := [], alts := [], laidByText := true, laidKinds := [.sentinel, .sentinel, .sentinel], laidTests := true, laidLooks := .later }
def ConvOnesCardSaid : Prop := Claim7.holds Tryd.pinned (.plain (OpenSpec.ofChange convOnesSpec)) convOnesCard

/-- THE TIED CARD OF 'lodgelaw9.ConvPads'. -/
def convPadsCard : Claim7 := { stood := { row := convPadsRow, standIns := [], harness := (true, "eaa4c0d1afb9fde0d6fdb471f6654b32eb97726b0e36dde9f4e1506d8f929dba"), looks := true }, kinds := [], alts := [], laidByText := true, laidKinds := [.sentinel, .sentinel, .sentinel], laidTests := true, laidLooks := .later }
def ConvPadsCardSaid : Prop := Claim7.holds Tryd.pinned (.plain (OpenSpec.ofChange convPadsSpec)) convPadsCard

/-- THE TIED CARD OF 'lodgelaw9.ConvStrides'. -/
def convStridesCard : Claim7 := { stood := { row := convStridesRow, standIns := [], harness := (true, "eaa4c0d1afb9fde0d6fdb471f6654b32eb97726b0e36dde9f4e1506d8f929dba"), looks := true }, kinds := [], alts := [], laidByText := true, laidKinds := [.sentinel, .sentinel, .sentinel], laidTests := true, laidLooks := .later }
def ConvStridesCardSaid : Prop := Claim7.holds Tryd.pinned (.plain (OpenSpec.ofChange convStridesSpec)) convStridesCard

/-- THE TIED CARD OF 'lodgelaw9.ConvOnly'. -/
def convOnlyCard : Claim7 := { stood := { row := convOnlyRow, standIns := [], harness := (true, "eaa4c0d1afb9fde0d6fdb471f6654b32eb97726b0e36dde9f4e1506d8f929dba"), looks := true }, kinds := [], alts := [], laidByText := true, laidKinds := [.sentinel, .sentinel, .sentinel], laidTests := true, laidLooks := .later }
def ConvOnlyCardSaid : Prop := Claim7.holds Tryd.pinned (.plain (OpenSpec.ofChange convOnlySpec)) convOnlyCard

/-- THE SECOND FORM's CARD OF 'lodgelaw8.MatSays'. -/
def matSaysUptoCard : Claim7 := { stood := { row := matSaysUptoRow, standIns := [], harness := (true, "eaa4c0d1afb9fde0d6fdb471f6654b32eb97726b0e36dde9f4e1506d8f929dba"), looks := true }, kinds := [], alts := [], laidByText := true, laidKinds := [.sentinel, .sentinel, .sentinel, .sentinel, .sentinel, .sentinel, .sentinel, .sentinel, .sentinel, .sentinel, .sentinel, .sentinel, .sentinel, .sentinel, .sentinel, .sentinel, .sentinel, .sentinel, .sentinel, .sentinel, .sentinel], laidTests := true, laidLooks := .later }
def MatSaysUptoCardSaid : Prop := Claim7.holds Tryd.pinned (.plain (OpenSpec.upto matSaysSpec)) matSaysUptoCard

/-- THE SECOND FORM's CARD OF 'lodgelaw8.MatTurns'. -/
def matTurnsUptoCard : Claim7 := { stood := { row := matTurnsUptoRow, standIns := [], harness := (true, "eaa4c0d1afb9fde0d6fdb471f6654b32eb97726b0e36dde9f4e1506d8f929dba"), looks := true }, kinds := [], alts := [], laidByText := true, laidKinds := [.sentinel, .sentinel, .sentinel], laidTests := true, laidLooks := .later }
def MatTurnsUptoCardSaid : Prop := Claim7.holds Tryd.pinned (.plain (OpenSpec.upto matTurnsSpec)) matTurnsUptoCard

/-- THE SECOND FORM's CARD OF 'lodgelaw8.MatOnes'. -/
def matOnesUptoCard : Claim7 := { stood := { row := matOnesUptoRow, standIns := [], harness := (true, "eaa4c0d1afb9fde0d6fdb471f6654b32eb97726b0e36dde9f4e1506d8f929dba"), looks := true }, kinds := [], alts := [], laidByText := true, laidKinds := [.sentinel, .sentinel, .sentinel], laidTests := true, laidLooks := .later }
def MatOnesUptoCardSaid : Prop := Claim7.holds Tryd.pinned (.plain (OpenSpec.upto matOnesSpec)) matOnesUptoCard

/-- THE SECOND FORM's CARD OF 'lodgelaw8.MatAdds'. -/
def matAddsUptoCard : Claim7 := { stood := { row := matAddsUptoRow, standIns := [], harness := (true, "eaa4c0d1afb9fde0d6fdb471f6654b32eb97726b0e36dde9f4e1506d8f929dba"), looks := true }, kinds := [], alts := [], laidByText := true, laidKinds := [.sentinel, .sentinel, .sentinel], laidTests := true, laidLooks := .later }
def MatAddsUptoCardSaid : Prop := Claim7.holds Tryd.pinned (.plain (OpenSpec.upto matAddsSpec)) matAddsUptoCard

/-- THE SECOND FORM's CARD OF 'lodgelaw9.ConvSays'. -/
def convSaysUptoCard : Claim7 := { stood := { row := convSaysUptoRow, standIns := [], harness := (true, "eaa4c0d1afb9fde0d6fdb471f6654b32eb97726b0e36dde9f4e1506d8f929dba"), looks := true }, kinds := [], alts := [], laidByText := true, laidKinds := [.sentinel, .sentinel, .sentinel, .sentinel, .sentinel, .sentinel, .sentinel, .sentinel, .sentinel, .sentinel, .sentinel, .sentinel, .sentinel, .sentinel, .sentinel, .sentinel, .sentinel, .sentinel, .sentinel, .sentinel, .sentinel], laidTests := true, laidLooks := .later }
def ConvSaysUptoCardSaid : Prop := Claim7.holds Tryd.pinned (.plain (OpenSpec.upto convSaysSpec)) convSaysUptoCard

/-- THE SECOND FORM's CARD OF 'lodgelaw9.ConvInside'. -/
def convInsideUptoCard : Claim7 := { stood := { row := convInsideUptoRow, standIns := [], harness := (true, "eaa4c0d1afb9fde0d6fdb471f6654b32eb97726b0e36dde9f4e1506d8f929dba"), looks := true }, kinds := [], alts := [], laidByText := true, laidKinds := [.sentinel, .sentinel, .sentinel], laidTests := true, laidLooks := .later }
def ConvInsideUptoCardSaid : Prop := Claim7.holds Tryd.pinned (.plain (OpenSpec.upto convInsideSpec)) convInsideUptoCard

/-- THE SECOND FORM's CARD OF 'lodgelaw9.ConvOnes'. -/
def convOnesUptoCard : Claim7 := { stood := { row := convOnesUptoRow, standIns := [], harness := (true, "eaa4c0d1afb9fde0d6fdb471f6654b32eb97726b0e36dde9f4e1506d8f929dba"), looks := true }, kinds := [], alts := [], laidByText := true, laidKinds := [.sentinel, .sentinel, .sentinel], laidTests := true, laidLooks := .later }
def ConvOnesUptoCardSaid : Prop := Claim7.holds Tryd.pinned (.plain (OpenSpec.upto convOnesSpec)) convOnesUptoCard

/-- THE SECOND FORM's CARD OF 'lodgelaw9.ConvPads'. -/
def convPadsUptoCard : Claim7 := { stood := { row := convPadsUptoRow, standIns := [], harness := (true, "eaa4c0d1afb9fde0d6fdb471f6654b32eb97726b0e36dde9f4e1506d8f929dba"), looks := true }, kinds := [], alts := [], laidByText := true, laidKinds := [.sentinel, .sentinel, .sentinel], laidTests := true, laidLooks := .later }
def ConvPadsUptoCardSaid : Prop := Claim7.holds Tryd.pinned (.plain (OpenSpec.upto convPadsSpec)) convPadsUptoCard

/-- THE SECOND FORM's CARD OF 'lodgelaw9.ConvStrides'. -/
def convStridesUptoCard : Claim7 := { stood := { row := convStridesUptoRow, standIns := [], harness := (true, "eaa4c0d1afb9fde0d6fdb471f6654b32eb97726b0e36dde9f4e1506d8f929dba"), looks := true }, kinds := [], alts := [], laidByText := true, laidKinds := [.sentinel, .sentinel, .sentinel], laidTests := true, laidLooks := .later }
def ConvStridesUptoCardSaid : Prop := Claim7.holds Tryd.pinned (.plain (OpenSpec.upto convStridesSpec)) convStridesUptoCard

/-- THE SECOND FORM's CARD OF 'lodgelaw9.ConvOnly'. -/
def convOnlyUptoCard : Claim7 := { stood := { row := convOnlyUptoRow, standIns := [], harness := (true, "eaa4c0d1afb9fde0d6fdb471f6654b32eb97726b0e36dde9f4e1506d8f929dba"), looks := true }, kinds := [], alts := [], laidByText := true, laidKinds := [.sentinel, .sentinel, .sentinel], laidTests := true, laidLooks := .later }
def ConvOnlyUptoCardSaid : Prop := Claim7.holds Tryd.pinned (.plain (OpenSpec.upto convOnlySpec)) convOnlyUptoCard
end Rows
end Go.Proofs.YtkehdgjdieemkaaDoor
