/-
  DERIVED. GIVEN WITH THE SEED: THE CARDS: each row of YtgdcfjmpjhlndaaGreatDoorRows.lean that lists a variable, with what it lists TIED to the program's text (the seventh form; the later family's looks); each row that meets fmt, with fmt's text TOLD by the authors' own Lean function (tested against real Go, not proved from fmt's source: count such statements apart). THE CARD IS WHAT COUNTS. Prove the row's statement (the work); the ties are given (YtgdcfjmpjhlndaaGreatDoorTie.lean); close each card by the builder's one call (the guide's Derived/Test/ToyasCard.lean, 'card_holds'). Laid BY PROGRAM, IN A SANDBOX (cutbox-door.mjs). By AI agents, Wed Nov 11 2026. No macro, syntax, notation, axiom, sorry.
-/
import Derived.Test.YtgdcfjmpjhlndaaGreatDoorRows
import GoSem.ClaimSeven
namespace Go.Proofs.YtgdcfjmpjhlndaaGreatDoor
namespace Rows

/-- THE TIED CARD OF 'lodgelaw11.SoftSays'. -/
def softSaysCard : Claim7 := { stood := { row := softSaysRow, standIns := [], harness := (true, "ceacc023b813ab12f1e96620150a94351c785a7908bc62cdc122bdd6f1da2281"), looks := true }, kinds := [], alts := [], laidByText := true, laidKinds := [.sentinel, .sentinel, .sentinel, .sentinel, .sentinel, .sentinel, .sentinel, .sentinel, .sentinel, .sentinel, .sentinel, .sentinel, .sentinel, .sentinel, .sentinel, .sentinel, .sentinel, .sentinel, .sentinel, .sentinel, .sentinel], laidTests := true, laidLooks := .later }
def SoftSaysCardSaid : Prop := Claim7.holds Tryz.pinned (.plain (OpenSpec.ofChange softSaysSpec)) softSaysCard

/-- THE TIED CARD OF 'lodgelaw12.OpSays'. -/
def opSaysCard : Claim7 := { stood := { row := opSaysRow, standIns := [], harness := (true, "ceacc023b813ab12f1e96620150a94351c785a7908bc62cdc122bdd6f1da2281"), looks := true }, kinds := [], alts := [], laidByText := true, laidKinds := [.sentinel, .sentinel, .sentinel, .sentinel, .sentinel, .sentinel, .sentinel, .sentinel, .sentinel, .sentinel, .sentinel, .sentinel, .sentinel, .sentinel, .sentinel, .sentinel, .sentinel, .sentinel, .sentinel, .sentinel, .sentinel, .data], laidTests := true, laidLooks := .later }
def OpSaysCardSaid : Prop := Claim7.holds Tryz.pinned (.plain (OpenSpec.ofChange opSaysSpec)) opSaysCard

/-- THE SECOND FORM's CARD OF 'lodgelaw11.SoftSays'. -/
def softSaysUptoCard : Claim7 := { stood := { row := softSaysUptoRow, standIns := [], harness := (true, "ceacc023b813ab12f1e96620150a94351c785a7908bc62cdc122bdd6f1da2281"), looks := true }, kinds := [], alts := [], laidByText := true, laidKinds := [.sentinel, .sentinel, .sentinel, .sentinel, .sentinel, .sentinel, .sentinel, .sentinel, .sentinel, .sentinel, .sentinel, .sentinel, .sentinel, .sentinel, .sentinel, .sentinel, .sentinel, .sentinel, .sentinel, .sentinel, .sentinel], laidTests := true, laidLooks := .later }
def SoftSaysUptoCardSaid : Prop := Claim7.holds Tryz.pinned (.plain (OpenSpec.upto softSaysSpec)) softSaysUptoCard

/-- THE SECOND FORM's CARD OF 'lodgelaw12.OpSays'. -/
def opSaysUptoCard : Claim7 := { stood := { row := opSaysUptoRow, standIns := [], harness := (true, "ceacc023b813ab12f1e96620150a94351c785a7908bc62cdc122bdd6f1da2281"), looks := true }, kinds := [], alts := [], laidByText := true, laidKinds := [.sentinel, .sentinel, .sentinel, .sentinel, .sentinel, .sentinel, .sentinel, .sentinel, .sentinel, .sentinel, .sentinel, .sentinel, .sentinel, .sentinel, .sentinel, .sentinel, .sentinel, .sentinel, .sentinel, .sentinel, .sentinel, .data], laidTests := true, laidLooks := .later }
def OpSaysUptoCardSaid : Prop := Claim7.holds Tryz.pinned (.plain (OpenSpec.upto opSaysSpec)) opSaysUptoCard
end Rows
end Go.Proofs.YtgdcfjmpjhlndaaGreatDoor
