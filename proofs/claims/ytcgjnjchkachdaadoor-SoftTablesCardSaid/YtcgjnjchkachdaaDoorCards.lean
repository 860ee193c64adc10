/-
  DERIVED. GIVEN WITH THE SEED: THE CARDS: each row of YtcgjnjchkachdaaDoorRows.lean that lists a variable, with what it lists TIED to the program's text (the seventh form; the later family's looks); each row that meets fmt, with fmt's text TOLD by the authors' own Lean function (tested against real Go, not proved from fmt's source: count such statements apart). THE CARD IS WHAT COUNTS. Prove the row's statement (the work); the ties are given (YtcgjnjchkachdaaDoorTie.lean); close each card by the builder's one call (the guide's Derived/Test/ToyasCard.lean, 'card_holds'). Laid BY PROGRAM, IN A SANDBOX (cutbox-door.mjs). By AI agents, Wed Nov 11 2026. No macro, syntax, notation, axiom, sorry.
-/
import Derived.Test.YtcgjnjchkachdaaDoorRows
import GoSem.ClaimSeven
namespace Go.Proofs.YtcgjnjchkachdaaDoor
namespace Rows

/-- THE TIED CARD OF 'lodgelaw7.ElemSays'. -/
def elemSaysCard : Claim7 := { stood := { row := elemSaysRow, standIns := [], harness := (true, "5a2dab873ee067dae5ad67bca5cf3fa30b5b4c4451757270078628128f02db3a"), looks := true }, kinds := [], alts := [], laidByText := true, laidKinds := [.sentinel, .sentinel, .sentinel, .sentinel, .sentinel, .sentinel, .sentinel, .sentinel, .sentinel, .sentinel, .sentinel, .sentinel, .sentinel, .sentinel, .sentinel, .sentinel, .sentinel, .sentinel, .sentinel, .sentinel, .sentinel], laidTests := true, laidLooks := .later }
def ElemSaysCardSaid : Prop := Claim7.holds Tryd.pinned (.plain (OpenSpec.ofChange elemSaysSpec)) elemSaysCard

/-- THE TIED CARD OF 'lodgelaw10.PoolSays'. -/
def poolSaysCard : Claim7 := { stood := { row := poolSaysRow, standIns := [], harness := (true, "5a2dab873ee067dae5ad67bca5cf3fa30b5b4c4451757270078628128f02db3a"), looks := true }, kinds := [], alts := [], laidByText := true, laidKinds := [.sentinel, .sentinel, .sentinel, .sentinel, .sentinel, .sentinel, .sentinel, .sentinel, .sentinel, .sentinel, .sentinel, .sentinel, .sentinel, .sentinel, .sentinel, .sentinel, .sentinel, .sentinel, .sentinel, .sentinel, .sentinel], laidTests := true, laidLooks := .later }
def PoolSaysCardSaid : Prop := Claim7.holds Tryd.pinned (.plain (OpenSpec.ofChange poolSaysSpec)) poolSaysCard

/-- THE TIED CARD OF 'lodgelaw10.PoolBetween'. -/
def poolBetweenCard : Claim7 := { stood := { row := poolBetweenRow, standIns := [], harness := (true, "5a2dab873ee067dae5ad67bca5cf3fa30b5b4c4451757270078628128f02db3a"), looks := true }, kinds := [], alts := [], laidByText := true, laidKinds := [.sentinel, .sentinel, .sentinel], laidTests := true, laidLooks := .later }
def PoolBetweenCardSaid : Prop := Claim7.holds Tryd.pinned (.plain (OpenSpec.ofChange poolBetweenSpec)) poolBetweenCard

/-- THE TIED CARD OF 'lodgelaw10.PoolGreatest'. -/
def poolGreatestCard : Claim7 := { stood := { row := poolGreatestRow, standIns := [], harness := (true, "5a2dab873ee067dae5ad67bca5cf3fa30b5b4c4451757270078628128f02db3a"), looks := true }, kinds := [], alts := [], laidByText := true, laidKinds := [.sentinel, .sentinel, .sentinel], laidTests := true, laidLooks := .later }
def PoolGreatestCardSaid : Prop := Claim7.holds Tryd.pinned (.plain (OpenSpec.ofChange poolGreatestSpec)) poolGreatestCard

/-- THE TIED CARD OF 'lodgelaw11.SoftTables'. -/
def softTablesCard : Claim7 := { stood := { row := softTablesRow, standIns := [], harness := (true, "5a2dab873ee067dae5ad67bca5cf3fa30b5b4c4451757270078628128f02db3a"), looks := true }, kinds := [], alts := [], laidByText := true, laidKinds := [.sentinel, .sentinel, .sentinel, .sentinel, .sentinel, .sentinel, .sentinel, .sentinel, .sentinel, .sentinel, .sentinel, .sentinel, .sentinel, .sentinel, .sentinel, .sentinel, .sentinel, .sentinel, .sentinel, .sentinel, .sentinel], laidTests := true, laidLooks := .later }
def SoftTablesCardSaid : Prop := Claim7.holds Tryd.pinned (.plain (OpenSpec.ofChange softTablesSpec)) softTablesCard

/-- THE TIED CARD OF 'lodgelaw11.SoftShifts'. -/
def softShiftsCard : Claim7 := { stood := { row := softShiftsRow, standIns := [], harness := (true, "5a2dab873ee067dae5ad67bca5cf3fa30b5b4c4451757270078628128f02db3a"), looks := true }, kinds := [], alts := [], laidByText := true, laidKinds := [.sentinel, .sentinel, .sentinel, .sentinel], laidTests := true, laidLooks := .later }
def SoftShiftsCardSaid : Prop := Claim7.holds Tryd.pinned (.plain (OpenSpec.ofChange softShiftsSpec)) softShiftsCard

/-- THE TIED CARD OF 'lodgelaw11.SoftGathers'. -/
def softGathersCard : Claim7 := { stood := { row := softGathersRow, standIns := [], harness := (true, "5a2dab873ee067dae5ad67bca5cf3fa30b5b4c4451757270078628128f02db3a"), looks := true }, kinds := [], alts := [], laidByText := true, laidKinds := [.sentinel, .sentinel, .sentinel, .sentinel], laidTests := true, laidLooks := .later }
def SoftGathersCardSaid : Prop := Claim7.holds Tryd.pinned (.plain (OpenSpec.ofChange softGathersSpec)) softGathersCard

/-- THE TIED CARD OF 'lodgelaw11.SoftRows'. -/
def softRowsCard : Claim7 := { stood := { row := softRowsRow, standIns := [], harness := (true, "5a2dab873ee067dae5ad67bca5cf3fa30b5b4c4451757270078628128f02db3a"), looks := true }, kinds := [], alts := [], laidByText := true, laidKinds := [.sentinel, .sentinel, .sentinel, .sentinel], laidTests := true, laidLooks := .later }
def SoftRowsCardSaid : Prop := Claim7.holds Tryd.pinned (.plain (OpenSpec.ofChange softRowsSpec)) softRowsCard

/-- THE TIED CARD OF 'lodgelaw11.SoftNothing'. -/
def softNothingCard : Claim7 := { stood := { row := softNothingRow, standIns := [], harness := (true, "5a2dab873ee067dae5ad67bca5cf3fa30b5b4c4451757270078628128f02db3a"), looks := true }, kinds := [], alts := [], laidByText := true, laidKinds := [.sentinel, .sentinel, .sentinel, .sentinel], laidTests := true, laidLooks := .later }
def SoftNothingCardSaid : Prop := Claim7.holds Tryd.pinned (.plain (OpenSpec.ofChange softNothingSpec)) softNothingCard

/-- THE TIED CARD OF 'lodgelaw12.OpNames'. -/
def opNamesCard : Claim7 := { stood := { row := opNamesRow, standIns := [], harness := (true, "5a2dab873ee067dae5ad67bca5cf3fa30b5b4c4451757270078628128f02db3a"), looks := true }, kinds := [], alts := [], laidByText := true, laidKinds := [.sentinel, .sentinel, .sentinel, .sentinel, .data], laidTests := true, laidLooks := .later }
def OpNamesCardSaid : Prop := Claim7.holds Tryd.pinned (.plain (OpenSpec.ofChange opNamesSpec)) opNamesCard

/-- THE TIED CARD OF 'lodgelaw12.OpUnits'. -/
def opUnitsCard : Claim7 := { stood := { row := opUnitsRow, standIns := [], harness := (true, "5a2dab873ee067dae5ad67bca5cf3fa30b5b4c4451757270078628128f02db3a"), looks := true }, kinds := [], alts := [], laidByText := true, laidKinds := [.sentinel, .sentinel, .sentinel, .sentinel, .data], laidTests := true, laidLooks := .later }
def OpUnitsCardSaid : Prop := Claim7.holds Tryd.pinned (.plain (OpenSpec.ofChange opUnitsSpec)) opUnitsCard

/-- THE SECOND FORM's CARD OF 'lodgelaw7.ElemSays'. -/
def elemSaysUptoCard : Claim7 := { stood := { row := elemSaysUptoRow, standIns := [], harness := (true, "5a2dab873ee067dae5ad67bca5cf3fa30b5b4c4451757270078628128f02db3a"), looks := true }, kinds := [], alts := [], laidByText := true, laidKinds := [.sentinel, .sentinel, .sentinel, .sentinel, .sentinel, .sentinel, .sentinel, .sentinel, .sentinel, .sentinel, .sentinel, .sentinel, .sentinel, .sentinel, .sentinel, .sentinel, .sentinel, .sentinel, .sentinel, .sentinel, .sentinel], laidTests := true, laidLooks := .later }
def ElemSaysUptoCardSaid : Prop := Claim7.holds Tryd.pinned (.plain (OpenSpec.upto elemSaysSpec)) elemSaysUptoCard

/-- THE SECOND FORM's CARD OF 'lodgelaw10.PoolSays'. -/
def poolSaysUptoCard : Claim7 := { stood := { row := poolSaysUptoRow, standIns := [], harness := (true, "5a2dab873ee067dae5ad67bca5cf3fa30b5b4c4451757270078628128f02db3a"), looks := true }, kinds := [], alts := [], laidByText := true, laidKinds := [.sentinel, .sentinel, .sentinel, .sentinel, .sentinel, .sentinel, .sentinel, .sentinel, .sentinel, .sentinel, .sentinel, .sentinel, .sentinel, .sentinel, .sentinel, .sentinel, .sentinel, .sentinel, .sentinel, .sentinel, .sentinel], laidTests := true, laidLooks := .later }
def PoolSaysUptoCardSaid : Prop := Claim7.holds Tryd.pinned (.plain (OpenSpec.upto poolSaysSpec)) poolSaysUptoCard

/-- THE SECOND FORM's CARD OF 'lodgelaw10.PoolBetween'. -/
def poolBetweenUptoCard : Claim7 := { stood := { row := poolBetweenUptoRow, standIns := [], harness := (true, "5a2dab873ee067dae5ad67bca5cf3fa30b5b4c4451757270078628128f02db3a"), looks := true }, kinds := [], alts := [], laidByText := true, laidKinds := [.sentinel, .sentinel, .sentinel], laidTests := true, laidLooks := .later }
def PoolBetweenUptoCardSaid : Prop := Claim7.holds Tryd.pinned (.plain (OpenSpec.upto poolBetweenSpec)) poolBetweenUptoCard

/-- THE SECOND FORM's CARD OF 'lodgelaw10.PoolGreatest'. -/
def poolGreatestUptoCard : Claim7 := { stood := { row := poolGreatestUptoRow, standIns := [], harness := (true, "5a2dab873ee067dae5ad67bca5cf3fa30b5b4c4451757270078628128f02db3a"), looks := true }, kinds := [], alts := [], laidByText := true, laidKinds := [.sentinel, .sentinel, .sentinel], laidTests := true, laidLooks := .later }
def PoolGreatestUptoCardSaid : Prop := Claim7.holds Tryd.pinned (.plain (OpenSpec.upto poolGreatestSpec)) poolGreatestUptoCard

/-- THE SECOND FORM's CARD OF 'lodgelaw11.SoftTables'. -/
def softTablesUptoCard : Claim7 := { stood := { row := softTablesUptoRow, standIns := [], harness := (true, "5a2dab873ee067dae5ad67bca5cf3fa30b5b4c4451757270078628128f02db3a"), looks := true }, kinds := [], alts := [], laidByText := true, laidKinds := [.sentinel, .sentinel, .sentinel, .sentinel, .sentinel, .sentinel, .sentinel, .sentinel, .sentinel, .sentinel, .sentinel, .sentinel, .sentinel, .sentinel, .sentinel, .sentinel, .sentinel, .sentinel, .sentinel, .sentinel, .sentinel], laidTests := true, laidLooks := .later }
def SoftTablesUptoCardSaid : Prop := Claim7.holds Tryd.pinned (.plain (OpenSpec.upto softTablesSpec)) softTablesUptoCard

/-- THE SECOND FORM's CARD OF 'lodgelaw11.SoftShifts'. -/
def softShiftsUptoCard : Claim7 := { stood := { row := softShiftsUptoRow, standIns := [], harness := (true, "5a2dab873ee067dae5ad67bca5cf3fa30b5b4c4451757270078628128f02db3a"), looks := true }, kinds := [], alts := [], laidByText := true, laidKinds := [.sentinel, .sentinel, .sentinel, .sentinel], laidTests := true, laidLooks := .later }
def SoftShiftsUptoCardSaid : Prop := Claim7.holds Tryd.pinned (.plain (OpenSpec.upto softShiftsSpec)) softShiftsUptoCard

/-- THE SECOND FORM's CARD OF 'lodgelaw11.SoftGathers'. -/
def softGathersUptoCard : Claim7 := { stood := { row := softGathersUptoRow, standIns := [], harness := (true, "5a2dab873ee067dae5ad67bca5cf3fa30b5b4c4451757270078628128f02db3a"), looks := true }, kinds := [], alts := [], laidByText := true, laidKinds := [.sentinel, .sentinel, .sentinel, .sentinel], laidTests := true, laidLooks := .later }
def SoftGathersUptoCardSaid : Prop := Claim7.holds Tryd.pinned (.plain (OpenSpec.upto softGathersSpec)) softGathersUptoCard

/-- THE SECOND FORM's CARD OF 'lodgelaw11.SoftRows'. -/
def softRowsUptoCard : Claim7 := { stood := { row := softRowsUptoRow, standIns := [], harness := (true, "5a2dab873ee067dae5ad67bca5cf3fa30b5b4c4451757270078628128f02db3a"), looks := true }, kinds := [], alts := [], laidByText := true, laidKinds := [.sentinel, .sentinel, .sentinel, .sentinel], laidTests := true, laidLooks := .later }
def SoftRowsUptoCardSaid : Prop := Claim7.holds Tryd.pinned (.plain (OpenSpec.upto softRowsSpec)) softRowsUptoCard

/-- THE SECOND FORM's CARD OF 'lodgelaw11.SoftNothing'. -/
def softNothingUptoCard : Claim7 := { stood := { row := softNothingUptoRow, standIns := [], harness := (true, "5a2dab873ee067dae5ad67bca5cf3fa30b5b4c4451757270078628128f02db3a"), looks := true }, kinds := [], alts := [], laidByText := true, laidKinds := [.sentinel, .sentinel, .sentinel, .sentinel], laidTests := true, laidLooks := .later }
def SoftNothingUptoCardSaid : Prop := Claim7.holds Tryd.pinned (.plain (OpenSpec.upto softNothingSpec)) softNothingUptoCard

/-- THE SECOND FORM's CARD OF 'lodgelaw12.OpNames'. -/
def opNamesUptoCard : Claim7 := { stood := { row := opNamesUptoRow, standIns := [], harness := (true, "5a2dab873ee067dae5ad67bca5cf3fa30b5b4c4451757270078628128f02db3a"), looks := true }, kinds := [], alts := [], laidByText := true, laidKinds := [.sentinel, .sentinel, .sentinel, .sentinel, .data], laidTests := true, laidLooks := .later }
def OpNamesUptoCardSaid : Prop := Claim7.holds Tryd.pinned (.plain (OpenSpec.upto opNamesSpec)) opNamesUptoCard

/-- THE SECOND FORM's CARD OF 'lodgelaw12.OpUnits'. -/
def opUnitsUptoCard : Claim7 := { stood := { row := opUnitsUptoRow, standIns := [], harness := (true, "5a2dab873ee067dae5ad67bca5cf3fa30b5b4c4451757270078628128f02db3a"), looks := true }, kinds := [], alts := [], laidByText := true, laidKinds := [.sentinel, .sentinel, .sentinel, .sentinel, .data], laidTests := true, laidLooks := .later }
def OpUnitsUptoCardSaid : Prop := Claim7.holds Tryd.pinned (.plain (OpenSpec.upto opUnitsSpec)) opUnitsUptoCard
end Rows
end Go.Proofs.YtcgjnjchkachdaaDoor
