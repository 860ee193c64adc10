/-
  DERIVED. GIVEN WITH THE SEED: THE CARDS: each row of YtboighnmgnjhdaaDoorRows.lean that lists a variable, with what it lists TIED to the program's text (the seventh form; the later family's looks); each row that meets fmt, with fmt's text TOLD by the authors' own Lean function (tested against real Go, not proved from fmt's source: count such statements apart). THE CARD IS WHAT COUNTS. Prove the row's statement (the work); the ties are given (YtboighnmgnjhdaaDoorTie.lean); close each card by the builder's one call (the guide's Derived/Test/ToyasCard.lean, 'card_holds'). Laid BY PROGRAM, IN A SANDBOX (cutbox-door.mjs). By AI agents, Wed Nov 11 2026. No macro, syntax, notation, axiom, sorry.
-/
import Derived.Test.YtboighnmgnjhdaaDoorRows
import GoSem.ClaimSeven
namespace Go.Proofs.YtboighnmgnjhdaaDoor
namespace Rows

/-- THE TIED CARD OF 'lodgelaw3.FltSorts'. -/
def fltSortsCard : Claim7 := { stood := { row := fltSortsRow, standIns := [], harness := (true, "ae7c1a275ef2c9552b6f0a4ad461198395a24a9316b4a1a01c9c5bfe96a4204f"), looks := true }, kinds := [], alts := [], laidByText := true, laidKinds := [.data], laidTests := true, laidLooks := .later }
def FltSortsCardSaid : Prop := Claim7.holds Tryd.pinned (.plain (OpenSpec.ofChange fltSortsSpec)) fltSortsCard

/-- THE TIED CARD OF 'lodgelaw4.QuantScales'. -/
def quantScalesCard : Claim7 := { stood := { row := quantScalesRow, standIns := [], harness := (true, "ae7c1a275ef2c9552b6f0a4ad461198395a24a9316b4a1a01c9c5bfe96a4204f"), looks := true }, kinds := [], alts := [], laidByText := true, laidKinds := [.sentinel, .sentinel, .sentinel, .sentinel, .sentinel, .sentinel, .sentinel, .sentinel, .sentinel, .sentinel, .sentinel, .sentinel, .sentinel, .sentinel, .sentinel, .sentinel, .sentinel, .sentinel, .sentinel, .sentinel, .sentinel], laidTests := true, laidLooks := .later }
def QuantScalesCardSaid : Prop := Claim7.holds Tryd.pinned (.plain (OpenSpec.ofChange quantScalesSpec)) quantScalesCard

/-- THE TIED CARD OF 'lodgelaw4.QuantFixed'. -/
def quantFixedCard : Claim7 := { stood := { row := quantFixedRow, standIns := [], harness := (true, "ae7c1a275ef2c9552b6f0a4ad461198395a24a9316b4a1a01c9c5bfe96a4204f"), looks := true }, kinds := [], alts := [], laidByText := true, laidKinds := [.sentinel, .sentinel, .sentinel, .sentinel, .sentinel, .sentinel, .sentinel, .sentinel, .sentinel, .sentinel, .sentinel, .sentinel, .sentinel, .sentinel, .sentinel, .sentinel, .sentinel, .sentinel, .sentinel, .sentinel, .sentinel], laidTests := true, laidLooks := .later }
def QuantFixedCardSaid : Prop := Claim7.holds Tryd.pinned (.plain (OpenSpec.ofChange quantFixedSpec)) quantFixedCard

/-- THE TIED CARD OF 'lodgelaw4.QuantFits'. -/
def quantFitsCard : Claim7 := { stood := { row := quantFitsRow, standIns := [], harness := (true, "ae7c1a275ef2c9552b6f0a4ad461198395a24a9316b4a1a01c9c5bfe96a4204f"), looks := true }, kinds := [], alts := [], laidByText := true, laidKinds := [.sentinel, .sentinel, .sentinel, .sentinel, .sentinel, .sentinel, .sentinel, .sentinel, .sentinel, .sentinel, .sentinel, .sentinel, .sentinel, .sentinel, .sentinel, .sentinel, .sentinel, .sentinel, .sentinel, .sentinel, .sentinel], laidTests := true, laidLooks := .later }
def QuantFitsCardSaid : Prop := Claim7.holds Tryd.pinned (.plain (OpenSpec.ofChange quantFitsSpec)) quantFitsCard

/-- THE TIED CARD OF 'lodgelaw4.QuantNears'. -/
def quantNearsCard : Claim7 := { stood := { row := quantNearsRow, standIns := [], harness := (true, "ae7c1a275ef2c9552b6f0a4ad461198395a24a9316b4a1a01c9c5bfe96a4204f"), looks := true }, kinds := [], alts := [], laidByText := true, laidKinds := [.sentinel], laidTests := true, laidLooks := .later }
def QuantNearsCardSaid : Prop := Claim7.holds Tryd.pinned (.plain (OpenSpec.ofChange quantNearsSpec)) quantNearsCard

/-- THE TIED CARD OF 'lodgelaw4.QuantShifts'. -/
def quantShiftsCard : Claim7 := { stood := { row := quantShiftsRow, standIns := [], harness := (true, "ae7c1a275ef2c9552b6f0a4ad461198395a24a9316b4a1a01c9c5bfe96a4204f"), looks := true }, kinds := [], alts := [], laidByText := true, laidKinds := [.sentinel], laidTests := true, laidLooks := .later }
def QuantShiftsCardSaid : Prop := Claim7.holds Tryd.pinned (.plain (OpenSpec.ofChange quantShiftsSpec)) quantShiftsCard

/-- THE TIED CARD OF 'lodgelaw4.QuantEdges'. -/
def quantEdgesCard : Claim7 := { stood := { row := quantEdgesRow, standIns := [], harness := (true, "ae7c1a275ef2c9552b6f0a4ad461198395a24a9316b4a1a01c9c5bfe96a4204f"), looks := true }, kinds := [], alts := [], laidByText := true, laidKinds := [.sentinel, .sentinel, .sentinel, .sentinel, .sentinel, .sentinel, .sentinel, .sentinel, .sentinel, .sentinel, .sentinel, .sentinel, .sentinel, .sentinel, .sentinel, .sentinel, .sentinel, .sentinel, .sentinel, .sentinel, .sentinel], laidTests := true, laidLooks := .later }
def QuantEdgesCardSaid : Prop := Claim7.holds Tryd.pinned (.plain (OpenSpec.ofChange quantEdgesSpec)) quantEdgesCard

/-- THE TIED CARD OF 'lodgelaw4.QuantTells'. -/
def quantTellsCard : Claim7 := { stood := { row := quantTellsRow, standIns := [], harness := (true, "ae7c1a275ef2c9552b6f0a4ad461198395a24a9316b4a1a01c9c5bfe96a4204f"), looks := true }, kinds := [], alts := [], laidByText := true, laidKinds := [.sentinel], laidTests := true, laidLooks := .later }
def QuantTellsCardSaid : Prop := Claim7.holds Tryd.pinned (.plain (OpenSpec.ofChange quantTellsSpec)) quantTellsCard

/-- THE TIED CARD OF 'lodgelaw4.QuantSpans'. -/
def quantSpansCard : Claim7 := { stood := { row := quantSpansRow, standIns := [], harness := (true, "ae7c1a275ef2c9552b6f0a4ad461198395a24a9316b4a1a01c9c5bfe96a4204f"), looks := true }, kinds := [], alts := [], laidByText := true, laidKinds := [.sentinel, .sentinel, .sentinel, .sentinel, .sentinel, .sentinel, .sentinel, .sentinel, .sentinel, .sentinel, .sentinel, .sentinel, .sentinel, .sentinel, .sentinel, .sentinel, .sentinel, .sentinel, .sentinel, .sentinel, .sentinel], laidTests := true, laidLooks := .later }
def QuantSpansCardSaid : Prop := Claim7.holds Tryd.pinned (.plain (OpenSpec.ofChange quantSpansSpec)) quantSpansCard

/-- THE SECOND FORM's CARD OF 'lodgelaw3.FltSorts'. -/
def fltSortsUptoCard : Claim7 := { stood := { row := fltSortsUptoRow, standIns := [], harness := (true, "ae7c1a275ef2c9552b6f0a4ad461198395a24a9316b4a1a01c9c5bfe96a4204f"), looks := true }, kinds := [], alts := [], laidByText := true, laidKinds := [.data], laidTests := true, laidLooks := .later }
def FltSortsUptoCardSaid : Prop := Claim7.holds Tryd.pinned (.plain (OpenSpec.upto fltSortsSpec)) fltSortsUptoCard

/-- THE SECOND FORM's CARD OF 'lodgelaw4.QuantScales'. -/
def quantScalesUptoCard : Claim7 := { stood := { row := quantScalesUptoRow, standIns := [], harness := (true, "ae7c1a275ef2c9552b6f0a4ad461198395a24a9316b4a1a01c9c5bfe96a4204f"), looks := true }, kinds := [], alts := [], laidByText := true, laidKinds := [.sentinel, .sentinel, .sentinel, .sentinel, .sentinel, .sentinel, .sentinel, .sentinel, .sentinel, .sentinel, .sentinel, .sentinel, .sentinel, .sentinel, .sentinel, .sentinel, .sentinel, .sentinel, .sentinel, .sentinel, .sentinel], laidTests := true, laidLooks := .later }
def QuantScalesUptoCardSaid : Prop := Claim7.holds Tryd.pinned (.plain (OpenSpec.upto quantScalesSpec)) quantScalesUptoCard

/-- THE SECOND FORM's CARD OF 'lodgelaw4.QuantFixed'. -/
def quantFixedUptoCard : Claim7 := { stood := { row := quantFixedUptoRow, standIns := [], harness := (true, "ae7c1a275ef2c9552b6f0a4ad461198395a24a9316b4a1a01c9c5bfe96a4204f"), looks := true }, kinds := [], alts := [], laidByText := true, laidKinds := [.sentinel, .sentinel, .sentinel, .sentinel, .sentinel, .sentinel, .sentinel, .sentinel, .sentinel, .sentinel, .sentinel, .sentinel, .sentinel, .sentinel, .sentinel, .sentinel, .sentinel, .sentinel, .sentinel, .sentinel, .sentinel], laidTests := true, laidLooks := .later }
def QuantFixedUptoCardSaid : Prop := Claim7.holds Tryd.pinned (.plain (OpenSpec.upto quantFixedSpec)) quantFixedUptoCard

/-- THE SECOND FORM's CARD OF 'lodgelaw4.QuantFits'. -/
def quantFitsUptoCard : Claim7 := { stood := { row := quantFitsUptoRow, standIns := [], harness := (true, "ae7c1a275ef2c9552b6f0a4ad461198395a24a9316b4a1a01c9c5bfe96a4204f"), looks := true }, kinds := [], alts := [], laidByText := true, laidKinds := [.sentinel, .sentinel, .sentinel, .sentinel, .sentinel, .sentinel, .sentinel, .sentinel, .sentinel, .sentinel, .sentinel, .sentinel, .sentinel, .sentinel, .sentinel, .sentinel, .sentinel, .sentinel, .sentinel, .sentinel, .sentinel], laidTests := true, laidLooks := .later }
def QuantFitsUptoCardSaid : Prop := Claim7.holds Tryd.pinned (.plain (OpenSpec.upto quantFitsSpec)) quantFitsUptoCard

/-- THE SECOND FORM's CARD OF 'lodgelaw4.QuantNears'. -/
def quantNearsUptoCard : Claim7 := { stood := { row := quantNearsUptoRow, standIns := [], harness := (true, "ae7c1a275ef2c9552b6f0a4ad461198395a24a9316b4a1a01c9c5bfe96a4204f"), looks := true }, kinds := [], alts := [], laidByText := true, laidKinds := [.sentinel], laidTests := true, laidLooks := .later }
def QuantNearsUptoCardSaid : Prop := Claim7.holds Tryd.pinned (.plain (OpenSpec.upto quantNearsSpec)) quantNearsUptoCard

/-- THE SECOND FORM's CARD OF 'lodgelaw4.QuantShifts'. -/
def quantShiftsUptoCard : Claim7 := { stood := { row := quantShiftsUptoRow, standIns := [], harness := (true, "ae7c1a275ef2c9552b6f0a4ad461198395a24a9316b4a1a01c9c5bfe96a4204f"), looks := true }, kinds := [], alts := [], laidByText := true, laidKinds := [.sentinel], laidTests := true, laidLooks := .later }
def QuantShiftsUptoCardSaid : Prop := Claim7.holds Tryd.pinned (.plain (OpenSpec.upto quantShiftsSpec)) quantShiftsUptoCard

/-- THE SECOND FORM's CARD OF 'lodgelaw4.QuantEdges'. -/
def quantEdgesUptoCard : Claim7 := { stood := { row := quantEdgesUptoRow, standIns := [], harness := (true, "ae7c1a275ef2c9552b6f0a4ad461198395a24a9316b4a1a01c9c5bfe96a4204f"), looks := true }, kinds := [], alts := [], laidByText := true, laidKinds := [.sentinel, .sentinel, .sentinel, .sentinel, .sentinel, .sentinel, .sentinel, .sentinel, .sentinel, .sentinel, .sentinel, .sentinel, .sentinel, .sentinel, .sentinel, .sentinel, .sentinel, .sentinel, .sentinel, .sentinel, .sentinel], laidTests := true, laidLooks := .later }
def QuantEdgesUptoCardSaid : Prop := Claim7.holds Tryd.pinned (.plain (OpenSpec.upto quantEdgesSpec)) quantEdgesUptoCard

/-- THE SECOND FORM's CARD OF 'lodgelaw4.QuantTells'. -/
def quantTellsUptoCard : Claim7 := { stood := { row := quantTellsUptoRow, standIns := [], harness := (true, "ae7c1a275ef2c9552b6f0a4ad461198395a24a9316b4a1a01c9c5bfe96a4204f"), looks := true }, kinds := [], alts := [], laidByText := true, laidKinds := [.sentinel], laidTests := true, laidLooks := .later }
def QuantTellsUptoCardSaid : Prop := Claim7.holds Tryd.pinned (.plain (OpenSpec.upto quantTellsSpec)) quantTellsUptoCard

/-- THE SECOND FORM's CARD OF 'lodgelaw4.QuantSpans'. -/
def quantSpansUptoCard : Claim7 := { stood := { row := quantSpansUptoRow, standIns := [], harness := (true, "ae7c1a275ef2c9552b6f0a4ad461198395a24a9316b4a1a01c9c5bfe96a4204f"), looks := true }, kinds := [], alts := [], laidByText := true, laidKinds := [.sentinel, .sentinel, .sentinel, .sentinel, .sentinel, .sentinel, .sentinel, .sentinel, .sentinel, .sentinel, .sentinel, .sentinel, .sentinel, .sentinel, .sentinel, .sentinel, .sentinel, .sentinel, .sentinel, .sentinel, .sentinel], laidTests := true, laidLooks := .later }
def QuantSpansUptoCardSaid : Prop := Claim7.holds Tryd.pinned (.plain (OpenSpec.upto quantSpansSpec)) quantSpansUptoCard
end Rows
end Go.Proofs.YtboighnmgnjhdaaDoor
