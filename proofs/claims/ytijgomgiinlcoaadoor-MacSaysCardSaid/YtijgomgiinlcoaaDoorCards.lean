/-
  DERIVED. GIVEN WITH THE SEED: THE CARDS: each row of YtijgomgiinlcoaaDoorRows.lean that lists a variable, with what it lists TIED to the program's text (the seventh form; the later family's looks); each row that meets fmt, with fmt's text TOLD by the authors' own Lean function (tested against real Go, not proved from fmt's source: count such statements apart). THE CARD IS WHAT COUNTS. Prove the row's statement (the work); the ties are given (YtijgomgiinlcoaaDoorTie.lean); close each card by the builder's one call (the guide's Derived/Test/ToyasCard.lean, 'card_holds'). Laid BY PROGRAM, IN A SANDBOX (cutbox-door.mjs). By AI agents, Wed Nov 11 2026. No macro, syntax, notation, axiom, sorry.
-/
import Derived.Test.YtijgomgiinlcoaaDoorRows
import GoSem.ClaimSeven
namespace Go.Proofs.YtijgomgiinlcoaaDoor
namespace Rows

/-- THE TIED CARD OF 'lodgelaw1.ShaSays'. -/
def shaSaysCard : Claim7 := { stood := { row := shaSaysRow, standIns := [], harness := (true, "e0179266433f28b1d8fb55f619ba5e7a77fe96d2b423ea77da34932390ce9ff2"), looks := false }, kinds := [], alts := [], laidByText := true, laidKinds := [.data], laidTests := true, laidLooks := .later }
def ShaSaysCardSaid : Prop := Claim7.holds Tryd.pinned (.plain (OpenSpec.ofChange shaSaysSpec)) shaSaysCard

/-- THE TIED CARD OF 'lodgelaw1.ShaWrites'. -/
def shaWritesCard : Claim7 := { stood := { row := shaWritesRow, standIns := [], harness := (true, "e0179266433f28b1d8fb55f619ba5e7a77fe96d2b423ea77da34932390ce9ff2"), looks := false }, kinds := [], alts := [], laidByText := true, laidKinds := [.data], laidTests := true, laidLooks := .later }
def ShaWritesCardSaid : Prop := Claim7.holds Tryd.pinned (.plain (OpenSpec.ofChange shaWritesSpec)) shaWritesCard

/-- THE TIED CARD OF 'lodgelaw1.ShaLengths'. -/
def shaLengthsCard : Claim7 := { stood := { row := shaLengthsRow, standIns := [], harness := (true, "e0179266433f28b1d8fb55f619ba5e7a77fe96d2b423ea77da34932390ce9ff2"), looks := false }, kinds := [], alts := [], laidByText := true, laidKinds := [.data], laidTests := true, laidLooks := .later }
def ShaLengthsCardSaid : Prop := Claim7.holds Tryd.pinned (.plain (OpenSpec.ofChange shaLengthsSpec)) shaLengthsCard

/-- THE TIED CARD OF 'lodgelaw1.ShaParts'. -/
def shaPartsCard : Claim7 := { stood := { row := shaPartsRow, standIns := [], harness := (true, "e0179266433f28b1d8fb55f619ba5e7a77fe96d2b423ea77da34932390ce9ff2"), looks := false }, kinds := [], alts := [], laidByText := true, laidKinds := [.data], laidTests := true, laidLooks := .later }
def ShaPartsCardSaid : Prop := Claim7.holds Tryd.pinned (.plain (OpenSpec.ofChange shaPartsSpec)) shaPartsCard

/-- THE TIED CARD OF 'lodgelaw1.ShaTurns'. -/
def shaTurnsCard : Claim7 := { stood := { row := shaTurnsRow, standIns := [], harness := (true, "e0179266433f28b1d8fb55f619ba5e7a77fe96d2b423ea77da34932390ce9ff2"), looks := false }, kinds := [], alts := [], laidByText := true, laidKinds := [.data], laidTests := true, laidLooks := .later }
def ShaTurnsCardSaid : Prop := Claim7.holds Tryd.pinned (.plain (OpenSpec.ofChange shaTurnsSpec)) shaTurnsCard

/-- THE TIED CARD OF 'lodgelaw2.MacSays'. -/
def macSaysCard : Claim7 := { stood := { row := macSaysRow, standIns := [], harness := (true, "e0179266433f28b1d8fb55f619ba5e7a77fe96d2b423ea77da34932390ce9ff2"), looks := false }, kinds := [], alts := [], laidByText := true, laidKinds := [.data], laidTests := true, laidLooks := .later }
def MacSaysCardSaid : Prop := Claim7.holds Tryd.pinned (.plain (OpenSpec.ofChange macSaysSpec)) macSaysCard

/-- THE TIED CARD OF 'lodgelaw2.MacSame'. -/
def macSameCard : Claim7 := { stood := { row := macSameRow, standIns := [], harness := (true, "e0179266433f28b1d8fb55f619ba5e7a77fe96d2b423ea77da34932390ce9ff2"), looks := false }, kinds := [], alts := [], laidByText := true, laidKinds := [.data], laidTests := true, laidLooks := .later }
def MacSameCardSaid : Prop := Claim7.holds Tryd.pinned (.plain (OpenSpec.ofChange macSameSpec)) macSameCard

/-- THE TIED CARD OF 'lodgelaw2.MacKeys'. -/
def macKeysCard : Claim7 := { stood := { row := macKeysRow, standIns := [], harness := (true, "e0179266433f28b1d8fb55f619ba5e7a77fe96d2b423ea77da34932390ce9ff2"), looks := false }, kinds := [], alts := [], laidByText := true, laidKinds := [.data], laidTests := true, laidLooks := .later }
def MacKeysCardSaid : Prop := Claim7.holds Tryd.pinned (.plain (OpenSpec.ofChange macKeysSpec)) macKeysCard

/-- THE TIED CARD OF 'lodgelaw2.MacParts'. -/
def macPartsCard : Claim7 := { stood := { row := macPartsRow, standIns := [], harness := (true, "e0179266433f28b1d8fb55f619ba5e7a77fe96d2b423ea77da34932390ce9ff2"), looks := false }, kinds := [], alts := [], laidByText := true, laidKinds := [.data], laidTests := true, laidLooks := .later }
def MacPartsCardSaid : Prop := Claim7.holds Tryd.pinned (.plain (OpenSpec.ofChange macPartsSpec)) macPartsCard

/-- THE SECOND FORM's CARD OF 'lodgelaw1.ShaSays'. -/
def shaSaysUptoCard : Claim7 := { stood := { row := shaSaysUptoRow, standIns := [], harness := (true, "e0179266433f28b1d8fb55f619ba5e7a77fe96d2b423ea77da34932390ce9ff2"), looks := false }, kinds := [], alts := [], laidByText := true, laidKinds := [.data], laidTests := true, laidLooks := .later }
def ShaSaysUptoCardSaid : Prop := Claim7.holds Tryd.pinned (.plain (OpenSpec.upto shaSaysSpec)) shaSaysUptoCard

/-- THE SECOND FORM's CARD OF 'lodgelaw1.ShaWrites'. -/
def shaWritesUptoCard : Claim7 := { stood := { row := shaWritesUptoRow, standIns := [], harness := (true, "e0179266433f28b1d8fb55f619ba5e7a77fe96d2b423ea77da34932390ce9ff2"), looks := false }, kinds := [], alts := [], laidByText := true, laidKinds := [.data], laidTests := true, laidLooks := .later }
def ShaWritesUptoCardSaid : Prop := Claim7.holds Tryd.pinned (.plain (OpenSpec.upto shaWritesSpec)) shaWritesUptoCard

/-- THE SECOND FORM's CARD OF 'lodgelaw1.ShaLengths'. -/
def shaLengthsUptoCard : Claim7 := { stood := { row := shaLengthsUptoRow, standIns := [], harness := (true, "e0179266433f28b1d8fb55f619ba5e7a77fe96d2b423ea77da34932390ce9ff2"), looks := false }, kinds := [], alts := [], laidByText := true, laidKinds := [.data], laidTests := true, laidLooks := .later }
def ShaLengthsUptoCardSaid : Prop := Claim7.holds Tryd.pinned (.plain (OpenSpec.upto shaLengthsSpec)) shaLengthsUptoCard

/-- THE SECOND FORM's CARD OF 'lodgelaw1.ShaParts'. -/
def shaPartsUptoCard : Claim7 := { stood := { row := shaPartsUptoRow, standIns := [], harness := (true, "e0179266433f28b1d8fb55f619ba5e7a77fe96d2b423ea77da34932390ce9ff2"), looks := false }, kinds := [], alts := [], laidByText := true, laidKinds := [.data], laidTests := true, laidLooks := .later }
def ShaPartsUptoCardSaid : Prop := Claim7.holds Tryd.pinned (.plain (OpenSpec.upto shaPartsSpec)) shaPartsUptoCard

/-- THE SECOND FORM's CARD OF 'lodgelaw1.ShaTurns'. -/
def shaTurnsUptoCard : Claim7 := { stood := { row := shaTurnsUptoRow, standIns := [], harness := (true, "e0179266433f28b1d8fb55f619ba5e7a77fe96d2b423ea77da34932390ce9ff2"), looks := false }, kinds := [], alts := [], laidByText := true, laidKinds := [.data], laidTests := true, laidLooks := .later }
def ShaTurnsUptoCardSaid : Prop := Claim7.holds Tryd.pinned (.plain (OpenSpec.upto shaTurnsSpec)) shaTurnsUptoCard

/-- THE SECOND FORM's CARD OF 'lodgelaw2.MacSays'. -/
def macSaysUptoCard : Claim7 := { stood := { row := macSaysUptoRow, standIns := [], harness := (true, "e0179266433f28b1d8fb55f619ba5e7a77fe96d2b423ea77da34932390ce9ff2"), looks := false }, kinds := [], alts := [], laidByText := true, laidKinds := [.data], laidTests := true, laidLooks := .later }
def MacSaysUptoCardSaid : Prop := Claim7.holds Tryd.pinned (.plain (OpenSpec.upto macSaysSpec)) macSaysUptoCard

/-- THE SECOND FORM's CARD OF 'lodgelaw2.MacSame'. -/
def macSameUptoCard : Claim7 := { stood := { row := macSameUptoRow, standIns := [], harness := (true, "e0179266433f28b1d8fb55f619ba5e7a77fe96d2b423ea77da34932390ce9ff2"), looks := false }, kinds := [], alts := [], laidByText := true, laidKinds := [.data], laidTests := true, laidLooks := .later }
def MacSameUptoCardSaid : Prop := Claim7.holds Tryd.pinned (.plain (OpenSpec.upto macSameSpec)) macSameUptoCard

/-- THE SECOND FORM's CARD OF 'lodgelaw2.MacKeys'. -/
def macKeysUptoCard : Claim7 := { stood := { row := macKeysUptoRow, standIns := [], harness := (true, "e0179266433f28b1d8fb55f619ba5e7a77fe96d2b423ea77da34932390ce9ff2"), looks := false }, kinds := [], alts := [], laidByText := true, laidKinds := [.data], laidTests := true, laidLooks := .later }
def MacKeysUptoCardSaid : Prop := Claim7.holds Tryd.pinned (.plain (OpenSpec.upto macKeysSpec)) macKeysUptoCard

/-- THE SECOND FORM's CARD OF 'lodgelaw2.MacParts'. -/
def macPartsUptoCard : Claim7 := { stood := { row := macPartsUptoRow, standIns := [], harness := (true, "e0179266433f28b1d8fb55f619ba5e7a77fe96d2b423ea77da34932390ce9ff2"), looks := false }, kinds := [], alts := [], laidByText := true, laidKinds := [.data], laidTests := true, laidLooks := .later }
def MacPartsUptoCardSaid : Prop := Claim7.holds Tryd.pinned (.plain (OpenSpec.upto macPartsSpec)) macPartsUptoCard
end Rows
end Go.Proofs.YtijgomgiinlcoaaDoor
