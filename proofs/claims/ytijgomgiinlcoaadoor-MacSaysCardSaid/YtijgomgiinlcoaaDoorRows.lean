/-
  NARROWER THAN 'FOR EVERY INPUT', by the rows' own cells (each row's printed sentence says how): ShaSays: laid · ShaWrites: laid · ShaLengths: laid · ShaParts: laid · ShaTurns: laid · MacSays: laid · MacSame: laid · MacKeys: laid · MacParts: laid.
  DERIVED. THE GIVEN ROWS OF THIS SEAT. 9 by the template 'for every input the law returns true; each argument reads behind the call as it read before'; 0 by the template 'total and deterministic' (their statements: YtijgomgiinlcoaaDoorTotals.lean).
  GIVEN WITH THE SEED: the statements are not yours to turn. If you find one false, say at which input.
  Laid BY PROGRAM, IN A SANDBOX (cutbox-rows.mjs): the forced cells as the released guide's own fill.sh prints them over the translation ceaa43cd53a81e1d… (all of the seat's roots in one cut). By AI agents, Wed Nov 11 2026. No macro, syntax, notation, axiom, sorry.
-/
import Derived.Test.YtijgomgiinlcoaaDoorChecked
import GoSem.Claim
import GoSem.ClaimJoined
import GoSem.ClaimMapViews
import Derived.JoinedTies
import Derived.KernelRfl
namespace Go.Proofs.YtijgomgiinlcoaaDoor
/- THE CELL 'sum', in the pinned program and in every row, IS THE sha256 OF THE DUMP (.gsa) THAT YtijgomgiinlcoaaDoorProg.lean LOADS. Nothing in Lean hashes anything: it is a label: what it is worth is what the hold of that sum in a sandbox is worth. -/
noncomputable def Tryd.pinned : Pinned := { name := "ytijgomgiinlcoaadoor", sum := "ceaa43cd53a81e1d1b1a50f81d92c27f91f593c5bf0acf45eddc724d9e572016", checked := Tryd.checked }
namespace Rows
def none {H : Type} : Left H := { results := [], args := [] }

/- WHAT THE LISTED PACKAGE-LEVEL VARIABLES READ AS WHEN THE CALL BEGINS. Each datum BY PROGRAM (the guide's laid-datum.mjs) off the statement by which the dump's own 'gosem.cut.vars' lays the variable. In a bare row this is a premise. The card (YtijgomgiinlcoaaDoorCards.lean) ties it to the program's text. -/
def laid_lodge_sha_rounds {H : Type} : DataW H := .agg [.lit (.int .u32 1116352408), .lit (.int .u32 1899447441), .lit (.int .u32 3049323471), .lit (.int .u32 3921009573), .lit (.int .u32 961987163), .lit (.int .u32 1508970993), .lit (.int .u32 2453635748), .lit (.int .u32 2870763221), .lit (.int .u32 3624381080), .lit (.int .u32 310598401), .lit (.int .u32 607225278), .lit (.int .u32 1426881987), .lit (.int .u32 1925078388), .lit (.int .u32 2162078206), .lit (.int .u32 2614888103), .lit (.int .u32 3248222580), .lit (.int .u32 3835390401), .lit (.int .u32 4022224774), .lit (.int .u32 264347078), .lit (.int .u32 604807628), .lit (.int .u32 770255983), .lit (.int .u32 1249150122), .lit (.int .u32 1555081692), .lit (.int .u32 1996064986), .lit (.int .u32 2554220882), .lit (.int .u32 2821834349), .lit (.int .u32 2952996808), .lit (.int .u32 3210313671), .lit (.int .u32 3336571891), .lit (.int .u32 3584528711), .lit (.int .u32 113926993), .lit (.int .u32 338241895), .lit (.int .u32 666307205), .lit (.int .u32 773529912), .lit (.int .u32 1294757372), .lit (.int .u32 1396182291), .lit (.int .u32 1695183700), .lit (.int .u32 1986661051), .lit (.int .u32 2177026350), .lit (.int .u32 2456956037), .lit (.int .u32 2730485921), .lit (.int .u32 2820302411), .lit (.int .u32 3259730800), .lit (.int .u32 3345764771), .lit (.int .u32 3516065817), .lit (.int .u32 3600352804), .lit (.int .u32 4094571909), .lit (.int .u32 275423344), .lit (.int .u32 430227734), .lit (.int .u32 506948616), .lit (.int .u32 659060556), .lit (.int .u32 883997877), .lit (.int .u32 958139571), .lit (.int .u32 1322822218), .lit (.int .u32 1537002063), .lit (.int .u32 1747873779), .lit (.int .u32 1955562222), .lit (.int .u32 2024104815), .lit (.int .u32 2227730452), .lit (.int .u32 2361852424), .lit (.int .u32 2428436474), .lit (.int .u32 2756734187), .lit (.int .u32 3204031479), .lit (.int .u32 3329325298)]

/-- 'lodgelaw1.ShaSays': WHATEVER THE INPUT: true; the input reads as it did. -/
def shaSaysSpec : ChangeSpec := { name := "shaSays", fn := fun _ => fun
  | [d1, d2] => { results := [.lit (.bool true)], args := [d1, d2] }
  | _ => none }
def shaSaysRow : OpenClaim := { program := "ytijgomgiinlcoaadoor", sum := "ceaa43cd53a81e1d1b1a50f81d92c27f91f593c5bf0acf45eddc724d9e572016", func := "lodge/lodgelaw1.ShaSays", spec := "shaSays", named := ["lodge/sha.rounds"], apart := false, laid := [("lodge/sha.rounds", laid_lodge_sha_rounds)] }
def ShaSaysSaid : Prop := shaSaysRow.holds Tryd.pinned (OpenSpec.ofChange shaSaysSpec)

/-- ITS FALSE NEIGHBOUR: 'it returns false'. Refute it at one input. -/
def shaSaysWrong : ChangeSpec := { name := "shaSays", fn := fun _ => fun
  | [d1, d2] => { results := [.lit (.bool false)], args := [d1, d2] }
  | _ => none }
def ShaSaysWrongFalsely : Prop := shaSaysRow.holds Tryd.pinned (OpenSpec.ofChange shaSaysWrong)

/-- 'lodgelaw1.ShaWrites': WHATEVER THE INPUT: true; the input reads as it did. -/
def shaWritesSpec : ChangeSpec := { name := "shaWrites", fn := fun _ => fun
  | [d1, d2] => { results := [.lit (.bool true)], args := [d1, d2] }
  | _ => none }
def shaWritesRow : OpenClaim := { program := "ytijgomgiinlcoaadoor", sum := "ceaa43cd53a81e1d1b1a50f81d92c27f91f593c5bf0acf45eddc724d9e572016", func := "lodge/lodgelaw1.ShaWrites", spec := "shaWrites", named := ["lodge/sha.rounds"], apart := false, laid := [("lodge/sha.rounds", laid_lodge_sha_rounds)] }
def ShaWritesSaid : Prop := shaWritesRow.holds Tryd.pinned (OpenSpec.ofChange shaWritesSpec)

/-- ITS FALSE NEIGHBOUR: 'it returns false'. Refute it at one input. -/
def shaWritesWrong : ChangeSpec := { name := "shaWrites", fn := fun _ => fun
  | [d1, d2] => { results := [.lit (.bool false)], args := [d1, d2] }
  | _ => none }
def ShaWritesWrongFalsely : Prop := shaWritesRow.holds Tryd.pinned (OpenSpec.ofChange shaWritesWrong)

/-- 'lodgelaw1.ShaLengths': WHATEVER THE INPUT: true; the input reads as it did. -/
def shaLengthsSpec : ChangeSpec := { name := "shaLengths", fn := fun _ => fun
  | [d1, d2] => { results := [.lit (.bool true)], args := [d1, d2] }
  | _ => none }
def shaLengthsRow : OpenClaim := { program := "ytijgomgiinlcoaadoor", sum := "ceaa43cd53a81e1d1b1a50f81d92c27f91f593c5bf0acf45eddc724d9e572016", func := "lodge/lodgelaw1.ShaLengths", spec := "shaLengths", named := ["lodge/sha.rounds"], apart := false, laid := [("lodge/sha.rounds", laid_lodge_sha_rounds)] }
def ShaLengthsSaid : Prop := shaLengthsRow.holds Tryd.pinned (OpenSpec.ofChange shaLengthsSpec)

/-- ITS FALSE NEIGHBOUR: 'it returns false'. Refute it at one input. -/
def shaLengthsWrong : ChangeSpec := { name := "shaLengths", fn := fun _ => fun
  | [d1, d2] => { results := [.lit (.bool false)], args := [d1, d2] }
  | _ => none }
def ShaLengthsWrongFalsely : Prop := shaLengthsRow.holds Tryd.pinned (OpenSpec.ofChange shaLengthsWrong)

/-- 'lodgelaw1.ShaParts': WHATEVER THE INPUT: true; the input reads as it did. -/
def shaPartsSpec : ChangeSpec := { name := "shaParts", fn := fun _ => fun
  | [d1, d2] => { results := [.lit (.bool true)], args := [d1, d2] }
  | _ => none }
def shaPartsRow : OpenClaim := { program := "ytijgomgiinlcoaadoor", sum := "ceaa43cd53a81e1d1b1a50f81d92c27f91f593c5bf0acf45eddc724d9e572016", func := "lodge/lodgelaw1.ShaParts", spec := "shaParts", named := ["lodge/sha.rounds"], apart := false, laid := [("lodge/sha.rounds", laid_lodge_sha_rounds)] }
def ShaPartsSaid : Prop := shaPartsRow.holds Tryd.pinned (OpenSpec.ofChange shaPartsSpec)

/-- ITS FALSE NEIGHBOUR: 'it returns false'. Refute it at one input. -/
def shaPartsWrong : ChangeSpec := { name := "shaParts", fn := fun _ => fun
  | [d1, d2] => { results := [.lit (.bool false)], args := [d1, d2] }
  | _ => none }
def ShaPartsWrongFalsely : Prop := shaPartsRow.holds Tryd.pinned (OpenSpec.ofChange shaPartsWrong)

/-- 'lodgelaw1.ShaTurns': WHATEVER THE INPUT: true; the input reads as it did. -/
def shaTurnsSpec : ChangeSpec := { name := "shaTurns", fn := fun _ => fun
  | [d1, d2] => { results := [.lit (.bool true)], args := [d1, d2] }
  | _ => none }
def shaTurnsRow : OpenClaim := { program := "ytijgomgiinlcoaadoor", sum := "ceaa43cd53a81e1d1b1a50f81d92c27f91f593c5bf0acf45eddc724d9e572016", func := "lodge/lodgelaw1.ShaTurns", spec := "shaTurns", named := ["lodge/sha.rounds"], apart := false, laid := [("lodge/sha.rounds", laid_lodge_sha_rounds)] }
def ShaTurnsSaid : Prop := shaTurnsRow.holds Tryd.pinned (OpenSpec.ofChange shaTurnsSpec)

/-- ITS FALSE NEIGHBOUR: 'it returns false'. Refute it at one input. -/
def shaTurnsWrong : ChangeSpec := { name := "shaTurns", fn := fun _ => fun
  | [d1, d2] => { results := [.lit (.bool false)], args := [d1, d2] }
  | _ => none }
def ShaTurnsWrongFalsely : Prop := shaTurnsRow.holds Tryd.pinned (OpenSpec.ofChange shaTurnsWrong)

/-- 'lodgelaw2.MacSays': WHATEVER THE INPUT: true; the input reads as it did. -/
def macSaysSpec : ChangeSpec := { name := "macSays", fn := fun _ => fun
  | [d1, d2, d3] => { results := [.lit (.bool true)], args := [d1, d2, d3] }
  | _ => none }
def macSaysRow : OpenClaim := { program := "ytijgomgiinlcoaadoor", sum := "ceaa43cd53a81e1d1b1a50f81d92c27f91f593c5bf0acf45eddc724d9e572016", func := "lodge/lodgelaw2.MacSays", spec := "macSays", named := ["lodge/sha.rounds"], apart := false, laid := [("lodge/sha.rounds", laid_lodge_sha_rounds)] }
def MacSaysSaid : Prop := macSaysRow.holds Tryd.pinned (OpenSpec.ofChange macSaysSpec)

/-- ITS FALSE NEIGHBOUR: 'it returns false'. Refute it at one input. -/
def macSaysWrong : ChangeSpec := { name := "macSays", fn := fun _ => fun
  | [d1, d2, d3] => { results := [.lit (.bool false)], args := [d1, d2, d3] }
  | _ => none }
def MacSaysWrongFalsely : Prop := macSaysRow.holds Tryd.pinned (OpenSpec.ofChange macSaysWrong)

/-- 'lodgelaw2.MacSame': WHATEVER THE INPUT: true; the input reads as it did. -/
def macSameSpec : ChangeSpec := { name := "macSame", fn := fun _ => fun
  | [d1, d2, d3] => { results := [.lit (.bool true)], args := [d1, d2, d3] }
  | _ => none }
def macSameRow : OpenClaim := { program := "ytijgomgiinlcoaadoor", sum := "ceaa43cd53a81e1d1b1a50f81d92c27f91f593c5bf0acf45eddc724d9e572016", func := "lodge/lodgelaw2.MacSame", spec := "macSame", named := ["lodge/sha.rounds"], apart := false, laid := [("lodge/sha.rounds", laid_lodge_sha_rounds)] }
def MacSameSaid : Prop := macSameRow.holds Tryd.pinned (OpenSpec.ofChange macSameSpec)

/-- ITS FALSE NEIGHBOUR: 'it returns false'. Refute it at one input. -/
def macSameWrong : ChangeSpec := { name := "macSame", fn := fun _ => fun
  | [d1, d2, d3] => { results := [.lit (.bool false)], args := [d1, d2, d3] }
  | _ => none }
def MacSameWrongFalsely : Prop := macSameRow.holds Tryd.pinned (OpenSpec.ofChange macSameWrong)

/-- 'lodgelaw2.MacKeys': WHATEVER THE INPUT: true; the input reads as it did. -/
def macKeysSpec : ChangeSpec := { name := "macKeys", fn := fun _ => fun
  | [d1, d2, d3] => { results := [.lit (.bool true)], args := [d1, d2, d3] }
  | _ => none }
def macKeysRow : OpenClaim := { program := "ytijgomgiinlcoaadoor", sum := "ceaa43cd53a81e1d1b1a50f81d92c27f91f593c5bf0acf45eddc724d9e572016", func := "lodge/lodgelaw2.MacKeys", spec := "macKeys", named := ["lodge/sha.rounds"], apart := false, laid := [("lodge/sha.rounds", laid_lodge_sha_rounds)] }
def MacKeysSaid : Prop := macKeysRow.holds Tryd.pinned (OpenSpec.ofChange macKeysSpec)

/-- ITS FALSE NEIGHBOUR: 'it returns false'. Refute it at one input. -/
def macKeysWrong : ChangeSpec := { name := "macKeys", fn := fun _ => fun
  | [d1, d2, d3] => { results := [.lit (.bool false)], args := [d1, d2, d3] }
  | _ => none }
def MacKeysWrongFalsely : Prop := macKeysRow.holds Tryd.pinned (OpenSpec.ofChange macKeysWrong)

/-- 'lodgelaw2.MacParts': WHATEVER THE INPUT: true; the input reads as it did. -/
def macPartsSpec : ChangeSpec := { name := "macParts", fn := fun _ => fun
  | [d1, d2, d3] => { results := [.lit (.bool true)], args := [d1, d2, d3] }
  | _ => none }
def macPartsRow : OpenClaim := { program := "ytijgomgiinlcoaadoor", sum := "ceaa43cd53a81e1d1b1a50f81d92c27f91f593c5bf0acf45eddc724d9e572016", func := "lodge/lodgelaw2.MacParts", spec := "macParts", named := ["lodge/sha.rounds"], apart := false, laid := [("lodge/sha.rounds", laid_lodge_sha_rounds)] }
def MacPartsSaid : Prop := macPartsRow.holds Tryd.pinned (OpenSpec.ofChange macPartsSpec)

/-- ITS FALSE NEIGHBOUR: 'it returns false'. Refute it at one input. -/
def macPartsWrong : ChangeSpec := { name := "macParts", fn := fun _ => fun
  | [d1, d2, d3] => { results := [.lit (.bool false)], args := [d1, d2, d3] }
  | _ => none }
def MacPartsWrongFalsely : Prop := macPartsRow.holds Tryd.pinned (OpenSpec.ofChange macPartsWrong)

/- THE SECOND FORM. 'bulk': how many values and letters a reading holds, each counted each time it is reached (what is shared counts as often as it is met; a slice's spare places count too). A statement '..UptoSaid' is the law's where the arguments, and the package variables that the reading takes, are together of bulk at most 1048576: NARROWER than '..Said'. Prove '..Said' where nothing that the law and all that it calls make is longer than what came in: it says more and counts as full. Else prove '..UptoSaid'. A law counts once. -/
mutual
def uptoBulk {H : Type} : DataW H → Nat
  | .lit (.string bytes) => bytes.length + 1
  | .lit _ => 1
  | .nil => 1
  | .ptr d => uptoBulk d + 1
  | .slice elems spare => uptoBulkAll elems + uptoBulkAll spare + 1
  | .agg parts => uptoBulkAll parts + 1
  | .iface _ d => uptoBulk d + 1
  | .map entries => uptoBulkEntries entries + 1
  | .held _ => 1
def uptoBulkAll {H : Type} : List (DataW H) → Nat
  | [] => 0
  | d :: r => uptoBulk d + uptoBulkAll r
def uptoBulkEntries {H : Type} : List (Lit × DataW H) → Nat
  | [] => 0
  | x :: r => uptoBulkEntry x + uptoBulkEntries r
def uptoBulkEntry {H : Type} : Lit × DataW H → Nat
  | (.string bytes, d) => bytes.length + uptoBulk d + 1
  | (_, d) => uptoBulk d + 1
 end
def uptoSmall : (H : Type) → List (DataW H) → Bool := fun _ ds => decide (uptoBulkAll ds ≤ 1048576)
def OpenSpec.upto (s : _root_.Go.ChangeSpec) : _root_.Go.OpenSpec := { _root_.Go.OpenSpec.ofChange s with cond := some uptoSmall }

/-- 'lodgelaw1.ShaSays', WHERE WHAT IT READS IS OF BULK AT MOST 1048576: true; the input reads as it did. -/
def shaSaysUptoRow : OpenClaim := { program := "ytijgomgiinlcoaadoor", sum := "ceaa43cd53a81e1d1b1a50f81d92c27f91f593c5bf0acf45eddc724d9e572016", func := "lodge/lodgelaw1.ShaSays", spec := "shaSays", named := ["lodge/sha.rounds"], apart := false, laid := [("lodge/sha.rounds", laid_lodge_sha_rounds)], narrowed := true }
def ShaSaysUptoSaid : Prop := shaSaysUptoRow.holds Tryd.pinned (OpenSpec.upto shaSaysSpec)

/-- 'lodgelaw1.ShaWrites', WHERE WHAT IT READS IS OF BULK AT MOST 1048576: true; the input reads as it did. -/
def shaWritesUptoRow : OpenClaim := { program := "ytijgomgiinlcoaadoor", sum := "ceaa43cd53a81e1d1b1a50f81d92c27f91f593c5bf0acf45eddc724d9e572016", func := "lodge/lodgelaw1.ShaWrites", spec := "shaWrites", named := ["lodge/sha.rounds"], apart := false, laid := [("lodge/sha.rounds", laid_lodge_sha_rounds)], narrowed := true }
def ShaWritesUptoSaid : Prop := shaWritesUptoRow.holds Tryd.pinned (OpenSpec.upto shaWritesSpec)

/-- 'lodgelaw1.ShaLengths', WHERE WHAT IT READS IS OF BULK AT MOST 1048576: true; the input reads as it did. -/
def shaLengthsUptoRow : OpenClaim := { program := "ytijgomgiinlcoaadoor", sum := "ceaa43cd53a81e1d1b1a50f81d92c27f91f593c5bf0acf45eddc724d9e572016", func := "lodge/lodgelaw1.ShaLengths", spec := "shaLengths", named := ["lodge/sha.rounds"], apart := false, laid := [("lodge/sha.rounds", laid_lodge_sha_rounds)], narrowed := true }
def ShaLengthsUptoSaid : Prop := shaLengthsUptoRow.holds Tryd.pinned (OpenSpec.upto shaLengthsSpec)

/-- 'lodgelaw1.ShaParts', WHERE WHAT IT READS IS OF BULK AT MOST 1048576: true; the input reads as it did. -/
def shaPartsUptoRow : OpenClaim := { program := "ytijgomgiinlcoaadoor", sum := "ceaa43cd53a81e1d1b1a50f81d92c27f91f593c5bf0acf45eddc724d9e572016", func := "lodge/lodgelaw1.ShaParts", spec := "shaParts", named := ["lodge/sha.rounds"], apart := false, laid := [("lodge/sha.rounds", laid_lodge_sha_rounds)], narrowed := true }
def ShaPartsUptoSaid : Prop := shaPartsUptoRow.holds Tryd.pinned (OpenSpec.upto shaPartsSpec)

/-- 'lodgelaw1.ShaTurns', WHERE WHAT IT READS IS OF BULK AT MOST 1048576: true; the input reads as it did. -/
def shaTurnsUptoRow : OpenClaim := { program := "ytijgomgiinlcoaadoor", sum := "ceaa43cd53a81e1d1b1a50f81d92c27f91f593c5bf0acf45eddc724d9e572016", func := "lodge/lodgelaw1.ShaTurns", spec := "shaTurns", named := ["lodge/sha.rounds"], apart := false, laid := [("lodge/sha.rounds", laid_lodge_sha_rounds)], narrowed := true }
def ShaTurnsUptoSaid : Prop := shaTurnsUptoRow.holds Tryd.pinned (OpenSpec.upto shaTurnsSpec)

/-- 'lodgelaw2.MacSays', WHERE WHAT IT READS IS OF BULK AT MOST 1048576: true; the input reads as it did. -/
def macSaysUptoRow : OpenClaim := { program := "ytijgomgiinlcoaadoor", sum := "ceaa43cd53a81e1d1b1a50f81d92c27f91f593c5bf0acf45eddc724d9e572016", func := "lodge/lodgelaw2.MacSays", spec := "macSays", named := ["lodge/sha.rounds"], apart := false, laid := [("lodge/sha.rounds", laid_lodge_sha_rounds)], narrowed := true }
def MacSaysUptoSaid : Prop := macSaysUptoRow.holds Tryd.pinned (OpenSpec.upto macSaysSpec)

/-- 'lodgelaw2.MacSame', WHERE WHAT IT READS IS OF BULK AT MOST 1048576: true; the input reads as it did. -/
def macSameUptoRow : OpenClaim := { program := "ytijgomgiinlcoaadoor", sum := "ceaa43cd53a81e1d1b1a50f81d92c27f91f593c5bf0acf45eddc724d9e572016", func := "lodge/lodgelaw2.MacSame", spec := "macSame", named := ["lodge/sha.rounds"], apart := false, laid := [("lodge/sha.rounds", laid_lodge_sha_rounds)], narrowed := true }
def MacSameUptoSaid : Prop := macSameUptoRow.holds Tryd.pinned (OpenSpec.upto macSameSpec)

/-- 'lodgelaw2.MacKeys', WHERE WHAT IT READS IS OF BULK AT MOST 1048576: true; the input reads as it did. -/
def macKeysUptoRow : OpenClaim := { program := "ytijgomgiinlcoaadoor", sum := "ceaa43cd53a81e1d1b1a50f81d92c27f91f593c5bf0acf45eddc724d9e572016", func := "lodge/lodgelaw2.MacKeys", spec := "macKeys", named := ["lodge/sha.rounds"], apart := false, laid := [("lodge/sha.rounds", laid_lodge_sha_rounds)], narrowed := true }
def MacKeysUptoSaid : Prop := macKeysUptoRow.holds Tryd.pinned (OpenSpec.upto macKeysSpec)

/-- 'lodgelaw2.MacParts', WHERE WHAT IT READS IS OF BULK AT MOST 1048576: true; the input reads as it did. -/
def macPartsUptoRow : OpenClaim := { program := "ytijgomgiinlcoaadoor", sum := "ceaa43cd53a81e1d1b1a50f81d92c27f91f593c5bf0acf45eddc724d9e572016", func := "lodge/lodgelaw2.MacParts", spec := "macParts", named := ["lodge/sha.rounds"], apart := false, laid := [("lodge/sha.rounds", laid_lodge_sha_rounds)], narrowed := true }
def MacPartsUptoSaid : Prop := macPartsUptoRow.holds Tryd.pinned (OpenSpec.upto macPartsSpec)

end Rows
end Go.Proofs.YtijgomgiinlcoaaDoor
