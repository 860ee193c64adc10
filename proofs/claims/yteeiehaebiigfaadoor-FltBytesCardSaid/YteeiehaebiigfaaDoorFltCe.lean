/-
  What a list of the table and the errors gives. By an AI agent. No person has read it.
-/
import Derived.Test.YteeiehaebiigfaaDoorFltIn
import Derived.Test.YteeiehaebiigfaaDoorFltBytes
import Derived.Lay
import Derived.Deep.DeepWitnessRowRef
namespace Go.Proofs.YteeiehaebiigfaaDoor
open Go.ChangeShapes Go.WideShapes Go.ChangeAt Go.RowKit

theorem uBytes : Tryd.prog.underlying 41 = some (.slice 5) := ubs
theorem tab_errs {W : World} (h : laidMetH Tryd.prog (("math/bits.deBruijn64tab", Rows.laid_math_bits_deBruijn64tab) :: laidErrs) W) : Tz W ∧ ∃ es, Ez W es := by
  have h : laidMet Tryd.prog (("math/bits.deBruijn64tab", Rows.laid_math_bits_deBruijn64tab) :: laidErrs) W := h
  refine ⟨tab_is (Lib.tabIs_of_head (rest := laidErrs) gTab gTabType und64 und8 cells1 cells64 h), ?_⟩
  exact ez_of h.tail
end Go.Proofs.YteeiehaebiigfaaDoor
