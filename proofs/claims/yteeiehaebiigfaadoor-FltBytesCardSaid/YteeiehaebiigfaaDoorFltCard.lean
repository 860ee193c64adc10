/-
  What the cards of the laws over package flt share. By an AI agent. No person has read it.
-/
import Derived.Test.YteeiehaebiigfaaDoorCards
import Derived.Test.YteeiehaebiigfaaDoorTie
import Derived.Test.YteeiehaebiigfaaDoorFltT
import Derived.ProofKit
import Derived.OpenShut
import Derived.ChangeOld
import Derived.Deep.DeepHandedRow
import Derived.Lib.LaidTab
namespace Go.Proofs.YteeiehaebiigfaaDoor
open Go.ChangeShapes Go.WideShapes Go.ChangeAt Go.RowKit

theorem own : ownKnob Tryd.prog.godebug = none := by kernel_rfl
theorem laidOut : laidOutB Tryd.prog = true := by kernel_rfl
theorem gTab : Tryd.prog.globalNamed "math/bits.deBruijn64tab" = some 3 := by kernel_rfl
theorem gTabType : (Tryd.prog.globals[3]?).map (·.type) = some 84 := by kernel_rfl
theorem cells64 : Tryd.prog.cellsOf 84 = 64 := by kernel_rfl
theorem cells1 : Tryd.prog.cellsOf 5 = 1 := by kernel_rfl
theorem und64 : Tryd.prog.underlying 84 = some (.array 64 5) := by kernel_rfl
theorem und8 : Tryd.prog.underlying 5 = some (.int .u8) := by kernel_rfl
theorem uFloat : Tryd.prog.underlying 22 = some (.float .f64) := by kernel_rfl
theorem uInt : Tryd.prog.underlying 3 = some (.int .i64) := by kernel_rfl
theorem uInt64 : Tryd.prog.underlying 2 = some (.int .i64) := by kernel_rfl
theorem f64_lt {b : Nat} (h : (Lit.float .f64 b).wf = true) : b < 18446744073709551616 := by
  simpa [Lit.wf] using h
theorem i64_bounds {n : Int} (h : (Lit.int .i64 n).wf = true) : -9223372036854775808 ≤ n ∧ n ≤ 9223372036854775807 := by
  simp only [Lit.wf, Bool.and_eq_true, decide_eq_true_eq] at h
  have e1 : IntKind.i64.min = -9223372036854775808 := by decide
  have e2 : IntKind.i64.max = 9223372036854775807 := by decide
  omega

/-- What the table gives: block 3 holds it. -/
theorem tab_is {W : World} (h1 : Lib.TabIs Tryd.prog W "math/bits.deBruijn64tab" .u8 (Lib.deBruijn64tab.map fun n : Nat => (n : Int))) : Tz W := by
  unfold Lib.TabIs World.var? at h1
  rw [gTab] at h1
  simp only [Option.bind_some] at h1
  split at h1
  · rename_i cs t fr e
    injection h1 with h1
    refine ⟨t, fr, ?_, ?_⟩
    · rw [e, h1]
      simp [u8v, List.map_map, Function.comp_def]
    · rcases Nat.lt_or_ge 3 W.heap.size with h0 | h0
      · exact h0
      · rw [Array.getElem?_eq_none (by omega)] at e; cases e
  · cases h1
theorem tab_of {W : World} (h : laidMetH Tryd.prog [("math/bits.deBruijn64tab", Rows.laid_math_bits_deBruijn64tab)] W) : Tz W :=
  tab_is (Lib.tabIs_of_head (rest := []) gTab gTabType und64 und8 cells1 cells64 h)

/-- A world for the witness. -/
noncomputable def laidWorld (os : Os) : World :=
  { World.holding Tryd.prog os ⟨#[], #[], []⟩ with heap := (World.holding Tryd.prog os ⟨#[], #[], []⟩).heap.modify 3 fun
      | .cells _ t frozen => .cells (u8v Lib.deBruijn64tab).toArray t frozen
      | o => o }
end Go.Proofs.YteeiehaebiigfaaDoor
