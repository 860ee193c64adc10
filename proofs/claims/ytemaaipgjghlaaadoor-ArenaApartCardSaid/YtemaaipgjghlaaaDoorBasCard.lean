/-
  What the cards of a seat share. By an AI agent. No person has read it.
-/
import Derived.Test.YtemaaipgjghlaaaDoorCards
import Derived.Test.YtemaaipgjghlaaaDoorTie
import Derived.Test.YtemaaipgjghlaaaDoorBasD
import Derived.Test.YtemaaipgjghlaaaDoorErrA
import Derived.ProofKit
import Derived.OpenShut
import Derived.ChangeOld
import Derived.Deep.DeepHandedRow
import Derived.Lay
import Derived.Deep.DeepWitnessRowRef
namespace Go.Proofs.YtemaaipgjghlaaaDoor
open Go.ChangeShapes Go.WideShapes Go.ChangeAt Go.RowKit

theorem own : ownKnob Tryd.prog.godebug = none := by kernel_rfl
theorem laidOut : laidOutB Tryd.prog = true := by kernel_rfl
theorem uInt : Tryd.prog.underlying 3 = some (.int .i64) := by kernel_rfl
theorem uNums : Tryd.prog.underlying 33 = some (.slice 3) := uis
theorem uBytes : Tryd.prog.underlying 35 = some (.slice 5) := ubs
/-- A slice of numbers that came in, as the walks ask for it. -/
theorem open_nums {H : Type} {enc : TypeId × Value → H} {W : World} {A : Option Addr} {len cap fuel : Nat} {x : DataW H × List MemPlace} {sp : Nat → Bool} {held : Bool} {base : Nat}
    (h : DataW.trod enc Tryd.prog W base sp held fuel 33 [.slice A len cap] = some x) :
    ∃ zs : List Int, zs.length = len ∧ Ri W A zs ∧ len ≤ cap ∧ cap ≤ 9223372036854775807 := by
  have hlt := DataW.trod_lt _ _ _ _ h
  rcases open_ints uNums uInt (by kernel_rfl) h with ⟨hcs, _⟩ | ⟨a, l, c, zs, hcs, _, hl, hm, hz, hx, hcell, hwz⟩
  · simp at hcs
    obtain ⟨rfl, rfl, rfl⟩ := hcs
    exact ⟨[], rfl, Ri.nil W none, by omega, by omega⟩
  · simp at hcs
    obtain ⟨rfl, rfl, rfl⟩ := hcs
    have hzl : len ≤ zs.length := by rw [hz]; split <;> omega
    refine ⟨zs.take len, by simp; omega, ⟨fun z hb => hwz z (List.mem_of_mem_take hb), fun hn => ⟨a, rfl, ?_, fun i z hi => ?_⟩⟩, hl, by unfold maxLen at hm; omega⟩
    · subst hx
      have hpos : 0 < zs.length := by
        rcases Nat.eq_zero_or_pos zs.length with h0 | h0
        · exact absurd (by rw [List.length_eq_zero_iff.1 h0]; simp) hn
        · exact h0
      exact hlt (MemPlace.cell a.block (a.off + 0)) (MemPlace.mem_row.2 ⟨0, hpos, rfl⟩)
    · rw [List.getElem?_take] at hi
      split at hi
      · have h1 := (List.getElem?_eq_some_iff.1 hi).1
        rw [hcell i h1, List.getD_eq_getElem?_getD, hi, Option.getD_some]
      · cases hi
/-- What the errors' list gives. -/
theorem errs_laid {W : World} (h : laidMetH Tryd.prog laidErrs W) : ∃ es, Ez W es := ez_of (show laidMet Tryd.prog laidErrs W from h)
end Go.Proofs.YtemaaipgjghlaaaDoor
