/-
  What the cards of a seat share. By an AI agent. No person has read it.
-/
import Derived.Test.YthjnkaikjjjceaaDoorPaBasD
import Derived.Test.YthjnkaikjjjceaaDoorPaErrA
import Derived.Test.YthjnkaikjjjceaaDoorCards
import Derived.Test.YthjnkaikjjjceaaDoorTie
import Derived.ProofKit
import Derived.OpenShut
import Derived.ChangeOld
import Derived.Deep.DeepHandedRow
import Derived.Lay
import Derived.Deep.DeepWitnessRowRef
import Derived.StillTailTactics
import Derived.LoopN
import Derived.WalkLawsBesides
import Derived.Laws.Alloc2
import Derived.Laws.Build
import Derived.Laws.Rows
import Derived.Laws.Tables
import Derived.Laws.CopyOwn
namespace Go.Proofs.YthjnkaikjjjceaaDoor
open Go.ChangeShapes Go.WideShapes Go.ChangeAt Go.RowKit
theorem own : ownKnob Tryd.prog.godebug = none := by kernel_rfl
theorem laidOut : laidOutB Tryd.prog = true := by kernel_rfl
theorem uBytes : Tryd.prog.underlying 30 = some (.slice 5) := ubs
end Go.Proofs.YthjnkaikjjjceaaDoor
namespace Go.Proofs.YthjnkaikjjjceaaDoor
open Go.RowKit
theorem comp_perrs : ∃ i j : TypeInfo, Tryd.prog.info? 154 = some i ∧ i.comparable = true ∧ Tryd.prog.info? 170 = some j ∧ j.size ≠ 0 := by
  obtain ⟨i, hi⟩ : ∃ i, Tryd.prog.info? 154 = some i := by
    refine Option.isSome_iff_exists.1 ?_
    kernel_rfl
  obtain ⟨j, hj⟩ : ∃ j, Tryd.prog.info? 170 = some j := by
    refine Option.isSome_iff_exists.1 ?_
    kernel_rfl
  have h1 : (Tryd.prog.info? 154).map (·.comparable) = some true := by kernel_rfl
  have h2 : (Tryd.prog.info? 170).map (·.size) = some 1 := by kernel_rfl
  rw [hi] at h1
  rw [hj] at h2
  refine ⟨i, j, hi, by simpa using h1, hj, ?_⟩
  have h3 : j.size = 1 := by simpa using h2
  rw [h3]
  decide
theorem run_eql_errs {w : World} {a b : Addr} (ha : ∃ c t, w.heap[a.block]? = some (.cells c t (0, 0))) (hb : ∃ c t, w.heap[b.block]? = some (.cells c t (0, 0))) :
    (binOp .eql 32 (errv a) (errv b)).run Tryd.prog w = .ok (.bool (decide (a = b))) w := by
  obtain ⟨i, j, hi, hc, hj, hs⟩ := comp_perrs
  by_cases h : a = b
  · subst h
    rw [decide_eq_true rfl]
    exact run_eql_iface_ptr_same w a und_err und_perrs hi hc hj
  · rw [decide_eq_false h]
    obtain ⟨ca, ta, ha⟩ := ha
    obtain ⟨cb, tb, hb⟩ := hb
    exact run_eql_iface_ptr_other w und_err und_perrs hi hc hj hs h ha hb
end Go.Proofs.YthjnkaikjjjceaaDoor
namespace Go.Proofs.YthjnkaikjjjceaaDoor
open Go.RowKit
theorem run_notat (a : Addr) (w : World) : (Instr.typeAssert (errv a) 32 119 true).run Tryd.prog w = .ok (.tuple #[.pointer none, .bool false]) w := by kernel_rfl
end Go.Proofs.YthjnkaikjjjceaaDoor
