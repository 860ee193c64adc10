/-
  Boxes under what a range over a function does of its own. By an AI agent. No person has read it.
-/
import Derived.Test.YtemaaipgjghlaaaDoorShpR
namespace Go.Proofs.YtemaaipgjghlaaaDoor
open Go.RowKit Go.Shelf

theorem box_own {β : Type} (G : Nat) (t : TypeId) (f : β → Value) : Own (fun s W => Boxed W G t (f s)) := fun s W W' row hs hg hr => hs.kept hg fun e => by
  obtain ⟨o, ho, hc⟩ := hr G e.symm
  have hs' : W.heap[G]? = some (.cells #[f s] t (0, 0)) := hs
  rw [hs'] at ho
  cases ho
  cases hc
end Go.Proofs.YtemaaipgjghlaaaDoor
