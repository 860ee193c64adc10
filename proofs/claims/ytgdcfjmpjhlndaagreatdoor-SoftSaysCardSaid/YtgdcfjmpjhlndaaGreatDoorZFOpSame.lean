/-
  lodgesee.Same of what operations tell; the four errors out of the list of all. By an AI agent. No person has read it.
-/
import Derived.Test.YtgdcfjmpjhlndaaGreatDoorZFRefI
import Derived.Test.YtgdcfjmpjhlndaaGreatDoorZFOpJ
namespace Go.Proofs.YtgdcfjmpjhlndaaGreatDoor
open Go.RowKit
theorem E4.ofz {w : World} {es : List Addr} (h : Ez w es) : ∃ ah am ar ak, es[0]? = some ah ∧ es[1]? = some ar ∧ es[2]? = some ak ∧ es[3]? = some am ∧ E4 w ah am ar ak := by
  obtain ⟨ah, hh⟩ : ∃ a, es[0]? = some a := ⟨_, List.getElem?_eq_getElem (by rw [h.1]; decide)⟩
  obtain ⟨ar, hr⟩ : ∃ a, es[1]? = some a := ⟨_, List.getElem?_eq_getElem (by rw [h.1]; decide)⟩
  obtain ⟨ak, hk⟩ : ∃ a, es[2]? = some a := ⟨_, List.getElem?_eq_getElem (by rw [h.1]; decide)⟩
  obtain ⟨am, hm⟩ : ∃ a, es[3]? = some a := ⟨_, List.getElem?_eq_getElem (by rw [h.1]; decide)⟩
  exact ⟨ah, am, ar, ak, hh, hr, hk, hm, ⟨h.2.2 0 _ ah rfl hh, h.2.2 3 _ am rfl hm, h.2.2 1 _ ar rfl hr⟩, h.2.2 2 _ ak rfl hk⟩
end Go.Proofs.YtgdcfjmpjhlndaaGreatDoor
