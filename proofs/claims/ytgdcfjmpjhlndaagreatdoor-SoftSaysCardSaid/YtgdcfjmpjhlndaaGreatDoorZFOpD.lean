/-
  What an element of an operation's answer costs; package op's Unit, walked. By an AI agent. No person has read it.
-/
import Derived.Test.YtgdcfjmpjhlndaaGreatDoorZFOpC
namespace Go.Proofs.YtgdcfjmpjhlndaaGreatDoor
open Go.RowKit
theorem Ri.take {w : World} {A : Option Addr} {l : List Int} (h : Ri w A l) (n : Nat) : Ri w A (l.take n) := by
  refine ⟨fun z hz => h.1 z (List.mem_of_mem_take hz), fun hn => ?_⟩
  obtain ⟨ad, h1, h2, h3⟩ := h.2 (fun e => hn (by rw [e]; simp))
  exact ⟨ad, h1, h2, fun i z hi => h3 i z (by
    rw [List.getElem?_take] at hi
    split at hi
    · exact hi
    · cases hi)⟩
end Go.Proofs.YtgdcfjmpjhlndaaGreatDoor
