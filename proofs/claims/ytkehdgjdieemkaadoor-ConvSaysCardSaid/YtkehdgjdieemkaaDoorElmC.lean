/-
  What the answer of an operation of two looks like. By an AI agent. No person has read it.
-/
import Derived.Test.YtkehdgjdieemkaaDoorElmB
import Derived.Test.YtkehdgjdieemkaaDoorShpCl
import Derived.Deep.RegionLaw
namespace Go.Proofs.YtkehdgjdieemkaaDoor
open Go.RowKit

/-- What lies from the beginning of a block on. -/
def Elm.Lies (w : World) (k : Nat) (xs : List Value) : Prop := k < w.heap.size ∧ ∀ (j : Nat) (x : Value), xs[j]? = some x → w.cell? ⟨k, j, none⟩ = some x
theorem Elm.Lies.below {w w' : World} {k : Nat} {xs : List Value} (h : Elm.Lies w k xs) (hb : Below w.heap.size w w') : Elm.Lies w' k xs :=
  ⟨Nat.lt_of_lt_of_le h.1 hb.size, fun j x hx => (hb.cell h.1).trans (h.2 j x hx)⟩
theorem Elm.lies_own {w : World} {base n s : Nat} {e : TypeId} {v : Value} {xs : List Value} (h : w.ownsRow base e s v n xs) (hn : n ≠ 0) : ∃ k c, v = .slice (some ⟨k, 0, none⟩) n c ∧ base ≤ k ∧ Elm.Lies w k xs := by
  rcases h.2 with ⟨-, h2⟩ | ⟨g, c, cur, rfl, h2, h3, -, -, -, h4⟩
  · exact absurd h2 hn
  · refine ⟨g, c, rfl, h2, (Array.getElem?_eq_some_iff.1 h3).1, fun j x hx => ?_⟩
    have hj := (List.getElem?_eq_some_iff.1 hx).1
    rw [← h4, List.getElem?_take] at hx
    split at hx
    · have : w.cell? ⟨g, j, none⟩ = cur[j]? := by simp [World.cell?, h3]
      rw [this, ← hx, Array.getElem?_toList]
    · cases hx
end Go.Proofs.YtkehdgjdieemkaaDoor
