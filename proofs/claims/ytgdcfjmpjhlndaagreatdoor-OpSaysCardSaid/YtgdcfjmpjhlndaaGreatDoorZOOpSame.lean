/-
  lodgesee.Same of what operations tell; the four errors out of the list of all. By an AI agent. No person has read it.
-/
import Derived.Test.YtgdcfjmpjhlndaaGreatDoorZORefI
import Derived.Test.YtgdcfjmpjhlndaaGreatDoorZOOpJ
namespace Go.Proofs.YtgdcfjmpjhlndaaGreatDoor
open Go.RowKit
theorem E4.ofz {w : World} {es : List Addr} (h : Ez w es) : ∃ ah am ar ak, es[0]? = some ah ∧ es[1]? = some ar ∧ es[2]? = some ak ∧ es[3]? = some am ∧ E4 w ah am ar ak := by
 obtain ⟨ah, hh⟩ : ∃ a, es[0]? = some a := ⟨_, List.getElem?_eq_getElem (by rw [h.1]; decide)⟩
 obtain ⟨ar, hr⟩ : ∃ a, es[1]? = some a := ⟨_, List.getElem?_eq_getElem (by rw [h.1]; decide)⟩
 obtain ⟨ak, hk⟩ : ∃ a, es[2]? = some a := ⟨_, List.getElem?_eq_getElem (by rw [h.1]; decide)⟩
 obtain ⟨am, hm⟩ : ∃ a, es[3]? = some a := ⟨_, List.getElem?_eq_getElem (by rw [h.1]; decide)⟩
 exact ⟨ah, am, ar, ak, hh, hr, hk, hm, ⟨h.2.2 0 _ ah rfl hh, h.2.2 3 _ am rfl hm, h.2.2 1 _ ar rfl hr⟩, h.2.2 2 _ ak rfl hk⟩
theorem same_op {es : List Addr} {ah am ar ak : Addr} (h0 : es[0]? = some ah) (h1 : es[1]? = some ar) (h2 : es[2]? = some ak) (h3 : es[3]? = some am) (v : Value) (R : Nat × Option Nat) (hc : R = (0, none) ∨ R = (101, none) ∨ R = (102, none) ∨ R = (103, none) ∨ R = (104, none) ∨ ∃ i, R = (102, some i)) (w : World) (h : Ez w es) (ht : Elm.Err w ah am ar ak v R) :
  Calls Tryz.prog 12 #[v, .agg (Tens.fval R)] w fun e w' => e = .returned (.bool true) ∧ Below w.heap.size w w' := by
 by_cases hk : R = (103, none)
 ·subst hk
  obtain rfl : v = errv ak := by
   unfold Elm.Err at ht
   rwa [if_pos rfl] at ht
  exact same_g (errv ak) 103 0 false w fun w' hb => fault_c es 2 ak h2 w' (h.below hb)
 ·unfold Elm.Err at ht
  rw [if_neg hk] at ht
  refine same_terr h0 h3 h1 v R ?_ w h ht
  rcases hc with h | h | h | h | h | h
  ·exact .inl h
  ·exact .inr (.inl h)
  ·exact .inr (.inr (.inl h))
  ·exact absurd h hk
  ·exact .inr (.inr (.inr (.inl h)))
  ·exact .inr (.inr (.inr (.inr h)))
end Go.Proofs.YtgdcfjmpjhlndaaGreatDoor
