/-
  Package op's look, Apply and Element, given what cells.All and cells.One answer, walked. By an AI agent. No person has read it.
-/
import Derived.Test.YtgdcfjmpjhlndaaGreatDoorZFOpD
namespace Go.Proofs.YtgdcfjmpjhlndaaGreatDoor
open Go.RowKit
/-- What is amiss with an operation of tensors. -/
def Op.fault (op : Int) (qs : List Int) (ts : List Ten) : Nat × Option Nat := Cel.fault ts (Op.look op qs (ts.map Ten.look)).1
theorem Elm.Err.fart2 {W : World} {ah am ar ak : Addr} {v : Value} {R : Nat × Option Nat} (h : Elm.Err W ah am ar ak v R) {b : Nat} {t : TypeId} {cs : List Value} (hb : Has W b t cs) (ht : t ≠ 113) (x y : Value) : Elm.Err ((W.setCell ⟨b, 0, none⟩ x).setCell ⟨b, 1, none⟩ y) ah am ar ak v R := by
  unfold Elm.Err at h ⊢
  split at h
  · rename_i hr
    rw [if_pos hr]
    exact h
  · rename_i hr
    rw [if_neg hr]
    exact TErr.fart2 h hb ht x y
theorem Elm.Err.fart3 {W : World} {ah am ar ak : Addr} {v : Value} {R : Nat × Option Nat} (h : Elm.Err W ah am ar ak v R) {b : Nat} {t : TypeId} {cs : List Value} (hb : Has W b t cs) (ht : t ≠ 113) (x y z : Value) : Elm.Err (((W.setCell ⟨b, 0, none⟩ x).setCell ⟨b, 1, none⟩ y).setCell ⟨b, 2, none⟩ z) ah am ar ak v R := by
  unfold Elm.Err at h ⊢
  split at h
  · rename_i hr
    rw [if_pos hr]
    exact h
  · rename_i hr
    rw [if_neg hr]
    exact TErr.fart3 h hb ht x y z
theorem Elm.Err.low {W W' : World} {ah am ar ak : Addr} {v : Value} {R : Nat × Option Nat} (h : Elm.Err W ah am ar ak v R) (hb : Below W.heap.size W W') : Elm.Err W' ah am ar ak v R := by
  unfold Elm.Err at h ⊢
  split at h
  · rename_i hr
    rw [if_pos hr]
    exact h
  · rename_i hr
    rw [if_neg hr]
    exact TErr.down h hb
theorem Ri.keep {w : World} {P : Option Addr} {zs : List Int} (h : Ri w P zs) {b : Nat} (hP : ∀ ad, P = some ad → ad.block ≠ b) (i : Nat) (x : Value) : Ri (w.setCell ⟨b, i, none⟩ x) P zs := by
  refine ⟨h.1, fun hz => ?_⟩
  obtain ⟨ad, h1, h2, h3⟩ := h.2 hz
  refine ⟨ad, h1, by simpa using h2, fun j z hj => ?_⟩
  rw [World.cell?_setCell_far _ _ _ _ (by rw [ad_block]; exact Ne.symm (hP ad h1))]
  exact h3 j z hj
theorem Elm.Err.errv {W : World} {ah am ar ak : Addr} {v : Value} {R : Nat × Option Nat} (h : Elm.Err W ah am ar ak v R) (hc : R = (0, none) ∨ R = (101, none) ∨ R = (102, none) ∨ R = (103, none) ∨ R = (104, none) ∨ ∃ i, R = (102, some i)) (hn : R ≠ (0, none)) : ErrV v := by
  unfold Elm.Err at h
  by_cases h3 : R = (103, none)
  · rw [if_pos h3] at h
    exact .inl ⟨_, h⟩
  · rw [if_neg h3] at h
    refine TErr.errv h ?_ hn
    rcases hc with h | h | h | h | h | h
    · exact .inl h
    · exact .inr (.inl h)
    · exact .inr (.inr (.inl h))
    · exact absurd h h3
    · exact .inr (.inr (.inr (.inl h)))
    · exact .inr (.inr (.inr (.inr h)))
end Go.Proofs.YtgdcfjmpjhlndaaGreatDoor
