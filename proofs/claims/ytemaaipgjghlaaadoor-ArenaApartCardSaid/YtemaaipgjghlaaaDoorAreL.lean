/-
  A cell of a row of one's own, written; a part's cells. By an AI agent. No person has read it.
-/
import Derived.Test.YtemaaipgjghlaaaDoorAreH
namespace Go.Proofs.YtemaaipgjghlaaaDoor
open Go.RowKit

theorem own_upd {w : World} {base n s g q : Nat} {e : TypeId} {v u : Value} {xs : List Value} (h : w.ownsRow base e s v n xs) (hv : v.ownBlock = some g) : (w.setCell ⟨g, q, none⟩ u).ownsRow base e s v n (xs.set q u) := by
  refine ⟨by rw [List.length_set]; exact h.1, ?_⟩
  rcases h.2 with ⟨rfl, h2⟩ | ⟨g', c, cur, rfl, h2, h3, h4, h5, h6, h7⟩
  · cases hv
  · obtain rfl : g' = g := by simpa [Value.ownBlock] using hv
    refine .inr ⟨g', c, cur.setIfInBounds q u, rfl, h2, ?_, h4, h5, ?_, ?_⟩
    · simp [World.setCell, Array.getElem?_modify, h3]
    · rw [Array.size_setIfInBounds]; exact h6
    · rw [Array.toList_setIfInBounds, List.take_set, h7]
theorem flat_set (l : List Hd) (i : Nat) (h : Hd) (A : Option Addr) (bs : List (Nat × Nat)) (c : Nat) (hi : l[i]? = some h) : (l.flatMap Hd.vals).set (i * 4 + 3) (.slice A bs.length c) = (l.set i ⟨h.id, h.off, h.size, A, bs, c⟩).flatMap Hd.vals := by
  induction l generalizing i with
  | nil => simp at hi
  | cons x l ih =>
    cases i with
    | zero =>
      simp at hi
      subst hi
      rfl
    | succ i =>
      rw [List.set_cons_succ, List.flatMap_cons, List.flatMap_cons, ← ih i (by simpa using hi)]
      rw [List.set_append_right _ _ (by show 4 ≤ _; omega)]
      congr 2
      show (i + 1) * 4 + 3 - 4 = _
      omega
end Go.Proofs.YtemaaipgjghlaaaDoor
