/-
  Rows of floats of the call's own. By an AI agent. No person has read it.
-/
import Derived.Test.YteeiehaebiigfaaDoorFltCl
import Derived.Test.YteeiehaebiigfaaDoorFltMo
namespace Go.Proofs.YteeiehaebiigfaaDoor
open Go.RowKit

theorem below_row {W wr w' : World} {o : Obj} {e : TypeId} {size n : Nat} {v : Value} {xs : List Value} (hB : Below W.heap.size W wr) (ho : wr.ownsRow W.heap.size e size v n xs) (hg : (wr.alloc o).grownBy w' v.ownBlock) : Below W.heap.size W w' :=
  (hB.alloc hB.size o).grown hg (by simp; have := hB.size; omega) fun k hk => (ho.lt k hk).1
theorem new_cells (w : World) (t : TypeId) (xs : List Value) : ∀ (j : Nat) (u : Value), xs[j]? = some u → (w.alloc (.cells xs.toArray t)).cell? ((⟨w.heap.size, 0, none⟩ : Addr).add j) = some u := by
  intro j u hj
  rw [Addr.add_lit, cell_of_row _ w.heap.size (0 + j) _ t (0, 0) (heap_alloc_new w _), Nat.zero_add]
  simpa using hj
/-- Such a row, as the walks ask for it. -/
theorem fl_own {w : World} {base n : Nat} {t : TypeId} {v : Value} {xs : List Nat} (h : w.ownsRow base t 1 v n (f64s xs)) (hx : ∀ x ∈ xs, x < 18446744073709551616) : ∃ A c, v = .slice A n c ∧ Fl w A xs ∧ xs.length = n := by
  obtain ⟨h1, h2⟩ := h
  have hl : xs.length = n := by simpa [f64s] using h1
  rcases h2 with ⟨rfl, rfl⟩ | ⟨g, c, cur, rfl, -, hh, -, -, -, h4⟩
  · have : xs = [] := List.length_eq_zero_iff.1 hl
    subst this
    exact ⟨none, 0, rfl, ⟨hx, fun i x hi => by simp at hi⟩, rfl⟩
  · refine ⟨_, c, rfl, ⟨hx, fun i x hi => ⟨_, rfl, ?_, ?_⟩⟩, hl⟩
    · rcases Nat.lt_or_ge g w.heap.size with h | h
      · exact h
      · rw [Array.getElem?_eq_none h] at hh; cases hh
    · have hin : i < n := by rw [← hl]; exact (List.getElem?_eq_some_iff.1 hi).1
      rw [Addr.add_lit, cell_of_row w g (0 + i) cur _ (0, 0) hh, Nat.zero_add]
      have e : (cur.toList.take (n * 1))[i]? = (f64s xs)[i]? := by rw [h4]
      rw [List.getElem?_take, if_pos (by omega)] at e
      rw [← Array.getElem?_toList, e]
      simp [f64s, hi]
end Go.Proofs.YteeiehaebiigfaaDoor
