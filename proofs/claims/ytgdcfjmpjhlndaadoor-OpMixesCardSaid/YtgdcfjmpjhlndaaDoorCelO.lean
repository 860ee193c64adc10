/-
  Rows of the call's own: apart from other blocks, as slices, as numbers. By an AI agent. No person has read it.
-/
import Derived.Test.YtgdcfjmpjhlndaaDoorElmN
namespace Go.Proofs.YtgdcfjmpjhlndaaDoor
open Go.RowKit

theorem own_set {w : World} {base n s : Nat} {e : TypeId} {v : Value} {xs : List Value} (h : w.ownsRow base e s v n xs) {p : Addr} (hp : p.block < base) (x : Value) : (w.setCell p x).ownsRow base e s v n xs := by
  refine ⟨h.1, ?_⟩
  rcases h.2 with ⟨h1, h2⟩ | ⟨g, c, cur, h1, h2, h3, h4⟩
  · exact .inl ⟨h1, h2⟩
  · exact .inr ⟨g, c, cur, h1, h2, (Below.heap_setCell w p x g (by omega)).trans h3, h4⟩
theorem own_le {w : World} {base b n s : Nat} {e : TypeId} {v : Value} {xs : List Value} (h : w.ownsRow base e s v n xs) (hb : b ≤ base) : w.ownsRow b e s v n xs := by
  refine ⟨h.1, ?_⟩
  rcases h.2 with h1 | ⟨g, c, cur, h1, h2, h3⟩
  · exact .inl h1
  · exact .inr ⟨g, c, cur, h1, Nat.le_trans hb h2, h3⟩
theorem own_slice {w : World} {base n s : Nat} {e : TypeId} {v : Value} {xs : List Value} (h : w.ownsRow base e s v n xs) : ∃ P c, v = .slice P n c := by
  rcases h.2 with ⟨rfl, rfl⟩ | ⟨g, c, cur, rfl, -⟩
  · exact ⟨none, 0, rfl⟩
  · exact ⟨_, c, rfl⟩
theorem own_ri {w : World} {base n : Nat} {t : TypeId} {v : Value} {zs : List Int} (h : w.ownsRow base t 1 v n (i64s zs)) (hw : ∀ z ∈ zs, (Lit.int .i64 z).wf = true) : ∃ A c, v = .slice A n c ∧ Ri w A zs ∧ zs.length = n := by
  have hl : zs.length = n := by simpa using h.1
  rcases h.2 with ⟨rfl, rfl⟩ | ⟨g, c, cur, rfl, -, hh, -, -, -, h4⟩
  · obtain rfl : zs = [] := List.length_eq_zero_iff.1 hl
    exact ⟨none, 0, rfl, Ri.nil _ _, rfl⟩
  · refine ⟨_, c, rfl, ⟨hw, fun _ => ⟨_, rfl, ?_, fun i x hi => ?_⟩⟩, hl⟩
    · rcases Nat.lt_or_ge g w.heap.size with h | h
      · exact h
      · rw [Array.getElem?_eq_none h] at hh; cases hh
    · have hin : i < n := by rw [← hl]; exact (List.getElem?_eq_some_iff.1 hi).1
      rw [Addr.add_lit, cell_of_row w g (0 + i) cur _ (0, 0) hh, Nat.zero_add]
      have e : (cur.toList.take (n * 1))[i]? = (i64s zs)[i]? := by rw [h4]
      rw [List.getElem?_take, if_pos (by omega)] at e
      rw [← Array.getElem?_toList, e]
      simp [hi]
end Go.Proofs.YtgdcfjmpjhlndaaDoor
