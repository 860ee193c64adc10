/-
  Rows of floats of the call's own: one more, and how they read. By an AI agent. No person has read it.
-/
import Derived.Test.YtboighnmgnjhdaaDoorFltC
import Derived.Laws.AppendOwn
import Derived.Maps.AppendAt
import Derived.Laws.MakeOwn
import Derived.WalkKit
namespace Go.Proofs.YtboighnmgnjhdaaDoor
open Go.RowKit

abbrev qf64s (xs : List Nat) : List Value := xs.map fun n => Value.float .f64 n
theorem qund_row : Tryd.prog.underlying 22 = some (.slice 27) := by kernel_rfl
theorem qf64info : ∃ i : TypeInfo, Tryd.prog.info? 27 = some i ∧ i.zero = some (.float .f64 0) ∧ i.size = 1 ∧ i.bytes = 8 := by
  obtain ⟨i, hi⟩ : ∃ i, Tryd.prog.info? 27 = some i := by
    have h : (Tryd.prog.info? 27).isSome = true := by kernel_rfl
    exact Option.isSome_iff_exists.1 h
  have h1 : (Tryd.prog.info? 27).bind (·.zero) = some (.float .f64 0) := by kernel_rfl
  have h2 : (Tryd.prog.info? 27).map (·.size) = some 1 := by kernel_rfl
  have h3 : (Tryd.prog.info? 27).map (·.bytes) = some 8 := by kernel_rfl
  rw [hi] at h1 h2 h3
  exact ⟨i, hi, h1, Option.some.inj h2, Option.some.inj h3⟩
theorem qbelow_row {W wr w' : World} {o : Obj} {e : TypeId} {size n : Nat} {v : Value} {xs : List Value} (hB : Below W.heap.size W wr) (ho : wr.ownsRow W.heap.size e size v n xs) (hg : (wr.alloc o).grownBy w' v.ownBlock) : Below W.heap.size W w' :=
  (hB.alloc hB.size _).grown hg (by have := hB.size; simp; omega) (fun k hk => (ho.lt k hk).1)
theorem qnew_cells (w : World) (t : TypeId) (xs : List Value) : ∀ (j : Nat) (u : Value), xs[j]? = some u → (w.alloc (.cells xs.toArray t)).cell? ((⟨w.heap.size, 0, none⟩ : Addr).add j) = some u := by
  intro j u hj
  rw [Addr.add_lit, cell_of_row (w.alloc (.cells xs.toArray t)) w.heap.size (0 + j) xs.toArray t (0, 0) (heap_alloc_new w _), Nat.zero_add]
  simpa using hj
theorem qfl_own {w : World} {base n : Nat} {t : TypeId} {v : Value} {xs : List Nat} (h : w.ownsRow base t 1 v n (qf64s xs)) (hx : ∀ x ∈ xs, x < 18446744073709551616) : ∃ A c, v = .slice A n c ∧ Fl w A xs ∧ xs.length = n := by
  obtain ⟨h1, h2⟩ := h
  have hl : xs.length = n := by simpa [qf64s] using h1
  rcases h2 with ⟨rfl, rfl⟩ | ⟨g, c, cur, rfl, -, hh, -, -, -, h4⟩
  · have : xs = [] := List.length_eq_zero_iff.1 hl
    subst this
    exact ⟨none, 0, rfl, ⟨hx, fun i x hi => by simp at hi⟩, rfl⟩
  · refine ⟨_, c, rfl, ⟨hx, fun i x hi => ⟨_, rfl, ?_, ?_⟩⟩, hl⟩
    · rcases Nat.lt_or_ge g w.heap.size with h | h
      · exact h
      · rw [Array.getElem?_eq_none h] at hh; cases hh
    · have hin : i < n := by rw [← hl]; exact (List.getElem?_eq_some_iff.1 hi).1
      rw [Addr.add_lit, cell_of_row w g (0 + i) cur _ (0, 0) hh, Nat.zero_add]
      have e : (cur.toList.take (n * 1))[i]? = (qf64s xs)[i]? := by rw [h4]
      rw [List.getElem?_take, if_pos (by omega)] at e
      rw [← Array.getElem?_toList, e]
      simp [qf64s, hi]
/-- The row of one number. -/
theorem qown_one (w : World) (x base : Nat) (hb : base ≤ w.heap.size) : (w.alloc (.cells #[.float .f64 x] 27)).ownsRow base 27 1 (.slice (some ⟨w.heap.size, 0, none⟩) 1 1) 1 (qf64s [x]) :=
  ⟨rfl, .inr ⟨w.heap.size, 1, #[.float .f64 x], rfl, hb, heap_alloc_new w _, Nat.le_refl _, by decide, rfl, rfl⟩⟩
end Go.Proofs.YtboighnmgnjhdaaDoor
