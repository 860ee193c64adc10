/-
  A slice of slices of bytes that came in, as the walks ask for it. By an AI agent. No person has read it.
-/
import Derived.Test.YtijgomgiinlcoaaDoorShaCard
namespace Go.Proofs.YtijgomgiinlcoaaDoor
open Go.ChangeShapes Go.WideShapes Go.ChangeAt Go.RowKit

theorem u33 : Tryd.prog.underlying 33 = some (.slice 22) := by kernel_rfl
theorem one33 : Tryd.prog.cellsOf 22 = 1 := by kernel_rfl

theorem open_parts {H : Type} {enc : TypeId × Value → H} {W : World} {A : Option Addr} {len cap fuel : Nat} {x : DataW H × List MemPlace} {sp : Nat → Bool} {held : Bool} {base : Nat}
    (h : DataW.trod enc Tryd.prog W base sp held fuel 33 [.slice A len cap] = some x) :
    ∃ ps : List (List Nat), ps.length = len ∧ Parts W A ps ∧ len ≤ 9223372036854775807 := by
  have hlt := DataW.trod_lt _ _ _ _ h
  rcases DataW.trod_slice u33 h with ⟨hcs, _⟩ | ⟨a, l, c, elems, rest, n, _, hcs, hx, _, hl, hm, hlen, hel, _⟩
  · simp at hcs
    obtain ⟨rfl, rfl, rfl⟩ := hcs
    exact ⟨[], rfl, fun i p hp => by simp at hp, by omega⟩
  · simp at hcs
    obtain ⟨rfl, rfl, rfl⟩ := hcs
    have each : ∀ i, ∃ p : List Nat, i < len → ∃ A' cap', W.cell? (a.add i) = some (.slice A' p.length cap') ∧ p.length ≤ cap' ∧ cap' ≤ 9223372036854775807 ∧ Rb W A' p := by
      intro i
      by_cases hi : i < len
      · have h1 := hel i hi
        rw [one33, Nat.mul_one] at h1
        obtain ⟨y, hy⟩ : ∃ y, elems[i]? = some y := ⟨_, List.getElem?_eq_getElem (by omega)⟩
        rw [hy, Option.bind_eq_some_iff] at h1
        obtain ⟨cs', hcs, hy'⟩ := h1
        have h2 := hy'
        rcases DataW.trod_slice u22 hy' with ⟨rfl, _⟩ | ⟨a', l', c', _, _, _, _, rfl, _⟩
        · obtain ⟨bs, e1, e2, e3, e4⟩ := open_bytes h2
          exact ⟨bs, fun _ => ⟨none, 0, by rw [e1]; exact cell_of_cells?_one hcs, by omega, e4, e2⟩⟩
        · obtain ⟨bs, e1, e2, e3, e4⟩ := open_bytes h2
          exact ⟨bs, fun _ => ⟨some a', c', by rw [e1]; exact cell_of_cells?_one hcs, by omega, e4, e2⟩⟩
      · exact ⟨[], fun h => absurd h hi⟩
    obtain ⟨f, hf⟩ := Classical.axiomOfChoice each
    refine ⟨(List.range len).map f, by simp, fun i p hp => ?_, by unfold maxLen at hm; omega⟩
    rw [List.getElem?_map, Option.map_eq_some_iff] at hp
    obtain ⟨j, hj, rfl⟩ := hp
    obtain ⟨hi, rfl⟩ := List.getElem?_eq_some_iff.1 hj
    simp at hi
    rw [List.getElem_range] at *
    obtain ⟨A', cap', h1, h2, h3, h4⟩ := hf i hi
    refine ⟨a, A', cap', rfl, ?_, h1, h2, h3, h4⟩
    subst hx
    refine hlt (MemPlace.cell a.block (a.off + 0)) ?_
    rw [one33]
    exact List.mem_append_left _ (MemPlace.mem_row.2 ⟨0, by omega, rfl⟩)
end Go.Proofs.YtijgomgiinlcoaaDoor
