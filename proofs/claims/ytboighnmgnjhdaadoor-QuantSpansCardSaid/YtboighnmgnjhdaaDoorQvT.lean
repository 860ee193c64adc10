/-
  Slices of ints that came in. By an AI agent. No person has read it.
-/
import Derived.Test.YtboighnmgnjhdaaDoorQuaCard
import Derived.Test.YtboighnmgnjhdaaDoorFltC
namespace Go.Proofs.YtboighnmgnjhdaaDoor
open Go.ChangeShapes Go.WideShapes Go.ChangeAt Go.RowKit

theorem uNums : Tryd.prog.underlying 40 = some (.slice 3) := by kernel_rfl
/-- These numbers lie from P on. -/
def Ri (w : World) (P : Option Addr) (zs : List Int) : Prop := (∀ z ∈ zs, (Lit.int .i64 z).wf = true) ∧ (zs ≠ [] → ∃ ad, P = some ad ∧ ad.block < w.heap.size ∧ ∀ (i : Nat) (z : Int), zs[i]? = some z → w.cell? (ad.add i) = some (.int .i64 z))
theorem Ri.below {w wr : World} {P : Option Addr} {zs : List Int} (h : Ri w P zs) (hb : Below w.heap.size w wr) : Ri wr P zs := by
  refine ⟨h.1, fun hn => ?_⟩
  obtain ⟨ad, e, h1, h2⟩ := h.2 hn
  refine ⟨ad, e, Nat.lt_of_lt_of_le h1 hb.size, fun i b hi => ?_⟩
  rw [hb.cell (p := ad.add i) (by rw [ad_block]; exact h1)]
  exact h2 i b hi
/-- The i-th of them. -/
theorem ri_at {w : World} {P : Option Addr} {zs : List Int} (h : Ri w P zs) (i : Nat) (hi : i < zs.length) : ∃ ad z, P = some ad ∧ Hid (zs[i]? = some z) ∧ w.cell? (ad.add i) = some (.int .i64 z) := by
  obtain ⟨ad, e, -, h2⟩ := h.2 (fun hn => by rw [hn] at hi; simp at hi)
  exact ⟨ad, zs[i], e, hide (List.getElem?_eq_getElem hi), h2 i _ (List.getElem?_eq_getElem hi)⟩
/-- A slice of numbers that came in, as the walks ask for it. -/
theorem open_nums {H : Type} {enc : TypeId × Value → H} {W : World} {A : Option Addr} {len cap fuel : Nat} {x : DataW H × List MemPlace} {sp : Nat → Bool} {held : Bool} {base : Nat}
    (h : DataW.trod enc Tryd.prog W base sp held fuel 40 [.slice A len cap] = some x) :
    ∃ zs : List Int, zs.length = len ∧ Ri W A zs ∧ len ≤ cap ∧ cap ≤ 9223372036854775807 := by
  have hlt := DataW.trod_lt _ _ _ _ h
  rcases open_ints uNums uInt (by kernel_rfl) h with ⟨hcs, _⟩ | ⟨a, l, c, zs, hcs, _, hl, hm, hz, hx, hcell, hwz⟩
  · simp at hcs
    obtain ⟨rfl, rfl, rfl⟩ := hcs
    exact ⟨[], rfl, ⟨fun b hb => by simp at hb, fun hn => absurd rfl hn⟩, by omega, by omega⟩
  · simp at hcs
    obtain ⟨rfl, rfl, rfl⟩ := hcs
    have hzl : len ≤ zs.length := by rw [hz]; split <;> omega
    refine ⟨zs.take len, by simp; omega, ⟨fun z hb => hwz z (List.mem_of_mem_take hb), fun hn => ⟨a, rfl, ?_, fun i z hi => ?_⟩⟩, hl, by unfold maxLen at hm; omega⟩
    · subst hx
      have hpos : 0 < zs.length := by
        rcases Nat.eq_zero_or_pos zs.length with h0 | h0
        · exact absurd (by rw [List.length_eq_zero_iff.1 h0]; simp) hn
        · exact h0
      exact hlt (MemPlace.cell a.block (a.off + 0)) (MemPlace.mem_row.2 ⟨0, hpos, rfl⟩)
    · rw [List.getElem?_take] at hi
      split at hi
      · have h1 := (List.getElem?_eq_some_iff.1 hi).1
        rw [hcell i h1, List.getD_eq_getElem?_getD, hi, Option.getD_some]
      · cases hi
end Go.Proofs.YtboighnmgnjhdaaDoor
