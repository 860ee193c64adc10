/-
  What the cards of a seat share. By an AI agent. No person has read it.
-/
import Derived.Test.YtgdcfjmpjhlndaaDoorZEBasD
import Derived.Test.YtgdcfjmpjhlndaaDoorZEErrA
import Derived.Test.YtgdcfjmpjhlndaaDoorZETenA
import Derived.Test.YtgdcfjmpjhlndaaDoorCards
import Derived.Test.YtgdcfjmpjhlndaaDoorTie
import Derived.ProofKit
import Derived.OpenShut
import Derived.ChangeOld
import Derived.Deep.DeepHandedRow
import Derived.Lay
import Derived.Deep.DeepWitnessRowRef
import Derived.ChangeSame
namespace Go.Proofs.YtgdcfjmpjhlndaaDoor
open Go.ChangeShapes Go.WideShapes Go.ChangeAt Go.RowKit
theorem own : ownKnob Tryd.prog.godebug = none := by kernel_rfl
theorem laidOut : laidOutB Tryd.prog = true := by kernel_rfl
theorem uInt : Tryd.prog.underlying 3 = some (.int .i64) := by kernel_rfl
theorem uNums : Tryd.prog.underlying 22 = some (.slice 3) := uis
/-- A slice of numbers that came in, as the walks ask for it. -/
theorem open_nums {H : Type} {enc : TypeId × Value → H} {W : World} {A : Option Addr} {len cap fuel : Nat} {x : DataW H × List MemPlace} {sp : Nat → Bool} {held : Bool} {base : Nat}
    (h : DataW.trod enc Tryd.prog W base sp held fuel 22 [.slice A len cap] = some x) :
    ∃ zs : List Int, zs.length = len ∧ Ri W A zs ∧ len ≤ cap ∧ cap ≤ 9223372036854775807 := by
  have hlt := DataW.trod_lt _ _ _ _ h
  rcases open_ints uNums uInt (by kernel_rfl) h with ⟨hcs, _⟩ | ⟨a, l, c, zs, hcs, _, hl, hm, hz, hx, hcell, hwz⟩
  · simp at hcs
    obtain ⟨rfl, rfl, rfl⟩ := hcs
    exact ⟨[], rfl, Ri.nil W none, by omega, by omega⟩
  · simp at hcs
    obtain ⟨rfl, rfl, rfl⟩ := hcs
    have hzl : len ≤ zs.length := by rw [hz]; split <;> omega
    refine ⟨zs.take len, by simp; omega, ⟨fun z hb => hwz z (List.mem_of_mem_take hb), fun hn => ⟨a, rfl, ?_, fun i z hi => ?_⟩⟩, hl, by unfold maxLen at hm; omega⟩
    · subst hx
      have hpos : 0 < zs.length := by
        rcases Nat.eq_zero_or_pos zs.length with h0 | h0
        · exact absurd (by rw [List.length_eq_zero_iff.1 h0]; simp) hn
        · exact h0
      exact hlt (MemPlace.cell a.block (a.off + 0)) (MemPlace.mem_row.2 ⟨0, hpos, rfl⟩)
    · rw [List.getElem?_take] at hi
      split at hi
      · have h1 := (List.getElem?_eq_some_iff.1 hi).1
        rw [hcell i h1, List.getD_eq_getElem?_getD, hi, Option.getD_some]
      · cases hi
end Go.Proofs.YtgdcfjmpjhlndaaDoor
namespace Go.Proofs.YtgdcfjmpjhlndaaDoor
open Go.ChangeShapes Go.WideShapes Go.ChangeAt Go.RowKit
theorem ten_c2 : Tryd.prog.cellsOf 24 = 2 := by kernel_rfl
theorem ten_c3 : Tryd.prog.cellsOf 26 = 3 := by kernel_rfl
theorem ten_n1 : Tryd.prog.cellsOf 22 = 1 := by kernel_rfl
theorem ten_b1 : Tryd.prog.cellsOf 4 = 1 := by kernel_rfl
theorem uBool : Tryd.prog.underlying 4 = some .bool := by kernel_rfl
/-- A slice of numbers, from the cell that was read. -/
theorem nums_cell {H : Type} {enc : TypeId × Value → H} {W : World} {c : Value} {fuel : Nat} {x : DataW H × List MemPlace} {sp : Nat → Bool} {held : Bool} {base : Nat}
    (h : DataW.trod enc Tryd.prog W base sp held fuel 22 [c] = some x) : ∃ (zs : List Int) (A : Option Addr) (cap : Nat), c = .slice A zs.length cap ∧ Ri W A zs ∧ zs.length ≤ cap ∧ cap ≤ 9223372036854775807 := by
  obtain ⟨A, len, cap, rfl⟩ : ∃ A len cap, c = .slice A len cap := by
    rcases open_ints uNums uInt (by kernel_rfl) h with ⟨hcs, _⟩ | ⟨a, l, c, zs, hcs, _⟩
    · exact ⟨none, 0, 0, by simpa using hcs⟩
    · exact ⟨some a, l, c, by simpa using hcs⟩
  obtain ⟨zs, rfl, hR, hc, hd⟩ := open_nums h
  exact ⟨zs, A, cap, rfl, hR, hc, hd⟩
set_option maxRecDepth 100000 in
/-- A description, from the cells that were read. -/
theorem desc_cells {H : Type} {enc : TypeId × Value → H} {W : World} {c0 c1 : Value} {fuel : Nat} {x : DataW H × List MemPlace} {sp : Nat → Bool} {held : Bool} {base : Nat}
    (h : DataW.trod enc Tryd.prog W base sp held fuel 24 [c0, c1] = some x) : ∃ (zs : List Int) (A : Option Addr) (cap : Nat) (u : Bool), c0 = .slice A zs.length cap ∧ c1 = .bool u ∧ Ri W A zs ∧ zs.length ≤ cap ∧ cap ≤ 9223372036854775807 := by
  obtain ⟨y0, y1, n, -, -, h0, h1⟩ := trod_struct2 Tryd.underlying24 h
  dsimp only at h0 h1
  rw [ten_n1] at h0
  rw [ten_b1] at h1
  simp only [List.drop_zero, List.take_succ_cons, List.take_zero, List.drop_succ_cons] at h0 h1
  obtain ⟨u, hu, -⟩ := DataW.trod_bool uBool h1
  obtain ⟨zs, A, cap, rfl, hR, hc, hd⟩ := nums_cell h0
  exact ⟨zs, A, cap, u, rfl, by simpa using hu, hR, hc, hd⟩
end Go.Proofs.YtgdcfjmpjhlndaaDoor
