/-
  What the cards of the laws over package sha share: the row's list gives the table of the 64 constants; a world for the witness; slices of whole numbers as the walks ask for them. By an AI agent. No person has read it.
-/
import Derived.Test.YtijgomgiinlcoaaDoorCards
import Derived.Test.YtijgomgiinlcoaaDoorTie
import Derived.Test.YtijgomgiinlcoaaDoorShaNum
import Derived.ProofKit
import Derived.OpenShut
import Derived.ChangeOld
import Derived.Deep.DeepHandedRow
import Derived.Lib.LaidTab
namespace Go.Proofs.YtijgomgiinlcoaaDoor
open Go.ChangeShapes Go.WideShapes Go.ChangeAt Go.RowKit

theorem own : ownKnob Tryd.prog.godebug = none := by kernel_rfl
theorem laidOut : laidOutB Tryd.prog = true := by kernel_rfl
theorem gTab : Tryd.prog.globalNamed "lodge/sha.rounds" = some 0 := by kernel_rfl
theorem gTabType : (Tryd.prog.globals[0]?).map (·.type) = some 55 := by kernel_rfl
theorem cells64 : Tryd.prog.cellsOf 55 = 64 := by kernel_rfl
theorem cells4 : Tryd.prog.cellsOf 28 = 1 := by kernel_rfl
theorem und64 : Tryd.prog.underlying 55 = some (.array 64 28) := by kernel_rfl
theorem und4 : Tryd.prog.underlying 28 = some (.int .u32) := by kernel_rfl
theorem u22 : Tryd.prog.underlying 22 = some (.slice 5) := by kernel_rfl
theorem u5 : Tryd.prog.underlying 5 = some (.int .u8) := by kernel_rfl
theorem u44 : Tryd.prog.underlying 44 = some (.slice 3) := by kernel_rfl
theorem u3 : Tryd.prog.underlying 3 = some (.int .i64) := by kernel_rfl

/-- What the row's list gives: block 0 holds the 64 constants. -/
theorem tab_of {W : World} (h : laidMetH Tryd.prog [("lodge/sha.rounds", Rows.laid_lodge_sha_rounds)] W) : Table W := by
  have h1 : Lib.TabIs Tryd.prog W "lodge/sha.rounds" .u32 (Sha.K.map fun n : Nat => (n : Int)) := Lib.tabIs_of_head (rest := []) gTab gTabType und64 und4 cells4 cells64 h
  unfold Lib.TabIs World.var? at h1
  rw [gTab] at h1
  simp only [Option.bind_some] at h1
  split at h1
  · rename_i cs t fr e
    injection h1 with h1
    refine ⟨t, fr, ?_, ?_⟩
    · rw [e, h1]
      simp [u32s, List.map_map, Function.comp_def]
    · rcases Nat.eq_zero_or_pos W.heap.size with h0 | h0
      · rw [Array.getElem?_eq_none (by omega)] at e; cases e
      · exact h0
  · cases h1

/-- A world for the witness. -/
noncomputable def laidWorld (os : Os) : World :=
  { World.holding Tryd.prog os ⟨#[], #[], []⟩ with heap := (World.holding Tryd.prog os ⟨#[], #[], []⟩).heap.modify 0 fun
      | .cells _ t frozen => .cells (u32s Sha.K).toArray t frozen
      | o => o }

/-- A slice of bytes that came in, as the walks ask for it. -/
theorem open_bytes {H : Type} {enc : TypeId × Value → H} {W : World} {A : Option Addr} {len cap fuel : Nat} {x : DataW H × List MemPlace} {sp : Nat → Bool} {held : Bool} {base : Nat}
    (h : DataW.trod enc Tryd.prog W base sp held fuel 22 [.slice A len cap] = some x) :
    ∃ bs : List Nat, bs.length = len ∧ Rb W A bs ∧ len ≤ cap ∧ cap ≤ 9223372036854775807 := by
  have hlt := DataW.trod_lt _ _ _ _ h
  rcases open_ints u22 u5 (by kernel_rfl) h with ⟨hcs, _⟩ | ⟨a, l, c, zs, hcs, _, hl, hm, hz, hx, hcell, hwz⟩
  · simp at hcs
    obtain ⟨rfl, rfl, rfl⟩ := hcs
    exact ⟨[], rfl, ⟨fun b hb => by simp at hb, fun hn => absurd rfl hn⟩, by omega, by omega⟩
  · simp at hcs
    obtain ⟨rfl, rfl, rfl⟩ := hcs
    have hzl : len ≤ zs.length := by rw [hz]; split <;> omega
    have hnum : ∀ z ∈ zs, 0 ≤ z ∧ z < 256 := fun z hzm => by
      have h := hwz z hzm
      simp only [Lit.wf, Bool.and_eq_true, decide_eq_true_eq] at h
      have e1 : IntKind.u8.min = 0 := rfl
      have e2 : IntKind.u8.max = 255 := rfl
      omega
    refine ⟨(zs.take len).map Int.toNat, by simp; omega, ⟨fun b hb => ?_, fun hn => ⟨a, rfl, ?_, fun i b hi => ?_⟩⟩, hl, by unfold maxLen at hm; omega⟩
    · simp only [List.mem_map] at hb
      obtain ⟨z, hz1, rfl⟩ := hb
      have := hnum z (List.mem_of_mem_take hz1)
      omega
    · subst hx
      have hpos : 0 < zs.length := by
        rcases Nat.eq_zero_or_pos zs.length with h0 | h0
        · exact absurd (by rw [List.length_eq_zero_iff.1 h0]; simp) hn
        · exact h0
      exact hlt (MemPlace.cell a.block (a.off + 0)) (MemPlace.mem_row.2 ⟨0, hpos, rfl⟩)
    · simp only [List.getElem?_map, Option.map_eq_some_iff, List.getElem?_take] at hi
      obtain ⟨z, hz1, rfl⟩ := hi
      split at hz1
      · have h1 := (List.getElem?_eq_some_iff.1 hz1).1
        rw [hcell i h1]
        have h2 := hnum z (List.mem_of_getElem? hz1)
        rw [List.getD_eq_getElem?_getD, hz1, Option.getD_some, Int.toNat_of_nonneg h2.1]
      · cases hz1

/-- A slice of numbers that came in, as the walks ask for it. -/
theorem open_nums {H : Type} {enc : TypeId × Value → H} {W : World} {A : Option Addr} {len cap fuel : Nat} {x : DataW H × List MemPlace} {sp : Nat → Bool} {held : Bool} {base : Nat}
    (h : DataW.trod enc Tryd.prog W base sp held fuel 44 [.slice A len cap] = some x) :
    ∃ zs : List Int, zs.length = len ∧ Ri W A zs ∧ len ≤ cap ∧ cap ≤ 9223372036854775807 := by
  have hlt := DataW.trod_lt _ _ _ _ h
  rcases open_ints u44 u3 (by kernel_rfl) h with ⟨hcs, _⟩ | ⟨a, l, c, zs, hcs, _, hl, hm, hz, hx, hcell, hwz⟩
  · simp at hcs
    obtain ⟨rfl, rfl, rfl⟩ := hcs
    exact ⟨[], rfl, ⟨fun b hb => by simp at hb, fun hn => absurd rfl hn⟩, by omega, by omega⟩
  · simp at hcs
    obtain ⟨rfl, rfl, rfl⟩ := hcs
    have hzl : len ≤ zs.length := by rw [hz]; split <;> omega
    refine ⟨zs.take len, by simp; omega, ⟨fun z hb => hwz z (List.mem_of_mem_take hb), fun hn => ⟨a, rfl, ?_, fun i z hi => ?_⟩⟩, hl, by unfold maxLen at hm; omega⟩
    · subst hx
      have hpos : 0 < zs.length := by
        rcases Nat.eq_zero_or_pos zs.length with h0 | h0
        · exact absurd (by rw [List.length_eq_zero_iff.1 h0]; simp) hn
        · exact h0
      exact hlt (MemPlace.cell a.block (a.off + 0)) (MemPlace.mem_row.2 ⟨0, hpos, rfl⟩)
    · rw [List.getElem?_take] at hi
      split at hi
      · have h1 := (List.getElem?_eq_some_iff.1 hi).1
        rw [hcell i h1, List.getD_eq_getElem?_getD, hi, Option.getD_some]
      · cases hi
end Go.Proofs.YtijgomgiinlcoaaDoor
