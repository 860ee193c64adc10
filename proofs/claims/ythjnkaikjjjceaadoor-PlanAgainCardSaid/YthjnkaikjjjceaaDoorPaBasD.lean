/-
  Rows of ints of the call's own; lodgeworld.Number. By an AI agent. No person has read it.
-/
import Derived.Test.YthjnkaikjjjceaaDoorPaBasA
import Derived.Laws.OwnMore
namespace Go.Proofs.YthjnkaikjjjceaaDoor
open Go.RowKit
abbrev i64s (zs : List Int) : List Value := zs.map fun z => Value.int .i64 z
theorem i64info : ∃ i : TypeInfo, Tryd.prog.info? 3 = some i ∧ i.zero = some (.int .i64 0) ∧ i.size = 1 ∧ i.bytes = 8 := by
  obtain ⟨i, hi⟩ : ∃ i, Tryd.prog.info? 3 = some i := by
    refine Option.isSome_iff_exists.1 ?_
    kernel_rfl
  have h1 : (Tryd.prog.info? 3).bind (·.zero) = some (.int .i64 0) := by kernel_rfl
  have h2 : (Tryd.prog.info? 3).map (·.size) = some 1 := by kernel_rfl
  have h3 : (Tryd.prog.info? 3).map (·.bytes) = some 8 := by kernel_rfl
  rw [hi] at h1 h2 h3
  exact ⟨i, hi, by simpa using h1, by simpa using h2, by simpa using h3⟩
theorem uis : Tryd.prog.underlying 46 = some (.slice 3) := by kernel_rfl
/-- make([]int, n). -/
theorem made_ints (n : Nat) (hn : n ≤ 1000000) : ∃ Z : Array Value, Hid (Z = (i64s (List.replicate n 0)).toArray) ∧ ∀ w : World, (Instr.makeSlice 46 (.int .i64 n) (.int .i64 n)).run Tryd.prog w = .ok (.slice (some ⟨w.heap.size, 0, none⟩) n n) (w.alloc (.cells Z 3)) := by
  obtain ⟨i0, hi0, hz0, hz1, hz2⟩ := i64info
  refine ⟨madeCells (Value.int .i64 0).cells n, hide ?_, fun w => ?_⟩
  · apply Array.ext'
    rw [show (Value.int .i64 0).cells = #[Value.int .i64 0] from rfl, toList_madeCells_one]
    simp
  · have h := run_make (P := Tryd.prog) w 46 3 i0 (.int .i64 0) uis hi0 hz0 .i64 .i64 (n : Int) (n : Int) (by omega) (by omega) (by rw [hz2]; omega) (by omega)
    rw [hz1, Int.toNat_natCast, Nat.mul_one] at h
    exact h
theorem Has.ri {w : World} {g : Nat} {t : TypeId} {zs : List Int} (h : Has w g t (i64s zs)) (hb : ∀ z ∈ zs, (Lit.int .i64 z).wf = true) : Ri w (some ⟨g, 0, none⟩) zs :=
  ⟨hb, fun _ => ⟨_, rfl, h.lt, fun i z hi => by rw [Addr.add_lit, h.cell, Nat.zero_add]; simp [hi]⟩⟩
theorem wf_i64 (z : Int) (h : -9223372036854775808 ≤ z ∧ z ≤ 9223372036854775807) : (Lit.int .i64 z).wf = true := by
  simp only [Lit.wf, Bool.and_eq_true, decide_eq_true_eq]
  have e1 : IntKind.i64.min = -9223372036854775808 := by decide
  have e2 : IntKind.i64.max = 9223372036854775807 := by decide
  omega
theorem new_ri (w : World) (t : TypeId) (zs : List Int) (hb : ∀ z ∈ zs, -9223372036854775808 ≤ z ∧ z ≤ 9223372036854775807) : Ri (w.alloc (.cells (i64s zs).toArray t)) (some ⟨w.heap.size, 0, none⟩) zs :=
  Has.ri (Has.new w t _) fun z hz => wf_i64 z (hb z hz)
end Go.Proofs.YthjnkaikjjjceaaDoor
