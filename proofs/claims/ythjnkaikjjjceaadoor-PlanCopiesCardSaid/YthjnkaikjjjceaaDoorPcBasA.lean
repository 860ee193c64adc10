/-
  What the walks of every seat lean on: hiding, worlds below, slices of ints that came in. (In the seat of package flt the texts FltC and FltIn give these.) By an AI agent. No person has read it.
-/
import Derived.Test.YthjnkaikjjjceaaDoorRows
import Derived.Test.YthjnkaikjjjceaaDoorChecked
import Derived.ProofKit
import Derived.StillTailTactics
import Derived.LoopN
import Derived.Lib.Hide
import Derived.WalkLawsBesides
import Derived.Laws.Rows
import Derived.Maps.AppendAt
import Derived.Laws.MakeOwn
namespace Go.Proofs.YthjnkaikjjjceaaDoor
open Go.RowKit
theorem hide {p : Prop} (h : p) : Hid p := h
theorem ad_block (a : Addr) (n : Nat) : (a.add n).block = a.block := by unfold Addr.add; split <;> rfl
theorem new_cells (w : World) (t : TypeId) (xs : List Value) : ∀ (j : Nat) (u : Value), xs[j]? = some u → (w.alloc (.cells xs.toArray t)).cell? ((⟨w.heap.size, 0, none⟩ : Addr).add j) = some u := by
  intro j u hj
  rw [Addr.add_lit, cell_of_row _ w.heap.size (0 + j) _ t (0, 0) (heap_alloc_new w _), Nat.zero_add]
  simpa using hj
/-- These numbers lie from P on. -/
def Ri (w : World) (P : Option Addr) (zs : List Int) : Prop := (∀ z ∈ zs, (Lit.int .i64 z).wf = true) ∧ (zs ≠ [] → ∃ ad, P = some ad ∧ ad.block < w.heap.size ∧ ∀ (i : Nat) (z : Int), zs[i]? = some z → w.cell? (ad.add i) = some (.int .i64 z))
theorem Ri.below {w wr : World} {P : Option Addr} {zs : List Int} (h : Ri w P zs) (hb : Below w.heap.size w wr) : Ri wr P zs := by
  refine ⟨h.1, fun hn => ?_⟩
  obtain ⟨ad, e, h1, h2⟩ := h.2 hn
  refine ⟨ad, e, Nat.lt_of_lt_of_le h1 hb.size, fun i b hi => ?_⟩
  rw [hb.cell (p := ad.add i) (by rw [ad_block]; exact h1)]
  exact h2 i b hi
/-- The i-th of them. -/
theorem ri_at {w : World} {P : Option Addr} {zs : List Int} (h : Ri w P zs) (i : Nat) (hi : i < zs.length) : ∃ ad z, P = some ad ∧ Hid (zs[i]? = some z) ∧ w.cell? (ad.add i) = some (.int .i64 z) := by
  obtain ⟨ad, e, -, h2⟩ := h.2 (fun hn => by rw [hn] at hi; simp at hi)
  exact ⟨ad, zs[i], e, hide (List.getElem?_eq_getElem hi), h2 i _ (List.getElem?_eq_getElem hi)⟩
theorem Ri.nil (w : World) (P : Option Addr) : Ri w P [] := ⟨fun z hz => by simp at hz, fun h => absurd rfl h⟩
theorem i64_wf {n : Int} (h : (Lit.int .i64 n).wf = true) : -9223372036854775808 ≤ n ∧ n ≤ 9223372036854775807 := by
  simp only [Lit.wf, Bool.and_eq_true, decide_eq_true_eq] at h
  have e1 : IntKind.i64.min = -9223372036854775808 := by decide
  have e2 : IntKind.i64.max = 9223372036854775807 := by decide
  omega
end Go.Proofs.YthjnkaikjjjceaaDoor
