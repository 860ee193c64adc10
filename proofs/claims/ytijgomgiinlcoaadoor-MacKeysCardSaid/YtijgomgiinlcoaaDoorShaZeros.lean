/-
  'append(b, make([]byte, m)...)' onto a row of the call's own. By an AI agent. No person has read it.
-/
import Derived.Test.YtijgomgiinlcoaaDoorShaAny
namespace Go.Proofs.YtijgomgiinlcoaaDoor
open Go.RowKit

theorem und_int : Tryd.prog.underlying 3 = some (.int .i64) := by kernel_rfl
theorem zero_cells (m : Nat) : Builtin.zeroCells (Value.int .u8 0).cells m = (u8s (List.replicate m 0)).toArray := by
  have e : (Value.int .u8 0).cells = #[.int .u8 0] := rfl
  rw [e]
  apply Array.ext
  · simp [Builtin.zeroCells]
  · intro i h1 h2
    simp [Builtin.zeroCells, Nat.mod_one]

theorem zero_cells' (m : Nat) : Builtin.zeroCells #[Value.int .u8 0] m = (List.replicate m (Value.int .u8 0)).toArray := by
  have h := zero_cells m
  rw [show (Value.int .u8 0).cells = #[.int .u8 0] from rfl] at h
  simpa [u8s] using h

theorem run_append_zeros (w : World) (ty : TypeId) (base g n cap m : Nat) (xs : List Value) (hown : w.ownsRow base 5 1 (.slice (some ⟨g, 0, none⟩) n cap) n xs) (hs : n + m ≤ 1000000) (hbase : base ≤ w.heap.size) :
    ∃ v' w', (Builtin.append_ #[22, 3] ty #[.slice (some ⟨g, 0, none⟩) n cap, .int .i64 (m : Int)]).run Tryd.prog w = .ok v' w' ∧ w'.ownsRow base 5 1 v' (n + m) (xs ++ u8s (List.replicate m 0)) ∧ w.grownBy w' (some g) := by
  obtain ⟨i, hi, hz0, hz1, hz2⟩ := u8info
  have hlen : (xs ++ u8s (List.replicate m 0)).length = (n + m) * 1 := by have := hown.1; simp at this ⊢; omega
  have hw : IntKind.i64.wrap (m : Int) = (m : Int) := by rw [IntKind.wrap_i64]; omega
  have hneg : ¬ ((m : Int) < 0) := by omega
  have h48 : ¬ (281474976710656 < (m : Int)) := by omega
  rcases hown.2 with ⟨h', _⟩ | ⟨g', cap', cur, h', hbg, hg, hnc, hcm, hcs, htake⟩
  · simp at h'
  · simp only [Value.slice.injEq, Option.some.injEq, Addr.mk.injEq, and_true, true_and] at h'
    obtain ⟨rfl, rfl⟩ := h'
    have hone : ∀ u ∈ u8s (List.replicate m 0), u.oneCell' = true := u8s_one _
    by_cases hroom : n + m ≤ cap
    · by_cases hm : m = 0
      · subst hm
        refine ⟨_, w, ?_, by simpa using hown, World.grownBy.refl w _⟩
        simp [Builtin.append_, run_underlying ubs, run_underlying und_int, sizeOf, typeInfo, hi, hz2, hnc, asIntOf, go_sem, show IntKind.i64.wrap 0 = 0 from rfl, storeCells]
      · have hst := run_storeCells_at Tryd.prog g (n * 1) 5 (u8s (List.replicate m 0)) 0 cur w hg (by simp; omega) hone
        simp only [Nat.add_zero] at hst
        refine ⟨.slice (some ⟨g, 0, none⟩) (n + m) cap, w.setRow g (cur.toList.take (n * 1) ++ u8s (List.replicate m 0) ++ cur.toList.drop (n * 1 + (u8s (List.replicate m 0)).length)).toArray, ?_, ⟨hlen, .inr ⟨g, cap, _, rfl, hbg, setRow_heap w g cur _ _ _ hg, hroom, hcm, ?_, ?_⟩⟩, grown_setRow (World.grownBy.refl w _) _⟩
        · have hst' := hst
          simp at hst'
          simp [Builtin.append_, run_underlying ubs, run_underlying und_int, sizeOf, typeInfo, zeroValue, hi, hz0, hz1, hz2, hroom, asIntOf, go_sem, hw, hm, hneg, h48, zero_cells', Addr.add_lit, hst']
        · simp
          omega
        · rw [htake, ← hlen]
          exact List.take_left
    · have hm : m ≠ 0 := by omega
      have h63' : ¬ (9223372036854775807 < ((n : Int) + (m : Int))) := by omega
      have hns := nextslicecap_le (need := n + m) (old := cap) (by omega)
      have h48' : ¬ (281474976710656 < Builtin.nextslicecap (n + m) cap) := by omega
      have holds : ∀ j u, xs[j]? = some u → w.cell? ((⟨g, 0, none⟩ : Addr).add j) = some u := hown.cells (g := g) rfl
      have hfo := run_firstCells_some (P := Tryd.prog) w.drew 1 n ⟨g, 0, none⟩ n cap xs hown.1 (by simpa using holds)
      have hfo' := hfo
      simp [Builtin.firstCells, loadCells] at hfo'
      have hge := grownCap_ge w (n + m) cap 5
      have hcm2 : grownCap w (n + m) cap 5 ≤ maxLen := grownCap_le_maxLen w (n + m) cap 5 (by unfold maxLen; omega)
      refine ⟨.slice (some ⟨w.heap.size, 0, none⟩) (n + m) (grownCap w (n + m) cap 5), w.drew.alloc (.cells (xs.toArray ++ (List.replicate m (Value.int .u8 0)).toArray ++ (List.replicate (grownCap w (n + m) cap 5 - (n + m)) (Value.int .u8 0)).toArray) 5), ?_, ⟨hlen, .inr ⟨w.heap.size, _, _, rfl, hbase, heap_alloc_new w.drew _, hge, hcm2, ?_, ?_⟩⟩, ⟨rfl, rfl, rfl, by simp, fun k hk _ => Below.heap_alloc w.drew _ k hk⟩⟩
      · simp [Builtin.append_, run_underlying ubs, run_underlying und_int, sizeOf, typeInfo, zeroValue, hi, hz0, hz1, hz2, hroom, asIntOf, go_sem, hw, hm, hneg, h48, h63', h48', Question.forced, hfo', zero_cells', newRow, grownCap]
      · have := hown.1
        simp at this ⊢
        omega
      · rw [← hlen]
        simp [u8s, List.take_append]
        exact List.take_of_length_le (by omega)
end Go.Proofs.YtijgomgiinlcoaaDoor
