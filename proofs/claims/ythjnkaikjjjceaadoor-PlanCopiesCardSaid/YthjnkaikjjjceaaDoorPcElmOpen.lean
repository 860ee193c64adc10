/-
  Slices of descriptions, and of tensors, that came in. By an AI agent. No person has read it.
-/
import Derived.Test.YthjnkaikjjjceaaDoorPcTenCard
import Derived.Test.YthjnkaikjjjceaaDoorPcElmN
import Derived.Test.YthjnkaikjjjceaaDoorPcErrA
import Derived.Deep.Slices
import Derived.ChangeOld
import Derived.Laws.Rows
import Derived.Laws.Tables
import Derived.Laws.CopyOwn
import Derived.StillTailTactics
import Derived.LoopN
import Derived.WalkLawsBesides
import Derived.Laws.Alloc2
import Derived.Laws.Build
namespace Go.Proofs.YthjnkaikjjjceaaDoor
open Go.ChangeShapes Go.WideShapes Go.ChangeAt Go.RowKit
instance : Inhabited Dsc := ⟨⟨none, [], 0, false⟩⟩
instance : Inhabited Ten := ⟨⟨none, [], 0, false, none, [], 0⟩⟩
theorem uDescs : Tryd.prog.underlying 24 = some (.slice 59) := by kernel_rfl
set_option maxRecDepth 100000 in
theorem open_dcaps {H : Type} {enc : TypeId × Value → H} {W : World} {A : Option Addr} {len cap fuel : Nat} {x : DataW H × List MemPlace} {sp : Nat → Bool} {held : Bool} {base : Nat}
    (h : DataW.trod enc Tryd.prog W base sp held fuel 24 [.slice A len cap] = some x) :
    ∃ ds : List Dsc, ds.length = len ∧ Row W A (ds.flatMap Dsc.vals) ∧ (∀ d ∈ ds, Ri W d.P d.zs ∧ d.zs.length ≤ d.cap) ∧ len ≤ cap ∧ cap ≤ 9223372036854775807 := by
  rcases Deep.open_slice uDescs h with ⟨hcs, _⟩ | ⟨a, l, c, m, n, D, Pl, hcs, hb, hl, hm, hmm, hx, hi⟩
  · simp at hcs
    obtain ⟨rfl, rfl, rfl⟩ := hcs
    exact ⟨[], rfl, Row.nil _ _, by simp, by omega, by omega⟩
  · simp at hcs
    obtain ⟨rfl, rfl, rfl⟩ := hcs
    have hlm : len ≤ m := by rw [hmm]; split <;> omega
    obtain ⟨f, hf⟩ := Deep.choose_lt (α := Dsc) (n := len) (p := fun i d => a.block < W.heap.size ∧ (Ri W d.P d.zs ∧ d.zs.length ≤ d.cap) ∧ ∀ (j : Nat) (v : Value), d.vals[j]? = some v → W.cell? ((a.add (i * 2)).add j) = some v) (fun i hil => by
      obtain ⟨cs, h1, h2⟩ := hi i (by omega)
      rw [ten_c2] at h1
      have hlen := World.cells?_some h1
      have hblk := World.cells?_block h1 (by decide)
      rw [ad_block] at hblk
      obtain ⟨hln, hcell⟩ := hlen.2
      obtain ⟨c0, c1, rfl⟩ : ∃ c0 c1, cs = [c0, c1] := by
        match cs, hln with
        | [a, b], _ => exact ⟨a, b, rfl⟩
      obtain ⟨zs, A, cap', u, rfl, rfl, hR, hc, hd⟩ := desc_cells h2
      refine ⟨⟨A, zs, cap', u⟩, hblk, ⟨hR, hc⟩, fun j v hj => ?_⟩
      have hj2 : j < 2 := (List.getElem?_eq_some_iff.1 hj).1
      rw [hcell j hj2]
      exact hj)
    refine ⟨(List.range len).map f, by simp, fun hne => ?_, ?_, hl, by unfold maxLen at hm; omega⟩
    · have hpos : 0 < len := by
        rcases Nat.eq_zero_or_pos len with h0 | h0
        · subst h0
          exact absurd rfl hne
        · exact h0
      refine ⟨a, rfl, (hf 0 hpos).1, fun j v hj => ?_⟩
      have hjl : j < ((List.range len).map f).length * 2 := by
        rw [← flat_len Dsc.vals 2 _ (fun _ _ => rfl)]
        exact (List.getElem?_eq_some_iff.1 hj).1
      rw [List.length_map, List.length_range] at hjl
      have hq : j / 2 < len := by omega
      have hg : ((List.range len).map f)[j / 2]? = some (f (j / 2)) := by
        rw [List.getElem?_map, List.getElem?_range hq]
        rfl
      have hj' := flat_at Dsc.vals 2 _ (fun _ _ => rfl) (j / 2) _ hg (j % 2) (Nat.mod_lt _ (by decide))
      rw [show j / 2 * 2 + j % 2 = j by omega] at hj'
      rw [hj'] at hj
      have := (hf (j / 2) hq).2.2 (j % 2) v hj
      rw [Addr.add_add, show j / 2 * 2 + j % 2 = j by omega] at this
      exact this
    · intro d hd
      obtain ⟨i, hi', rfl⟩ := List.mem_map.1 hd
      exact (hf i (List.mem_range.1 hi')).2.1
theorem open_descs {H : Type} {enc : TypeId × Value → H} {W : World} {A : Option Addr} {len cap fuel : Nat} {x : DataW H × List MemPlace} {sp : Nat → Bool} {held : Bool} {base : Nat}
    (h : DataW.trod enc Tryd.prog W base sp held fuel 24 [.slice A len cap] = some x) :
    ∃ ds : List Dsc, ds.length = len ∧ Row W A (ds.flatMap Dsc.vals) ∧ (∀ d ∈ ds, Ri W d.P d.zs) ∧ len ≤ cap ∧ cap ≤ 9223372036854775807 := by
  obtain ⟨ds, h1, h2, h3, h4, h5⟩ := open_dcaps h
  exact ⟨ds, h1, h2, fun d hd => (h3 d hd).1, h4, h5⟩
end Go.Proofs.YthjnkaikjjjceaaDoor
namespace Go.Proofs.YthjnkaikjjjceaaDoor
open Go.ChangeShapes Go.WideShapes Go.ChangeAt Go.RowKit
theorem uTensors : Tryd.prog.underlying 23 = some (.slice 70) := by kernel_rfl
set_option maxRecDepth 100000 in
theorem tensor_cells {H : Type} {enc : TypeId × Value → H} {W : World} {c0 c1 c2 : Value} {fuel : Nat} {x : DataW H × List MemPlace} {sp : Nat → Bool} {held : Bool} {base : Nat}
    (h : DataW.trod enc Tryd.prog W base sp held fuel 70 [c0, c1, c2] = some x) : ∃ t : Ten, c0 = .slice t.P t.zs.length t.cap ∧ c1 = .bool t.u ∧ c2 = .slice t.D t.ds.length t.dcap ∧ (Ri W t.P t.zs ∧ Ri W t.D t.ds) ∧ t.zs.length ≤ t.cap ∧ t.ds.length ≤ t.dcap := by
  obtain ⟨y0, y1, n, -, -, h0, h1⟩ := trod_struct2 Tryd.underlying70 h
  dsimp only at h0 h1
  rw [ten_c2] at h0
  rw [ten_n1] at h1
  simp only [List.drop_zero, List.take_succ_cons, List.take_zero, List.drop_succ_cons] at h0 h1
  obtain ⟨zs, A, cap, u, rfl, rfl, hR, hc, hd⟩ := desc_cells h0
  obtain ⟨ds, D, dcap, rfl, hS, hcc, hdd⟩ := nums_cell h1
  exact ⟨⟨A, zs, cap, u, D, ds, dcap⟩, rfl, rfl, rfl, ⟨hR, hS⟩, hc, hcc⟩
set_option maxRecDepth 100000 in
theorem open_tcaps {H : Type} {enc : TypeId × Value → H} {W : World} {A : Option Addr} {len cap fuel : Nat} {x : DataW H × List MemPlace} {sp : Nat → Bool} {held : Bool} {base : Nat}
    (h : DataW.trod enc Tryd.prog W base sp held fuel 23 [.slice A len cap] = some x) :
    ∃ ds : List Ten, ds.length = len ∧ Row W A (ds.flatMap Ten.vals) ∧ (∀ t ∈ ds, (Ri W t.P t.zs ∧ Ri W t.D t.ds) ∧ t.zs.length ≤ t.cap ∧ t.ds.length ≤ t.dcap) ∧ len ≤ cap ∧ cap ≤ 9223372036854775807 := by
  rcases Deep.open_slice uTensors h with ⟨hcs, _⟩ | ⟨a, l, c, m, n, D, Pl, hcs, hb, hl, hm, hmm, hx, hi⟩
  · simp at hcs
    obtain ⟨rfl, rfl, rfl⟩ := hcs
    exact ⟨[], rfl, Row.nil _ _, by simp, by omega, by omega⟩
  · simp at hcs
    obtain ⟨rfl, rfl, rfl⟩ := hcs
    have hlm : len ≤ m := by rw [hmm]; split <;> omega
    obtain ⟨f, hf⟩ := Deep.choose_lt (α := Ten) (n := len) (p := fun i d => a.block < W.heap.size ∧ ((Ri W d.P d.zs ∧ Ri W d.D d.ds) ∧ d.zs.length ≤ d.cap ∧ d.ds.length ≤ d.dcap) ∧ ∀ (j : Nat) (v : Value), d.vals[j]? = some v → W.cell? ((a.add (i * 3)).add j) = some v) (fun i hil => by
      obtain ⟨cs, h1, h2⟩ := hi i (by omega)
      rw [ten_c3] at h1
      have hlen := World.cells?_some h1
      have hblk := World.cells?_block h1 (by decide)
      rw [ad_block] at hblk
      obtain ⟨hln, hcell⟩ := hlen.2
      obtain ⟨c0, c1, c2, rfl⟩ : ∃ c0 c1 c2, cs = [c0, c1, c2] := by
        match cs, hln with
        | [a, b, c], _ => exact ⟨a, b, c, rfl⟩
      obtain ⟨t, rfl, rfl, rfl, hR⟩ := tensor_cells h2
      refine ⟨t, hblk, hR, fun j v hj => ?_⟩
      have hj2 : j < 3 := (List.getElem?_eq_some_iff.1 hj).1
      rw [hcell j hj2]
      exact hj)
    refine ⟨(List.range len).map f, by simp, fun hne => ?_, ?_, hl, by unfold maxLen at hm; omega⟩
    · have hpos : 0 < len := by
        rcases Nat.eq_zero_or_pos len with h0 | h0
        · subst h0
          exact absurd rfl hne
        · exact h0
      refine ⟨a, rfl, (hf 0 hpos).1, fun j v hj => ?_⟩
      have hjl : j < ((List.range len).map f).length * 3 := by
        rw [← flat_len Ten.vals 3 _ (fun _ _ => rfl)]
        exact (List.getElem?_eq_some_iff.1 hj).1
      rw [List.length_map, List.length_range] at hjl
      have hq : j / 3 < len := by omega
      have hg : ((List.range len).map f)[j / 3]? = some (f (j / 3)) := by
        rw [List.getElem?_map, List.getElem?_range hq]
        rfl
      have hj' := flat_at Ten.vals 3 _ (fun _ _ => rfl) (j / 3) _ hg (j % 3) (Nat.mod_lt _ (by decide))
      rw [show j / 3 * 3 + j % 3 = j by omega] at hj'
      rw [hj'] at hj
      have := (hf (j / 3) hq).2.2 (j % 3) v hj
      rw [Addr.add_add, show j / 3 * 3 + j % 3 = j by omega] at this
      exact this
    · intro d hd
      obtain ⟨i, hi', rfl⟩ := List.mem_map.1 hd
      exact (hf i (List.mem_range.1 hi')).2.1
end Go.Proofs.YthjnkaikjjjceaaDoor
namespace Go.Proofs.YthjnkaikjjjceaaDoor
open Go.RowKit
theorem run_notat (a : Addr) (w : World) : (Instr.typeAssert (errv a) 32 119 true).run Tryd.prog w = .ok (.tuple #[.pointer none, .bool false]) w := by kernel_rfl
end Go.Proofs.YthjnkaikjjjceaaDoor
