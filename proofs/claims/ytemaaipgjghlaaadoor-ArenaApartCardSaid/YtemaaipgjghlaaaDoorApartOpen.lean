/-
  What a slice of lodgelaw13.Do gives that came in; the three errors' list. By an AI agent. No person has read it.
-/
import Derived.Test.YtemaaipgjghlaaaDoorApartD
import Derived.Test.YtemaaipgjghlaaaDoorBasCard
import Derived.Deep.Slices
import Derived.ChangeOld
namespace Go.Proofs.YtemaaipgjghlaaaDoor
open Go.ChangeShapes Go.WideShapes Go.ChangeAt Go.RowKit

theorem uDos : Tryd.prog.underlying 22 = some (.slice 37) := by kernel_rfl
theorem do_c5 : Tryd.prog.cellsOf 37 = 5 := by kernel_rfl
theorem do_i1 : Tryd.prog.cellsOf 3 = 1 := by kernel_rfl
instance : Inhabited DoI := ⟨⟨0, 0, 0, 0⟩⟩
set_option maxRecDepth 100000 in
theorem do_cells {H : Type} {enc : TypeId × Value → H} {W : World} {c0 c1 c2 c3 c4 : Value} {fuel : Nat} {x : DataW H × List MemPlace} {sp : Nat → Bool} {held : Bool} {base : Nat}
    (h : DataW.trod enc Tryd.prog W base sp held fuel 37 [c0, c1, c2, c3, c4] = some x) : ∃ d : DoI, c0 = .int .i64 d.k ∧ c1 = .int .i64 d.a ∧ c2 = .int .i64 d.b ∧ c3 = .int .i64 d.c := by
  obtain ⟨xs, n, -, -, -, hlen, hf⟩ := DataW.trod_struct Tryd.underlying37 h
  match xs, hlen with
  | [y0, y1, y2, y3, y4], _ =>
    have h0 : DataW.trod enc Tryd.prog W base sp held n 3 (([c0, c1, c2, c3, c4].drop 0).take (Tryd.prog.cellsOf 3)) = some y0 := hf 0 _ rfl
    have h1 : DataW.trod enc Tryd.prog W base sp held n 3 (([c0, c1, c2, c3, c4].drop 1).take (Tryd.prog.cellsOf 3)) = some y1 := hf 1 _ rfl
    have h2 : DataW.trod enc Tryd.prog W base sp held n 3 (([c0, c1, c2, c3, c4].drop 2).take (Tryd.prog.cellsOf 3)) = some y2 := hf 2 _ rfl
    have h3 : DataW.trod enc Tryd.prog W base sp held n 3 (([c0, c1, c2, c3, c4].drop 3).take (Tryd.prog.cellsOf 3)) = some y3 := hf 3 _ rfl
    rw [do_i1] at h0 h1 h2 h3
    simp only [List.drop_zero, List.take_succ_cons, List.take_zero, List.drop_succ_cons] at h0 h1 h2 h3
    obtain ⟨z0, e0, -⟩ := DataW.trod_int uInt h0
    obtain ⟨z1, e1, -⟩ := DataW.trod_int uInt h1
    obtain ⟨z2, e2, -⟩ := DataW.trod_int uInt h2
    obtain ⟨z3, e3, -⟩ := DataW.trod_int uInt h3
    exact ⟨⟨z0, z1, z2, z3⟩, by simpa using e0, by simpa using e1, by simpa using e2, by simpa using e3⟩
set_option maxRecDepth 100000 in
theorem open_dos {H : Type} {enc : TypeId × Value → H} {W : World} {A : Option Addr} {len cap fuel : Nat} {x : DataW H × List MemPlace} {sp : Nat → Bool} {held : Bool} {base : Nat}
    (h : DataW.trod enc Tryd.prog W base sp held fuel 22 [.slice A len cap] = some x) :
    ∃ ds : List DoI, ds.length = len ∧ Dos W A ds ∧ len ≤ cap ∧ cap ≤ 9223372036854775807 := by
  rcases Deep.open_slice uDos h with ⟨hcs, _⟩ | ⟨a, l, c, m, n, D, Pl, hcs, hb, hl, hm, hmm, hx, hi⟩
  · simp at hcs
    obtain ⟨rfl, rfl, rfl⟩ := hcs
    exact ⟨[], rfl, fun i d hd => by simp at hd, by omega, by omega⟩
  · simp at hcs
    obtain ⟨rfl, rfl, rfl⟩ := hcs
    have hlm : len ≤ m := by rw [hmm]; split <;> omega
    obtain ⟨f, hf⟩ := Deep.choose_lt (α := DoI) (n := len) (p := fun i d => a.block < W.heap.size ∧ W.cell? ((a.add (i * 5)).add 0) = some (.int .i64 d.k) ∧ W.cell? ((a.add (i * 5)).add 1) = some (.int .i64 d.a) ∧ W.cell? ((a.add (i * 5)).add 2) = some (.int .i64 d.b) ∧ W.cell? ((a.add (i * 5)).add 3) = some (.int .i64 d.c)) (fun i hil => by
      obtain ⟨cs, h1, h2⟩ := hi i (by omega)
      rw [do_c5] at h1
      have hlen := World.cells?_some h1
      have hblk := World.cells?_block h1 (by decide)
      rw [ad_block] at hblk
      obtain ⟨hln, hcell⟩ := hlen.2
      obtain ⟨c0, c1, c2, c3, c4, rfl⟩ : ∃ c0 c1 c2 c3 c4, cs = [c0, c1, c2, c3, c4] := by
        match cs, hln with
        | [a, b, c, d, e], _ => exact ⟨a, b, c, d, e, rfl⟩
      obtain ⟨d, rfl, rfl, rfl, rfl⟩ := do_cells h2
      exact ⟨d, hblk, hcell 0 (by decide), hcell 1 (by decide), hcell 2 (by decide), hcell 3 (by decide)⟩)
    refine ⟨(List.range len).map f, by simp, fun i d hd => ?_, hl, by unfold maxLen at hm; omega⟩
    have hil : i < len := by
      have := (List.getElem?_eq_some_iff.1 hd).1
      simpa using this
    rw [List.getElem?_map, List.getElem?_range hil] at hd
    simp at hd
    subst hd
    obtain ⟨q0, q1, q2, q3, q4⟩ := hf i hil
    refine ⟨a, rfl, q0, ?_, ?_, ?_, ?_⟩
    · simpa [Addr.add] using q1
    · simpa [Addr.add] using q2
    · simpa [Addr.add] using q3
    · simpa [Addr.add] using q4
/-- The three errors that the arena tells. -/
def laidAre : List (String × DataW Unit) := [("lodge/api.ErrRange", Rows.laid_lodge_api_ErrRange), ("lodge/api.ErrRoom", Rows.laid_lodge_api_ErrRoom), ("lodge/api.ErrNone", Rows.laid_lodge_api_ErrNone)]
theorem are_glob : (laidAre.map fun x => Tryd.prog.globalNamed x.1) = [some 0, some 1, some 2] := by kernel_rfl
theorem are_type : [(Tryd.prog.globals[0]?).map (·.type), (Tryd.prog.globals[1]?).map (·.type), (Tryd.prog.globals[2]?).map (·.type)] = [some 26, some 26, some 26] := by kernel_rfl
theorem are_laid {W : World} (h : laidMetH Tryd.prog laidAre W) : ∃ ar, ErrIs W 1 ar := by
  have h : laidMet Tryd.prog laidAre W := h
  obtain ⟨ps, hl, hnd, hrows⟩ := h
  have hg := are_glob
  have ht := are_type
  unfold laidAre at hg
  simp only [List.map_cons, List.map_nil, List.cons.injEq, and_true] at hg ht
  obtain ⟨es, h1, -, -, h4⟩ := errs_of laidAre ps hl hnd hrows (fun x hx => by
    unfold laidAre at hx
    simp only [List.mem_cons, List.not_mem_nil, or_false] at hx
    rcases hx with rfl | rfl | rfl <;> exact ⟨_, rfl⟩) (fun x hx => by
    unfold laidAre at hx
    simp only [List.mem_cons, List.not_mem_nil, or_false] at hx
    rcases hx with rfl | rfl | rfl
    · exact ⟨_, hg.1, ht.1⟩
    · exact ⟨_, hg.2.1, ht.2.1⟩
    · exact ⟨_, hg.2.2, ht.2.2⟩)
  obtain ⟨ar, har⟩ : ∃ a, es[1]? = some a := ⟨_, List.getElem?_eq_getElem (by rw [h1]; decide)⟩
  obtain ⟨g1, e1, i1⟩ := h4 1 _ ar rfl har
  obtain rfl := Option.some.inj (hg.2.1.symm.trans e1)
  exact ⟨ar, i1⟩
end Go.Proofs.YtemaaipgjghlaaaDoor
