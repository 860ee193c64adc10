/-
  What the list of package shape's two errors gives. By an AI agent. No person has read it.
-/
import Derived.Test.YtnbjcdmiehnceaaDoorBasCard
import Derived.Test.YtnbjcdmiehnceaaDoorShpA
namespace Go.Proofs.YtnbjcdmiehnceaaDoor
open Go.ChangeShapes Go.WideShapes Go.ChangeAt Go.RowKit

def laidTwo : List (String × DataW Unit) := [("lodge/api.ErrRange", Rows.laid_lodge_api_ErrRange), ("lodge/api.ErrMany", Rows.laid_lodge_api_ErrMany)]
theorem two_glob : (laidTwo.map fun x => Tryd.prog.globalNamed x.1) = [some 1, some 0] := by kernel_rfl
theorem two_type : [(Tryd.prog.globals[1]?).map (·.type), (Tryd.prog.globals[0]?).map (·.type)] = [some 30, some 30] := by kernel_rfl
theorem two_laid {W : World} (h : laidMetH Tryd.prog laidTwo W) : ∃ am ar, E2 W am ar := by
  have h : laidMet Tryd.prog laidTwo W := h
  obtain ⟨ps, hl, hnd, hrows⟩ := h
  have hg := two_glob
  have ht := two_type
  unfold laidTwo at hg
  simp only [List.map_cons, List.map_nil, List.cons.injEq, and_true] at hg ht
  obtain ⟨es, h1, -, -, h4⟩ := errs_of laidTwo ps hl hnd hrows (fun x hx => by
    unfold laidTwo at hx
    simp only [List.mem_cons, List.not_mem_nil, or_false] at hx
    rcases hx with rfl | rfl <;> exact ⟨_, rfl⟩) (fun x hx => by
    unfold laidTwo at hx
    simp only [List.mem_cons, List.not_mem_nil, or_false] at hx
    rcases hx with rfl | rfl
    · exact ⟨_, hg.1, ht.1⟩
    · exact ⟨_, hg.2, ht.2⟩)
  obtain ⟨ar, har⟩ : ∃ a, es[0]? = some a := ⟨_, List.getElem?_eq_getElem (by rw [h1]; decide)⟩
  obtain ⟨am, ham⟩ : ∃ a, es[1]? = some a := ⟨_, List.getElem?_eq_getElem (by rw [h1]; decide)⟩
  obtain ⟨g0, e0, i0⟩ := h4 0 _ ar rfl har
  obtain ⟨g1, e1, i1⟩ := h4 1 _ am rfl ham
  obtain rfl := Option.some.inj (hg.1.symm.trans e0)
  obtain rfl := Option.some.inj (hg.2.symm.trans e1)
  exact ⟨am, ar, i1, i0⟩
end Go.Proofs.YtnbjcdmiehnceaaDoor
