/-
  What the list of package quant's one error gives. By an AI agent. No person has read it.
-/
import Derived.Test.YtboighnmgnjhdaaDoorQuaCard
import Derived.Test.YtboighnmgnjhdaaDoorErrA
namespace Go.Proofs.YtboighnmgnjhdaaDoor
open Go.ChangeShapes Go.WideShapes Go.ChangeAt Go.RowKit

def laidOne : List (String × DataW Unit) := [("lodge/api.ErrRange", Rows.laid_lodge_api_ErrRange)]
theorem one_glob : Tryd.prog.globalNamed "lodge/api.ErrRange" = some 1 := by kernel_rfl
theorem one_type : (Tryd.prog.globals[1]?).map (·.type) = some 35 := by kernel_rfl
theorem one_laid {W : World} (h : laidMet Tryd.prog laidOne W) : ∃ ar, ErrIs W 1 ar := by
  obtain ⟨ps, hl, hnd, hrows⟩ := h
  obtain ⟨es, h1, -, -, h4⟩ := errs_of laidOne ps hl hnd hrows (fun x hx => by
    unfold laidOne at hx
    simp only [List.mem_cons, List.not_mem_nil, or_false] at hx
    subst hx
    exact ⟨_, rfl⟩) (fun x hx => by
    unfold laidOne at hx
    simp only [List.mem_cons, List.not_mem_nil, or_false] at hx
    subst hx
    exact ⟨_, one_glob, one_type⟩)
  obtain ⟨ar, har⟩ : ∃ a, es[0]? = some a := ⟨_, List.getElem?_eq_getElem (by rw [h1]; decide)⟩
  obtain ⟨g0, e0, i0⟩ := h4 0 _ ar rfl har
  obtain rfl := Option.some.inj (one_glob.symm.trans e0)
  exact ⟨ar, i0⟩
end Go.Proofs.YtboighnmgnjhdaaDoor
