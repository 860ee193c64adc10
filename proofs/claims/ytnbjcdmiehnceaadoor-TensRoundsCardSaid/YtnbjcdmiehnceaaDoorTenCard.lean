/-
  What the list of package tens's three errors gives. By an AI agent. No person has read it.
-/
import Derived.Test.YtnbjcdmiehnceaaDoorBasCard
import Derived.Test.YtnbjcdmiehnceaaDoorTenA
namespace Go.Proofs.YtnbjcdmiehnceaaDoor
open Go.ChangeShapes Go.WideShapes Go.ChangeAt Go.RowKit

def laidThree : List (String × DataW Unit) := [("lodge/api.ErrShape", Rows.laid_lodge_api_ErrShape), ("lodge/api.ErrRange", Rows.laid_lodge_api_ErrRange), ("lodge/api.ErrMany", Rows.laid_lodge_api_ErrMany)]
theorem three_glob : (laidThree.map fun x => Tryd.prog.globalNamed x.1) = [some 2, some 1, some 0] := by kernel_rfl
theorem three_type : [(Tryd.prog.globals[2]?).map (·.type), (Tryd.prog.globals[1]?).map (·.type), (Tryd.prog.globals[0]?).map (·.type)] = [some 30, some 30, some 30] := by kernel_rfl
theorem three_laid {W : World} (h : laidMetH Tryd.prog laidThree W) : ∃ ah am ar, E3 W ah am ar := by
  have h : laidMet Tryd.prog laidThree W := h
  obtain ⟨ps, hl, hnd, hrows⟩ := h
  have hg := three_glob
  have ht := three_type
  unfold laidThree at hg
  simp only [List.map_cons, List.map_nil, List.cons.injEq, and_true] at hg ht
  obtain ⟨es, h1, -, -, h4⟩ := errs_of laidThree ps hl hnd hrows (fun x hx => by
    unfold laidThree at hx
    simp only [List.mem_cons, List.not_mem_nil, or_false] at hx
    rcases hx with rfl | rfl | rfl <;> exact ⟨_, rfl⟩) (fun x hx => by
    unfold laidThree at hx
    simp only [List.mem_cons, List.not_mem_nil, or_false] at hx
    rcases hx with rfl | rfl | rfl
    · exact ⟨_, hg.1, ht.1⟩
    · exact ⟨_, hg.2.1, ht.2.1⟩
    · exact ⟨_, hg.2.2, ht.2.2⟩)
  obtain ⟨ah, hah⟩ : ∃ a, es[0]? = some a := ⟨_, List.getElem?_eq_getElem (by rw [h1]; decide)⟩
  obtain ⟨ar, har⟩ : ∃ a, es[1]? = some a := ⟨_, List.getElem?_eq_getElem (by rw [h1]; decide)⟩
  obtain ⟨am, ham⟩ : ∃ a, es[2]? = some a := ⟨_, List.getElem?_eq_getElem (by rw [h1]; decide)⟩
  obtain ⟨g0, e0, i0⟩ := h4 0 _ ah rfl hah
  obtain ⟨g1, e1, i1⟩ := h4 1 _ ar rfl har
  obtain ⟨g2, e2, i2⟩ := h4 2 _ am rfl ham
  obtain rfl := Option.some.inj (hg.1.symm.trans e0)
  obtain rfl := Option.some.inj (hg.2.1.symm.trans e1)
  obtain rfl := Option.some.inj (hg.2.2.symm.trans e2)
  exact ⟨ah, am, ar, i0, i2, i1⟩
end Go.Proofs.YtnbjcdmiehnceaaDoor
