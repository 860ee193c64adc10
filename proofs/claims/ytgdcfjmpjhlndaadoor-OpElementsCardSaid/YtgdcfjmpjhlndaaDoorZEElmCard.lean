/-
  What the list of package elem's four errors gives. By an AI agent. No person has read it.
-/
import Derived.Test.YtgdcfjmpjhlndaaDoorZEBasCard
import Derived.Test.YtgdcfjmpjhlndaaDoorZEElmR
namespace Go.Proofs.YtgdcfjmpjhlndaaDoor
open Go.ChangeShapes Go.WideShapes Go.ChangeAt Go.RowKit
def laidFour : List (String × DataW Unit) := [("lodge/api.ErrShape", Rows.laid_lodge_api_ErrShape), ("lodge/api.ErrRange", Rows.laid_lodge_api_ErrRange), ("lodge/api.ErrKind", Rows.laid_lodge_api_ErrKind), ("lodge/api.ErrMany", Rows.laid_lodge_api_ErrMany)]
theorem four_glob : (laidFour.map fun x => Tryd.prog.globalNamed x.1) = [some 1, some 2, some 0, some 4] := by kernel_rfl
theorem four_type : [(Tryd.prog.globals[1]?).map (·.type), (Tryd.prog.globals[2]?).map (·.type), (Tryd.prog.globals[0]?).map (·.type), (Tryd.prog.globals[4]?).map (·.type)] = [some 30, some 30, some 30, some 30] := by kernel_rfl
theorem four_laid {W : World} (h : laidMetH Tryd.prog laidFour W) : ∃ ah am ar ak, E4 W ah am ar ak := by
  have h : laidMet Tryd.prog laidFour W := h
  obtain ⟨ps, hl, hnd, hrows⟩ := h
  have hg := four_glob
  have ht := four_type
  unfold laidFour at hg
  simp only [List.map_cons, List.map_nil, List.cons.injEq, and_true] at hg ht
  obtain ⟨es, h1, -, -, h4⟩ := errs_of laidFour ps hl hnd hrows (fun x hx => by
    unfold laidFour at hx
    simp only [List.mem_cons, List.not_mem_nil, or_false] at hx
    rcases hx with rfl | rfl | rfl | rfl <;> exact ⟨_, rfl⟩) (fun x hx => by
    unfold laidFour at hx
    simp only [List.mem_cons, List.not_mem_nil, or_false] at hx
    rcases hx with rfl | rfl | rfl | rfl
    · exact ⟨_, hg.1, ht.1⟩
    · exact ⟨_, hg.2.1, ht.2.1⟩
    · exact ⟨_, hg.2.2.1, ht.2.2.1⟩
    · exact ⟨_, hg.2.2.2, ht.2.2.2⟩)
  obtain ⟨ah, hah⟩ : ∃ a, es[0]? = some a := ⟨_, List.getElem?_eq_getElem (by rw [h1]; decide)⟩
  obtain ⟨ar, har⟩ : ∃ a, es[1]? = some a := ⟨_, List.getElem?_eq_getElem (by rw [h1]; decide)⟩
  obtain ⟨ak, hak⟩ : ∃ a, es[2]? = some a := ⟨_, List.getElem?_eq_getElem (by rw [h1]; decide)⟩
  obtain ⟨am, ham⟩ : ∃ a, es[3]? = some a := ⟨_, List.getElem?_eq_getElem (by rw [h1]; decide)⟩
  obtain ⟨g0, e0, i0⟩ := h4 0 _ ah rfl hah
  obtain ⟨g1, e1, i1⟩ := h4 1 _ ar rfl har
  obtain ⟨g2, e2, i2⟩ := h4 2 _ ak rfl hak
  obtain ⟨g3, e3, i3⟩ := h4 3 _ am rfl ham
  obtain rfl := Option.some.inj (hg.1.symm.trans e0)
  obtain rfl := Option.some.inj (hg.2.1.symm.trans e1)
  obtain rfl := Option.some.inj (hg.2.2.1.symm.trans e2)
  obtain rfl := Option.some.inj (hg.2.2.2.symm.trans e3)
  exact ⟨ah, am, ar, ak, ⟨i0, i3, i1⟩, i2⟩
end Go.Proofs.YtgdcfjmpjhlndaaDoor
