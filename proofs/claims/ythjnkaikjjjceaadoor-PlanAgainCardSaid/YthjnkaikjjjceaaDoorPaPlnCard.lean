/-
  What the first five of api's errors give, when they are laid. By an AI agent. No person has read it.
-/
import Derived.Test.YthjnkaikjjjceaaDoorPaBasCard
import Derived.Test.YthjnkaikjjjceaaDoorPaPlnA
namespace Go.Proofs.YthjnkaikjjjceaaDoor
open Go.RowKit Go.ChangeShapes
def laidFive : List (String × DataW Unit) := [("lodge/api.ErrShape", Rows.laid_lodge_api_ErrShape), ("lodge/api.ErrRange", Rows.laid_lodge_api_ErrRange), ("lodge/api.ErrKind", Rows.laid_lodge_api_ErrKind), ("lodge/api.ErrMany", Rows.laid_lodge_api_ErrMany), ("lodge/api.ErrEnd", Rows.laid_lodge_api_ErrEnd)]
theorem five_at (i : Nat) (x : String × DataW Unit) (h : laidFive[i]? = some x) : laidErrs[i]? = some x := by
  match i, h with
  | 0, h => exact h
  | 1, h => exact h
  | 2, h => exact h
  | 3, h => exact h
  | 4, h => exact h
  | i + 5, h => simp [laidFive] at h
theorem five_of {W : World} (h : laidMet Tryd.prog laidFive W) : ∃ es : List Addr, es.length = 5 ∧ Ey W es := by
  obtain ⟨ps, hl, hnd, hrows⟩ := h
  obtain ⟨es, h1, h2, -, h4⟩ := errs_of laidFive ps hl hnd hrows (fun x hx => by
    obtain ⟨i, hi⟩ := List.mem_iff_getElem?.1 hx
    exact errs_data x (List.mem_of_getElem? (five_at i x hi))) (fun x hx => by
    obtain ⟨i, hi⟩ := List.mem_iff_getElem?.1 hx
    obtain ⟨g, -, hg⟩ := errs_at i x (five_at i x hi)
    exact ⟨g, hg⟩)
  have h5 : es.length = 5 := h1
  refine ⟨es, h5, by omega, h2, fun i g a hg ha => ?_⟩
  have hil : i < laidFive.length := by rw [← h1]; exact (List.getElem?_eq_some_iff.1 ha).1
  obtain ⟨g', hg', hn, -⟩ := errs_at i _ (five_at i _ (List.getElem?_eq_getElem hil))
  obtain rfl := Option.some.inj (hg.symm.trans hg')
  obtain ⟨g2, hn2, he⟩ := h4 i _ a (List.getElem?_eq_getElem hil) ha
  obtain rfl := Option.some.inj (hn.symm.trans hn2)
  exact he
theorem five_laid {W : World} (h : laidMetH Tryd.prog laidFive W) : ∃ es : List Addr, es.length = 5 ∧ Ey W es := five_of (show laidMet Tryd.prog laidFive W from h)
end Go.Proofs.YthjnkaikjjjceaaDoor
