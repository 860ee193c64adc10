/-
  What a card's description of a tensor gives; what the list of ShapeSays's variables gives. By an AI agent. No person has read it.
-/
import Derived.Test.YtnbjcdmiehnceaaDoorShpCard
import Derived.Test.YtnbjcdmiehnceaaDoorShpZ
import Derived.Lib.LaidTab
import Derived.ChangeSame
import Derived.Stop.LaidErr
namespace Go.Proofs.YtnbjcdmiehnceaaDoor
open Go.ChangeShapes Go.WideShapes Go.ChangeAt Go.RowKit

theorem descCells : Tryd.prog.cellsOf 24 = 2 := by kernel_rfl
theorem numsCell : Tryd.prog.cellsOf 22 = 1 := by kernel_rfl
theorem boolCell : Tryd.prog.cellsOf 4 = 1 := by kernel_rfl
theorem uBool : Tryd.prog.underlying 4 = some .bool := by kernel_rfl
set_option maxRecDepth 100000 in
/-- A description that came in, as the walks ask for it. -/
theorem open_desc {H : Type} {enc : TypeId × Value → H} {W : World} {v : Value} {d : DataW H} {p : List MemPlace} {r : Reach} {b0 base : Nat} {sp : Nat → Bool} {held : Bool}
    (hval : Value.okWide Tryd.prog W r b0 24 v) (hd : DataW.Trod enc Tryd.prog W base sp held 24 v d p) :
    ∃ (zs : List Int) (A : Option Addr) (cap : Nat) (u : Bool), v = .agg (dcells A zs.length cap u) ∧ Ri W A zs ∧ zs.length ≤ cap ∧ cap ≤ 9223372036854775807 := by
  obtain ⟨cs, rfl, hs⟩ := okWide_struct Tryd.underlying24 hval
  obtain ⟨fuel, hf⟩ := hd
  obtain ⟨y0, y1, n, -, -, h0, h1⟩ := trod_struct2 Tryd.underlying24 hf
  rw [descCells] at hs
  obtain ⟨c0, c1, rfl⟩ : ∃ c0 c1, cs = #[c0, c1] := by
    obtain ⟨l⟩ := cs
    match l, hs with
    | [a, b], _ => exact ⟨a, b, rfl⟩
  dsimp only at h0 h1
  rw [numsCell] at h0
  rw [boolCell] at h1
  simp only [Value.cells, List.drop_zero, List.take_succ_cons, List.take_zero, List.drop_succ_cons] at h0 h1
  obtain ⟨u, hu, -⟩ := DataW.trod_bool uBool h1
  have hc1 : c1 = .bool u := by simpa using hu
  subst hc1
  obtain ⟨A, len, cap, rfl⟩ : ∃ A len cap, c0 = .slice A len cap := by
    rcases open_ints uNums uInt (by kernel_rfl) h0 with ⟨hcs, _⟩ | ⟨a, l, c, zs, hcs, _⟩
    · exact ⟨none, 0, 0, by simpa using hcs⟩
    · exact ⟨some a, l, c, by simpa using hcs⟩
  obtain ⟨zs, rfl, hR, hc, hd⟩ := open_nums h0
  exact ⟨zs, A, cap, u, rfl, hR, hc, hd⟩

theorem gPow : Tryd.prog.globalNamed "internal/strconv.uint64pow10" = some 21 := by kernel_rfl
theorem gPowType : (Tryd.prog.globals[21]?).map (·.type) = some 149 := by kernel_rfl
theorem undPow : Tryd.prog.underlying 149 = some (.array 20 103) := by kernel_rfl
theorem undU64 : Tryd.prog.underlying 103 = some (.int .u64) := by kernel_rfl
theorem cellsU64 : Tryd.prog.cellsOf 103 = 1 := by kernel_rfl
theorem cellsPow : Tryd.prog.cellsOf 149 = 20 := by kernel_rfl
set_option maxRecDepth 100000 in
theorem says_laid {W : World} (h : laidMetH Tryd.prog Rows.shapeSaysRow.laid W) : Pz W ∧ ∃ es am ar, es[3]? = some am ∧ es[1]? = some ar ∧ Ez W es ∧ E2 W am ar := by
  have h0 : laidMet Tryd.prog Rows.shapeSaysRow.laid W := h
  have h2 := (laidMet.tail (laidMet.tail h0))
  have hP : Pz W := Lib.tabIs_of_head gPow gPowType undPow undU64 cellsU64 cellsPow h2
  have h3 : laidMet Tryd.prog laidErrs W := laidMet.tail h2
  obtain ⟨es, hE⟩ := ez_of h3
  obtain ⟨am, ham⟩ : ∃ a, es[3]? = some a := ⟨_, List.getElem?_eq_getElem (by rw [hE.1]; decide)⟩
  obtain ⟨ar, har⟩ : ∃ a, es[1]? = some a := ⟨_, List.getElem?_eq_getElem (by rw [hE.1]; decide)⟩
  exact ⟨hP, es, am, ar, ham, har, hE, hE.2.2 3 _ am rfl ham, hE.2.2 1 _ ar rfl har⟩
end Go.Proofs.YtnbjcdmiehnceaaDoor
