/-
  What the list of package tens's three errors gives. By an AI agent. No person has read it.
-/
import Derived.Test.YtgdcfjmpjhlndaaDoorBasCard
import Derived.Test.YtgdcfjmpjhlndaaDoorTenA
import Derived.ChangeSame
namespace Go.Proofs.YtgdcfjmpjhlndaaDoor
open Go.ChangeShapes Go.WideShapes Go.ChangeAt Go.RowKit

def laidThree : List (String × DataW Unit) := [("lodge/api.ErrShape", Rows.laid_lodge_api_ErrShape), ("lodge/api.ErrRange", Rows.laid_lodge_api_ErrRange), ("lodge/api.ErrMany", Rows.laid_lodge_api_ErrMany)]
theorem three_glob : (laidThree.map fun x => Tryd.prog.globalNamed x.1) = [some 1, some 2, some 4] := by kernel_rfl
theorem three_type : [(Tryd.prog.globals[1]?).map (·.type), (Tryd.prog.globals[2]?).map (·.type), (Tryd.prog.globals[4]?).map (·.type)] = [some 30, some 30, some 30] := by kernel_rfl
theorem three_laid {W : World} (h : laidMetH Tryd.prog laidThree W) : ∃ ah am ar, E3 W ah am ar := by
  have h : laidMet Tryd.prog laidThree W := h
  obtain ⟨ps, hl, hnd, hrows⟩ := h
  have hg := three_glob
  have ht := three_type
  unfold laidThree at hg
  simp only [List.map_cons, List.map_nil, List.cons.injEq, and_true] at hg ht
  obtain ⟨es, h1, -, -, h4⟩ := errs_of laidThree ps hl hnd hrows (fun x hx => by
    unfold laidThree at hx
    simp only [List.mem_cons, List.not_mem_nil, or_false] at hx
    rcases hx with rfl | rfl | rfl <;> exact ⟨_, rfl⟩) (fun x hx => by
    unfold laidThree at hx
    simp only [List.mem_cons, List.not_mem_nil, or_false] at hx
    rcases hx with rfl | rfl | rfl
    · exact ⟨_, hg.1, ht.1⟩
    · exact ⟨_, hg.2.1, ht.2.1⟩
    · exact ⟨_, hg.2.2, ht.2.2⟩)
  obtain ⟨ah, hah⟩ : ∃ a, es[0]? = some a := ⟨_, List.getElem?_eq_getElem (by rw [h1]; decide)⟩
  obtain ⟨ar, har⟩ : ∃ a, es[1]? = some a := ⟨_, List.getElem?_eq_getElem (by rw [h1]; decide)⟩
  obtain ⟨am, ham⟩ : ∃ a, es[2]? = some a := ⟨_, List.getElem?_eq_getElem (by rw [h1]; decide)⟩
  obtain ⟨g0, e0, i0⟩ := h4 0 _ ah rfl hah
  obtain ⟨g1, e1, i1⟩ := h4 1 _ ar rfl har
  obtain ⟨g2, e2, i2⟩ := h4 2 _ am rfl ham
  obtain rfl := Option.some.inj (hg.1.symm.trans e0)
  obtain rfl := Option.some.inj (hg.2.1.symm.trans e1)
  obtain rfl := Option.some.inj (hg.2.2.symm.trans e2)
  exact ⟨ah, am, ar, i0, i2, i1⟩

theorem ten_c2 : Tryd.prog.cellsOf 24 = 2 := by kernel_rfl
theorem ten_c3 : Tryd.prog.cellsOf 26 = 3 := by kernel_rfl
theorem ten_n1 : Tryd.prog.cellsOf 22 = 1 := by kernel_rfl
theorem ten_b1 : Tryd.prog.cellsOf 4 = 1 := by kernel_rfl
theorem uBool : Tryd.prog.underlying 4 = some .bool := by kernel_rfl
/-- A slice of numbers, from the cell that was read. -/
theorem nums_cell {H : Type} {enc : TypeId × Value → H} {W : World} {c : Value} {fuel : Nat} {x : DataW H × List MemPlace} {sp : Nat → Bool} {held : Bool} {base : Nat}
    (h : DataW.trod enc Tryd.prog W base sp held fuel 22 [c] = some x) : ∃ (zs : List Int) (A : Option Addr) (cap : Nat), c = .slice A zs.length cap ∧ Ri W A zs ∧ zs.length ≤ cap ∧ cap ≤ 9223372036854775807 := by
  obtain ⟨A, len, cap, rfl⟩ : ∃ A len cap, c = .slice A len cap := by
    rcases open_ints uNums uInt (by kernel_rfl) h with ⟨hcs, _⟩ | ⟨a, l, c, zs, hcs, _⟩
    · exact ⟨none, 0, 0, by simpa using hcs⟩
    · exact ⟨some a, l, c, by simpa using hcs⟩
  obtain ⟨zs, rfl, hR, hc, hd⟩ := open_nums h
  exact ⟨zs, A, cap, rfl, hR, hc, hd⟩
set_option maxRecDepth 100000 in
/-- A description, from the cells that were read. -/
theorem desc_cells {H : Type} {enc : TypeId × Value → H} {W : World} {c0 c1 : Value} {fuel : Nat} {x : DataW H × List MemPlace} {sp : Nat → Bool} {held : Bool} {base : Nat}
    (h : DataW.trod enc Tryd.prog W base sp held fuel 24 [c0, c1] = some x) : ∃ (zs : List Int) (A : Option Addr) (cap : Nat) (u : Bool), c0 = .slice A zs.length cap ∧ c1 = .bool u ∧ Ri W A zs ∧ zs.length ≤ cap ∧ cap ≤ 9223372036854775807 := by
  obtain ⟨y0, y1, n, -, -, h0, h1⟩ := trod_struct2 Tryd.underlying24 h
  dsimp only at h0 h1
  rw [ten_n1] at h0
  rw [ten_b1] at h1
  simp only [List.drop_zero, List.take_succ_cons, List.take_zero, List.drop_succ_cons] at h0 h1
  obtain ⟨u, hu, -⟩ := DataW.trod_bool uBool h1
  obtain ⟨zs, A, cap, rfl, hR, hc, hd⟩ := nums_cell h0
  exact ⟨zs, A, cap, u, rfl, by simpa using hu, hR, hc, hd⟩
set_option maxRecDepth 100000 in
/-- A description that came in, as the walks ask for it. -/
theorem open_desc {H : Type} {enc : TypeId × Value → H} {W : World} {v : Value} {d : DataW H} {p : List MemPlace} {r : Reach} {b0 base : Nat} {sp : Nat → Bool} {held : Bool}
    (hval : Value.okWide Tryd.prog W r b0 24 v) (hd : DataW.Trod enc Tryd.prog W base sp held 24 v d p) :
    ∃ (zs : List Int) (A : Option Addr) (cap : Nat) (u : Bool), v = .agg (dcells A zs.length cap u) ∧ Ri W A zs ∧ zs.length ≤ cap ∧ cap ≤ 9223372036854775807 := by
  obtain ⟨cs, rfl, hs⟩ := okWide_struct Tryd.underlying24 hval
  obtain ⟨fuel, hf⟩ := hd
  rw [ten_c2] at hs
  obtain ⟨c0, c1, rfl⟩ : ∃ c0 c1, cs = #[c0, c1] := by
    obtain ⟨l⟩ := cs
    match l, hs with
    | [a, b], _ => exact ⟨a, b, rfl⟩
  obtain ⟨zs, A, cap, u, rfl, rfl, hR, hc, hd⟩ := desc_cells hf
  exact ⟨zs, A, cap, u, rfl, hR, hc, hd⟩
set_option maxRecDepth 100000 in
/-- A tensor that came in, as the walks ask for it. -/
theorem open_tensor {H : Type} {enc : TypeId × Value → H} {W : World} {v : Value} {d : DataW H} {p : List MemPlace} {r : Reach} {b0 base : Nat} {sp : Nat → Bool} {held : Bool}
    (hval : Value.okWide Tryd.prog W r b0 26 v) (hd : DataW.Trod enc Tryd.prog W base sp held 26 v d p) :
    ∃ (zs : List Int) (A : Option Addr) (cap : Nat) (u : Bool) (ds : List Int) (D : Option Addr) (dcap : Nat), v = .agg (tcells A zs.length cap u D ds.length dcap) ∧ Ri W A zs ∧ zs.length ≤ cap ∧ cap ≤ 9223372036854775807 ∧ Ri W D ds ∧ ds.length ≤ dcap ∧ dcap ≤ 9223372036854775807 := by
  obtain ⟨cs, rfl, hs⟩ := okWide_struct Tryd.underlying26 hval
  obtain ⟨fuel, hf⟩ := hd
  rw [ten_c3] at hs
  obtain ⟨c0, c1, c2, rfl⟩ : ∃ c0 c1 c2, cs = #[c0, c1, c2] := by
    obtain ⟨l⟩ := cs
    match l, hs with
    | [a, b, c], _ => exact ⟨a, b, c, rfl⟩
  obtain ⟨y0, y1, n, -, -, h0, h1⟩ := trod_struct2 Tryd.underlying26 hf
  dsimp only at h0 h1
  rw [ten_c2] at h0
  rw [ten_n1] at h1
  simp only [Value.cells, List.drop_zero, List.take_succ_cons, List.take_zero, List.drop_succ_cons] at h0 h1
  obtain ⟨zs, A, cap, u, rfl, rfl, hR, hc, hd⟩ := desc_cells h0
  obtain ⟨ds, D, dcap, rfl, hS, hcc, hdd⟩ := nums_cell h1
  exact ⟨zs, A, cap, u, ds, D, dcap, rfl, hR, hc, hd, hS, hcc, hdd⟩
end Go.Proofs.YtgdcfjmpjhlndaaDoor
