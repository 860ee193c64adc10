/-
  What the list of package tens's three errors gives. By an AI agent. No person has read it.
-/
import Derived.Test.YtgdcfjmpjhlndaaGreatDoorZFBasCard
import Derived.Test.YtgdcfjmpjhlndaaGreatDoorZFTenA
import Derived.ChangeSame
namespace Go.Proofs.YtgdcfjmpjhlndaaGreatDoor
open Go.ChangeShapes Go.WideShapes Go.ChangeAt Go.RowKit
theorem ten_c2 : Tryz.prog.cellsOf 24 = 2 := by kernel_rfl
theorem ten_c3 : Tryz.prog.cellsOf 26 = 3 := by kernel_rfl
theorem ten_n1 : Tryz.prog.cellsOf 22 = 1 := by kernel_rfl
theorem ten_b1 : Tryz.prog.cellsOf 4 = 1 := by kernel_rfl
theorem uBool : Tryz.prog.underlying 4 = some .bool := by kernel_rfl
/-- A slice of numbers, from the cell that was read. -/
theorem nums_cell {H : Type} {enc : TypeId × Value → H} {W : World} {c : Value} {fuel : Nat} {x : DataW H × List MemPlace} {sp : Nat → Bool} {held : Bool} {base : Nat}
    (h : DataW.trod enc Tryz.prog W base sp held fuel 22 [c] = some x) : ∃ (zs : List Int) (A : Option Addr) (cap : Nat), c = .slice A zs.length cap ∧ Ri W A zs ∧ zs.length ≤ cap ∧ cap ≤ 9223372036854775807 := by
  obtain ⟨A, len, cap, rfl⟩ : ∃ A len cap, c = .slice A len cap := by
    rcases open_ints uNums uInt (by kernel_rfl) h with ⟨hcs, _⟩ | ⟨a, l, c, zs, hcs, _⟩
    · exact ⟨none, 0, 0, by simpa using hcs⟩
    · exact ⟨some a, l, c, by simpa using hcs⟩
  obtain ⟨zs, rfl, hR, hc, hd⟩ := open_nums h
  exact ⟨zs, A, cap, rfl, hR, hc, hd⟩
set_option maxRecDepth 100000 in
/-- A description, from the cells that were read. -/
theorem desc_cells {H : Type} {enc : TypeId × Value → H} {W : World} {c0 c1 : Value} {fuel : Nat} {x : DataW H × List MemPlace} {sp : Nat → Bool} {held : Bool} {base : Nat}
    (h : DataW.trod enc Tryz.prog W base sp held fuel 24 [c0, c1] = some x) : ∃ (zs : List Int) (A : Option Addr) (cap : Nat) (u : Bool), c0 = .slice A zs.length cap ∧ c1 = .bool u ∧ Ri W A zs ∧ zs.length ≤ cap ∧ cap ≤ 9223372036854775807 := by
  obtain ⟨y0, y1, n, -, -, h0, h1⟩ := trod_struct2 Tryz.underlying24 h
  dsimp only at h0 h1
  rw [ten_n1] at h0
  rw [ten_b1] at h1
  simp only [List.drop_zero, List.take_succ_cons, List.take_zero, List.drop_succ_cons] at h0 h1
  obtain ⟨u, hu, -⟩ := DataW.trod_bool uBool h1
  obtain ⟨zs, A, cap, rfl, hR, hc, hd⟩ := nums_cell h0
  exact ⟨zs, A, cap, u, rfl, by simpa using hu, hR, hc, hd⟩
set_option maxRecDepth 100000 in
/-- A tensor that came in, as the walks ask for it. -/
theorem open_tensor {H : Type} {enc : TypeId × Value → H} {W : World} {v : Value} {d : DataW H} {p : List MemPlace} {r : Reach} {b0 base : Nat} {sp : Nat → Bool} {held : Bool}
    (hval : Value.okWide Tryz.prog W r b0 26 v) (hd : DataW.Trod enc Tryz.prog W base sp held 26 v d p) :
    ∃ (zs : List Int) (A : Option Addr) (cap : Nat) (u : Bool) (ds : List Int) (D : Option Addr) (dcap : Nat), v = .agg (tcells A zs.length cap u D ds.length dcap) ∧ Ri W A zs ∧ zs.length ≤ cap ∧ cap ≤ 9223372036854775807 ∧ Ri W D ds ∧ ds.length ≤ dcap ∧ dcap ≤ 9223372036854775807 := by
  obtain ⟨cs, rfl, hs⟩ := okWide_struct Tryz.underlying26 hval
  obtain ⟨fuel, hf⟩ := hd
  rw [ten_c3] at hs
  obtain ⟨c0, c1, c2, rfl⟩ : ∃ c0 c1 c2, cs = #[c0, c1, c2] := by
    obtain ⟨l⟩ := cs
    match l, hs with
    | [a, b, c], _ => exact ⟨a, b, c, rfl⟩
  obtain ⟨y0, y1, n, -, -, h0, h1⟩ := trod_struct2 Tryz.underlying26 hf
  dsimp only at h0 h1
  rw [ten_c2] at h0
  rw [ten_n1] at h1
  simp only [Value.cells, List.drop_zero, List.take_succ_cons, List.take_zero, List.drop_succ_cons] at h0 h1
  obtain ⟨zs, A, cap, u, rfl, rfl, hR, hc, hd⟩ := desc_cells h0
  obtain ⟨ds, D, dcap, rfl, hS, hcc, hdd⟩ := nums_cell h1
  exact ⟨zs, A, cap, u, ds, D, dcap, rfl, hR, hc, hd, hS, hcc, hdd⟩
end Go.Proofs.YtgdcfjmpjhlndaaGreatDoor
