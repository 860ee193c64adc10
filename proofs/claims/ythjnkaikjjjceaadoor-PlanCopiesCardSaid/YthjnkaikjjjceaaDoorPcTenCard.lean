/-
  What the list of package tens's three errors gives. By an AI agent. No person has read it.
-/
import Derived.Test.YthjnkaikjjjceaaDoorPcErrA
import Derived.Test.YthjnkaikjjjceaaDoorPcTenA
import Derived.Test.YthjnkaikjjjceaaDoorPcBasB
import Derived.Test.YthjnkaikjjjceaaDoorPcShpA
import Derived.ChangeSame
namespace Go.Proofs.YthjnkaikjjjceaaDoor
open Go.ChangeShapes Go.WideShapes Go.ChangeAt Go.RowKit
def laidThree : List (String × DataW Unit) := [("lodge/api.ErrShape", Rows.laid_lodge_api_ErrShape), ("lodge/api.ErrRange", Rows.laid_lodge_api_ErrRange), ("lodge/api.ErrMany", Rows.laid_lodge_api_ErrMany)]
theorem three_glob : (laidThree.map fun x => Tryd.prog.globalNamed x.1) = [some 4, some 2, some 1] := by kernel_rfl
theorem three_type : [(Tryd.prog.globals[4]?).map (·.type), (Tryd.prog.globals[2]?).map (·.type), (Tryd.prog.globals[1]?).map (·.type)] = [some 32, some 32, some 32] := by kernel_rfl
theorem three_laid {W : World} (h : laidMetH Tryd.prog laidThree W) : ∃ ah am ar, E3 W ah am ar := by
  have h : laidMet Tryd.prog laidThree W := h
  obtain ⟨ps, hl, hnd, hrows⟩ := h
  have hg := three_glob
  have ht := three_type
  unfold laidThree at hg
  simp only [List.map_cons, List.map_nil, List.cons.injEq, and_true] at hg ht
  obtain ⟨es, h1, -, -, h4⟩ := errs_of laidThree ps hl hnd hrows (fun x hx => by
    unfold laidThree at hx
    simp only [List.mem_cons, List.not_mem_nil, or_false] at hx
    rcases hx with rfl | rfl | rfl <;> exact ⟨_, rfl⟩) (fun x hx => by
    unfold laidThree at hx
    simp only [List.mem_cons, List.not_mem_nil, or_false] at hx
    rcases hx with rfl | rfl | rfl
    · exact ⟨_, hg.1, ht.1⟩
    · exact ⟨_, hg.2.1, ht.2.1⟩
    · exact ⟨_, hg.2.2, ht.2.2⟩)
  obtain ⟨ah, hah⟩ : ∃ a, es[0]? = some a := ⟨_, List.getElem?_eq_getElem (by rw [h1]; decide)⟩
  obtain ⟨ar, har⟩ : ∃ a, es[1]? = some a := ⟨_, List.getElem?_eq_getElem (by rw [h1]; decide)⟩
  obtain ⟨am, ham⟩ : ∃ a, es[2]? = some a := ⟨_, List.getElem?_eq_getElem (by rw [h1]; decide)⟩
  obtain ⟨g0, e0, i0⟩ := h4 0 _ ah rfl hah
  obtain ⟨g1, e1, i1⟩ := h4 1 _ ar rfl har
  obtain ⟨g2, e2, i2⟩ := h4 2 _ am rfl ham
  obtain rfl := Option.some.inj (hg.1.symm.trans e0)
  obtain rfl := Option.some.inj (hg.2.1.symm.trans e1)
  obtain rfl := Option.some.inj (hg.2.2.symm.trans e2)
  exact ⟨ah, am, ar, i0, i2, i1⟩

theorem ten_c2 : Tryd.prog.cellsOf 59 = 2 := by kernel_rfl
theorem ten_c3 : Tryd.prog.cellsOf 70 = 3 := by kernel_rfl
theorem ten_n1 : Tryd.prog.cellsOf 46 = 1 := by kernel_rfl
theorem ten_b1 : Tryd.prog.cellsOf 4 = 1 := by kernel_rfl
theorem uBool : Tryd.prog.underlying 4 = some .bool := by kernel_rfl
/-- A slice of numbers, from the cell that was read. -/
theorem nums_cell {H : Type} {enc : TypeId × Value → H} {W : World} {c : Value} {fuel : Nat} {x : DataW H × List MemPlace} {sp : Nat → Bool} {held : Bool} {base : Nat}
    (h : DataW.trod enc Tryd.prog W base sp held fuel 46 [c] = some x) : ∃ (zs : List Int) (A : Option Addr) (cap : Nat), c = .slice A zs.length cap ∧ Ri W A zs ∧ zs.length ≤ cap ∧ cap ≤ 9223372036854775807 := by
  obtain ⟨A, len, cap, rfl⟩ : ∃ A len cap, c = .slice A len cap := by
    rcases open_ints uNums uInt (by kernel_rfl) h with ⟨hcs, _⟩ | ⟨a, l, c, zs, hcs, _⟩
    · exact ⟨none, 0, 0, by simpa using hcs⟩
    · exact ⟨some a, l, c, by simpa using hcs⟩
  obtain ⟨zs, rfl, hR, hc, hd⟩ := open_nums h
  exact ⟨zs, A, cap, rfl, hR, hc, hd⟩
set_option maxRecDepth 100000 in
/-- A description, from the cells that were read. -/
theorem desc_cells {H : Type} {enc : TypeId × Value → H} {W : World} {c0 c1 : Value} {fuel : Nat} {x : DataW H × List MemPlace} {sp : Nat → Bool} {held : Bool} {base : Nat}
    (h : DataW.trod enc Tryd.prog W base sp held fuel 59 [c0, c1] = some x) : ∃ (zs : List Int) (A : Option Addr) (cap : Nat) (u : Bool), c0 = .slice A zs.length cap ∧ c1 = .bool u ∧ Ri W A zs ∧ zs.length ≤ cap ∧ cap ≤ 9223372036854775807 := by
  obtain ⟨y0, y1, n, -, -, h0, h1⟩ := trod_struct2 Tryd.underlying59 h
  dsimp only at h0 h1
  rw [ten_n1] at h0
  rw [ten_b1] at h1
  simp only [List.drop_zero, List.take_succ_cons, List.take_zero, List.drop_succ_cons] at h0 h1
  obtain ⟨u, hu, -⟩ := DataW.trod_bool uBool h1
  obtain ⟨zs, A, cap, rfl, hR, hc, hd⟩ := nums_cell h0
  exact ⟨zs, A, cap, u, rfl, by simpa using hu, hR, hc, hd⟩
end Go.Proofs.YthjnkaikjjjceaaDoor
namespace Go.Proofs.YthjnkaikjjjceaaDoor
open Go.RowKit
/-- n gone round wide, cut to narrow. -/
def Tens.wide (n : Int) : Int := (n + 2147483648) % 4294967296 - 2147483648
def Tens.narrow (n : Int) : Int := max (-128) (min n 127)
theorem wide_c (n : Int) (w : World) : Calls Tryd.prog 107 #[.int .i64 n] w fun e w' => e = .returned (.int .i64 (Tens.wide n)) ∧ w' = w := by
  have h1 : IntKind.i32.wrap n = Tens.wide n := by rw [IntKind.wrap_i32]; rfl
  have h2 : IntKind.i64.wrap (Tens.wide n) = Tens.wide n := by rw [IntKind.wrap_i64]; unfold Tens.wide; omega
  obtain ⟨q, hq⟩ : ∃ q, Hid (Tens.wide n = q) := ⟨_, hide rfl⟩
  rw [hq.out] at h1 h2 ⊢
  clear hq
  go_enter Tryd.func107, Tryd.ntmps107
  go_wp2_with fail
  go_ret
  exact ⟨rfl, rfl⟩
end Go.Proofs.YthjnkaikjjjceaaDoor
namespace Go.Proofs.YthjnkaikjjjceaaDoor
open Go.RowKit
/-- A number of its kind. -/
def Elm.kept (u : Bool) (n : Int) : Int := if u = true then Tens.wide n else Tens.narrow n
end Go.Proofs.YthjnkaikjjjceaaDoor
