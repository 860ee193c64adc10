/-
  What the answer of an operation of two looks like: elem.Result. By an AI agent. No person has read it.
-/
import Derived.Test.YtkehdgjdieemkaaDoorElmC
namespace Go.Proofs.YtkehdgjdieemkaaDoor
open Go.RowKit

theorem results_desc {fn : Func} {p u : Tmp} (h : fn.results = #[.cell p 24, .tmp u]) (tmps : Array Value) (w : World) (g : Nat) (x y : Value)
    (hp : tmps.getD p undef = .pointer (some ⟨g, 0, none⟩)) (hg : Has w g 24 [x, y]) : (results fn tmps).run Tryd.prog w = .ok (.tuple #[.agg #[x, y], tmps.getD u undef]) w := by
  rw [results_cell_tmp h, hp]
  have h1 := run_loadVar_row (P := Tryd.prog) w g 24 24 #[x, y] (0, 0) _ hg Tryd.underlying24 rfl (by kernel_rfl)
  simp [asAddr, h1, Result.andThen]
end Go.Proofs.YtkehdgjdieemkaaDoor
