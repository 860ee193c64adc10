/-
  The law QuantScales of package lodgelaw4, for any scale. By an AI agent. No person has read it.
-/
import Derived.Test.YtboighnmgnjhdaaDoorQuaS
import Derived.Test.YtboighnmgnjhdaaDoorQuaT
namespace Go.Proofs.YtboighnmgnjhdaaDoor
open Go.RowKit
theorem scaleslaw_c (b : Nat) (hb : b < 18446744073709551616) (z : Int) (x : Nat) (hx : x < 18446744073709551616) (q : Int) (es : List Addr) (w : World) (hE : Ez w es) :
    Calls Tryd.prog 4 #[.float .f64 b, .int .i64 z, .float .f64 x, .int .i64 q] w fun e w' => e = .returned (.bool true) ∧ Below w.heap.size w w' := by
  cases hg : Qua.good b z
  · exact scales_bad b hb z hg x q es w hE
  · exact scales_good b hb z hg x hx q w
end Go.Proofs.YtboighnmgnjhdaaDoor
