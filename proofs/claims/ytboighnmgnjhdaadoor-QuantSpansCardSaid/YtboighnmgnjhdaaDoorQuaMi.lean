/-
  math.NaN and math.Inf. By an AI agent. No person has read it.
-/
import Derived.Test.YtboighnmgnjhdaaDoorFltK
namespace Go.Proofs.YtboighnmgnjhdaaDoor
open Go.RowKit
set_option maxRecDepth 100000 in
theorem mathnan_c (w : World) : Calls Tryd.prog 20 #[] w fun e w' => e = .returned (.float .f64 9221120237041090561) ∧ w' = w := by
  have hff : ∀ w : World, (callFunc 60 #[.int .u64 9221120237041090561]).run Tryd.prog w = .ok (.value (.float .f64 9221120237041090561)) w := run_f64from 9221120237041090561
  go_enter Tryd.func20, Tryd.ntmps20
  go_wp2_with fail
  go_ret
  exact ⟨rfl, rfl⟩
set_option maxRecDepth 100000 in
theorem mathinf_p (w : World) : Calls Tryd.prog 31 #[.int .i64 1] w fun e w' => e = .returned (.float .f64 9218868437227405312) ∧ w' = w := by
  have hff : ∀ w : World, (callFunc 60 #[.int .u64 9218868437227405312]).run Tryd.prog w = .ok (.value (.float .f64 9218868437227405312)) w := run_f64from 9218868437227405312
  go_enter Tryd.func31, Tryd.ntmps31
  go_wp2_with fail
  go_ret
  exact ⟨rfl, rfl⟩
set_option maxRecDepth 100000 in
theorem mathinf_m (w : World) : Calls Tryd.prog 31 #[.int .i64 (-1)] w fun e w' => e = .returned (.float .f64 18442240474082181120) ∧ w' = w := by
  have hff : ∀ w : World, (callFunc 60 #[.int .u64 18442240474082181120]).run Tryd.prog w = .ok (.value (.float .f64 18442240474082181120)) w := run_f64from 18442240474082181120
  go_enter Tryd.func31, Tryd.ntmps31
  go_wp2_with fail
  go_ret
  exact ⟨rfl, rfl⟩
end Go.Proofs.YtboighnmgnjhdaaDoor
