/-
  What the law QuantEdges of package lodgelaw4 calls besides. By an AI agent. No person has read it.
-/
import Derived.Test.YtboighnmgnjhdaaDoorQuaO
import Derived.Test.YtboighnmgnjhdaaDoorQuaMi
import Derived.Test.YtboighnmgnjhdaaDoorFltLd
namespace Go.Proofs.YtboighnmgnjhdaaDoor
open Go.RowKit
open Ieee
set_option maxRecDepth 100000 in
theorem copysign_zero (w : World) : Calls Tryd.prog 45 #[.float .f64 0, .float .f64 13830554455654793216] w fun e w' => e = .returned (.float .f64 9223372036854775808) ∧ w' = w := by
  have hb0 : ∀ w : World, (callFunc 57 #[.float .f64 0]).run Tryd.prog w = .ok (.value (.int .u64 0)) w := run_f64bits 0
  have hb13830554455654793216 : ∀ w : World, (callFunc 57 #[.float .f64 13830554455654793216]).run Tryd.prog w = .ok (.value (.int .u64 13830554455654793216)) w := run_f64bits 13830554455654793216
  have hf9223372036854775808 : ∀ w : World, (callFunc 60 #[.int .u64 9223372036854775808]).run Tryd.prog w = .ok (.value (.float .f64 9223372036854775808)) w := run_f64from 9223372036854775808
  have h1 : bits .andNot .u64 0 9223372036854775808 = 0 := by decide +kernel
  have h2 : bits .and .u64 13830554455654793216 9223372036854775808 = 9223372036854775808 := by decide +kernel
  have h3 : bits .or .u64 0 9223372036854775808 = 9223372036854775808 := by decide +kernel
  go_enter Tryd.func45, Tryd.ntmps45
  go_wp2_with fail
  go_ret
  exact ⟨rfl, rfl⟩
set_option maxRecDepth 100000 in
set_option maxHeartbeats 4000000 in
theorem next_up (w : World) : Calls Tryd.prog 46 #[.float .f64 4742290407621132288, .float .f64 9094988921128908188] w fun e w' => e = .returned (.float .f64 4742290407621132289) ∧ w' = w := by
  have H1 := hide (isnan_c 4742290407621132288 (by decide))
  have H2 := hide (isnan_c 9094988921128908188 (by decide))
  have hb4742290407621132288 : ∀ w : World, (callFunc 57 #[.float .f64 4742290407621132288]).run Tryd.prog w = .ok (.value (.int .u64 4742290407621132288)) w := run_f64bits 4742290407621132288
  have hf4742290407621132289 : ∀ w : World, (callFunc 60 #[.int .u64 4742290407621132289]).run Tryd.prog w = .ok (.value (.float .f64 4742290407621132289)) w := run_f64from 4742290407621132289
  have o1 : FloatKind.f64.format.order 4742290407621132288 9094988921128908188 = some .lt := by decide +kernel
  have o2 : FloatKind.f64.format.order 4742290407621132288 0 = some .gt := by decide +kernel
  have o3 : FloatKind.f64.format.order 9094988921128908188 4742290407621132288 = some .gt := by decide +kernel
  go_enter Tryd.func46, Tryd.ntmps46
  go_wp2_with fail
  refine (H1.out _).mono ?_
  rintro e w1 ⟨rfl, rfl⟩
  go_wp2_with fail
  refine (H2.out _).mono ?_
  rintro e w1 ⟨rfl, rfl⟩
  go_wp2_with fail
  go_ret
  exact ⟨rfl, rfl⟩
set_option maxRecDepth 100000 in
set_option maxHeartbeats 4000000 in
theorem next_down (w : World) : Calls Tryd.prog 46 #[.float .f64 4472074429978902528, .float .f64 0] w fun e w' => e = .returned (.float .f64 4472074429978902527) ∧ w' = w := by
  have H1 := hide (isnan_c 4472074429978902528 (by decide))
  have H2 := hide (isnan_c 0 (by decide))
  have hb4472074429978902528 : ∀ w : World, (callFunc 57 #[.float .f64 4472074429978902528]).run Tryd.prog w = .ok (.value (.int .u64 4472074429978902528)) w := run_f64bits 4472074429978902528
  have hf4472074429978902527 : ∀ w : World, (callFunc 60 #[.int .u64 4472074429978902527]).run Tryd.prog w = .ok (.value (.float .f64 4472074429978902527)) w := run_f64from 4472074429978902527
  have o1 : FloatKind.f64.format.order 4472074429978902528 0 = some .gt := by decide +kernel
  have o3 : FloatKind.f64.format.order 0 4472074429978902528 = some .lt := by decide +kernel
  go_enter Tryd.func46, Tryd.ntmps46
  go_wp2_with fail
  refine (H1.out _).mono ?_
  rintro e w1 ⟨rfl, rfl⟩
  go_wp2_with fail
  refine (H2.out _).mono ?_
  rintro e w1 ⟨rfl, rfl⟩
  go_wp2_with fail
  go_ret
  exact ⟨rfl, rfl⟩
theorem ldexp_up (w : World) : Calls Tryd.prog 44 #[.float .f64 4607182418800017408, .int .i64 30] w fun e w' => e = .returned (.float .f64 4742290407621132288) ∧ w' = w := by
  have h := ldexp_c 4607182418800017408 30 (by decide) (by decide) (by decide) 1053 (by decide) (by decide) (by decide) (by decide) (by decide) w
  rw [show Flt.neg 4607182418800017408 = false by decide, show Flt.frac 4607182418800017408 = 0 by decide, if_neg (by decide)] at h
  exact h
theorem ldexp_down (w : World) : Calls Tryd.prog 44 #[.float .f64 4607182418800017408, .int .i64 (-30)] w fun e w' => e = .returned (.float .f64 4472074429978902528) ∧ w' = w := by
  have h := ldexp_c 4607182418800017408 (-30) (by decide) (by decide) (by decide) 993 (by decide) (by decide) (by decide) (by decide) (by decide) w
  rw [show Flt.neg 4607182418800017408 = false by decide, show Flt.frac 4607182418800017408 = 0 by decide, if_neg (by decide)] at h
  exact h
end Go.Proofs.YtboighnmgnjhdaaDoor
