/-
  tens.Wide and tens.Narrow. By an AI agent. No person has read it.
-/
import Derived.Test.YtgdcfjmpjhlndaaDoorBasD
namespace Go.Proofs.YtgdcfjmpjhlndaaDoor
open Go.RowKit

/-- n gone round wide, cut to narrow. -/
def Tens.wide (n : Int) : Int := (n + 2147483648) % 4294967296 - 2147483648
def Tens.narrow (n : Int) : Int := max (-128) (min n 127)
theorem wide_c (n : Int) (w : World) : Calls Tryd.prog 107 #[.int .i64 n] w fun e w' => e = .returned (.int .i64 (Tens.wide n)) ∧ w' = w := by
  have h1 : IntKind.i32.wrap n = Tens.wide n := by rw [IntKind.wrap_i32]; rfl
  have h2 : IntKind.i64.wrap (Tens.wide n) = Tens.wide n := by rw [IntKind.wrap_i64]; unfold Tens.wide; omega
  obtain ⟨q, hq⟩ : ∃ q, Hid (Tens.wide n = q) := ⟨_, hide rfl⟩
  rw [hq.out] at h1 h2 ⊢
  clear hq
  go_enter Tryd.func107, Tryd.ntmps107
  go_wp2_with fail
  go_ret
  exact ⟨rfl, rfl⟩
theorem narrow_c (n : Int) (w : World) : Calls Tryd.prog 86 #[.int .i64 n] w fun e w' => e = .returned (.int .i64 (Tens.narrow n)) ∧ w' = w := by
  by_cases h1 : n < -128
  · have e : Tens.narrow n = -128 := by unfold Tens.narrow; omega
    rw [e]
    go_enter Tryd.func86, Tryd.ntmps86
    go_wp2_with fail
    all_goals go_ret
    all_goals refine ⟨?_, rfl⟩
    all_goals first | rfl | (obtain rfl : n = -128 := (by omega); rfl)
  · by_cases h2 : 127 < n
    · have e : Tens.narrow n = 127 := by unfold Tens.narrow; omega
      rw [e]
      go_enter Tryd.func86, Tryd.ntmps86
      go_wp2_with fail
      all_goals go_ret
      all_goals refine ⟨?_, rfl⟩
      all_goals first | rfl | (obtain rfl : n = -128 := (by omega); rfl)
    · have e : Tens.narrow n = n := by unfold Tens.narrow; omega
      rw [e]
      go_enter Tryd.func86, Tryd.ntmps86
      go_wp2_with fail
      all_goals go_ret
      all_goals refine ⟨?_, rfl⟩
      all_goals first | rfl | (obtain rfl : n = -128 := (by omega); rfl)
end Go.Proofs.YtgdcfjmpjhlndaaDoor
