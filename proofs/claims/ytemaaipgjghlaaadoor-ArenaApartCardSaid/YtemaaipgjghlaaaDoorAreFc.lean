/-
  lodgelaw13.first, walked. By an AI agent. No person has read it.
-/
import Derived.Test.YtemaaipgjghlaaaDoorAreFb
namespace Go.Proofs.YtemaaipgjghlaaaDoor
open Go.RowKit

set_option maxRecDepth 100000 in
set_option maxHeartbeats 4000000 in
theorem first13_c (w : World) : Calls Tryd.prog 7 #[] w fun e w' => e = .returned (.bool true) ∧ Below w.heap.size w w' := by
  go_enter Tryd.func7, Tryd.ntmps7
  go_wp2_with fail
  refine (fnew 100 (by decide) (by decide) w).mono ?_
  rintro e w1 ⟨a, rfl, hI, hb⟩
  have HI1 := hide hI
  have HB1 := hide hb
  clear hI hb
  go_wp2_with fail
  refine (fadd_ok 1 50 0 0 HI1.out (by decide) (by decide) rfl (by decide)).mono ?_
  rintro e w2 ⟨rfl, hI, hT⟩
  have HB2 := hide (HB1.out.trans hT.below)
  have HB3 := hide (HB2.out.alloc HB2.out.size (.cells #[.int .i64 1, .int .i64 0, .int .i64 50] 30))
  have HI3 := hide (hI.below ((Below.refl w2.heap.size w2).alloc (Nat.le_refl _) (.cells #[.int .i64 1, .int .i64 0, .int .i64 50] 30))).1
  clear hI hT HB1 HI1
  go_wp2_with fail
  refine (ftake_ok 1 4 0 0 0 _ HI3.out rfl rfl (by decide) (by decide) rfl).mono ?_
  rintro e w4 ⟨rfl, hI, hT⟩
  have HI4 := hide hI
  have HB4 := hide (HB3.out.trans hT.below)
  clear hI hT HB3 HI3 HB2
  go_wp2_with fail
  refine (ftake_ok 1 4 4 1 0 _ HI4.out rfl rfl (by decide) (by decide) rfl).mono ?_
  rintro e w5 ⟨rfl, hI, hT⟩
  have HI5 := hide hI
  have HB5 := hide (HB4.out.trans hT.below)
  clear hI hT HB4 HI4
  go_wp2_with fail
  refine (fdrop 1 0 4 0 0 _ HI5.out rfl rfl (by decide) rfl rfl).mono ?_
  rintro e w6 ⟨rfl, hI, hT⟩
  have HI6 := hide hI
  have HB6 := hide (HB5.out.trans hT.below)
  clear hI hT HB5 HI5
  go_wp2_with fail
  refine (ftake_ok 1 2 0 0 0 _ HI6.out rfl rfl (by decide) (by decide) rfl).mono ?_
  rintro e w7 ⟨rfl, hI, hT⟩
  have HB7 := hide (HB6.out.trans hT.below)
  clear hI hT HB6 HI6
  go_wp2_with fail
  go_ret
  exact ⟨rfl, HB7.out⟩
end Go.Proofs.YtemaaipgjghlaaaDoor
