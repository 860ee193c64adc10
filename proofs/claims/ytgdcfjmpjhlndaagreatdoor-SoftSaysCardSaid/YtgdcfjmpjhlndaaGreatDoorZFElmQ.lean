/-
  Numbers cut to two ends; quant.Requant and the reference's, walked (qua A and D for a seat without floats). By an AI agent. No person has read it.
-/
import Derived.Test.YtgdcfjmpjhlndaaGreatDoorZFTenWn
import Derived.Deep.RegionHeld3
namespace Go.Proofs.YtgdcfjmpjhlndaaGreatDoor
open Go.RowKit
/-- .. cut to two ends, the first going ahead. -/
def Flt.clamp (v a b : Int) : Int := if (if v < b then v else b) < a then a else (if v < b then v else b)
def Flt.cutv (n a b : Int) : Int := if n < a then a else if b < n then b else n
set_option maxRecDepth 100000 in
theorem refcut_c (n a b : Int) (w : World) :
    Calls Tryz.prog 77 #[.int .i64 n, .int .i64 a, .int .i64 b] w fun e w' => e = .returned (.int .i64 (Flt.cutv n a b)) ∧ w' = w := by
  unfold Flt.cutv
  by_cases h1 : n < a
  · rw [if_pos h1]
    go_enter Tryz.func77, Tryz.ntmps77
    go_wp2_with fail
    go_ret
    exact ⟨rfl, rfl⟩
  rw [if_neg h1]
  by_cases h2 : b < n
  · rw [if_pos h2]
    go_enter Tryz.func77, Tryz.ntmps77
    go_wp2_with fail
    go_ret
    exact ⟨rfl, rfl⟩
  · rw [if_neg h2]
    go_enter Tryz.func77, Tryz.ntmps77
    go_wp2_with fail
    go_ret
    exact ⟨rfl, rfl⟩
/-- A product shifted down, rounded half up. -/
def Qua.down (p : Int) (s : Nat) : Int := (if 0 < s then p + 2 ^ (s - 1) else p) / 2 ^ s
def Qua.req (x m s z : Int) : Int := Flt.clamp (Qua.down (Flt.clamp x (-2147483648) 2147483647 * Flt.clamp m 0 2147483647) (Flt.clamp s 0 62).toNat + Flt.clamp z (-128) 127) (-128) 127
end Go.Proofs.YtgdcfjmpjhlndaaGreatDoor
