/-
  tens.Wide and tens.Narrow. By an AI agent. No person has read it.
-/
import Derived.Test.YtgdcfjmpjhlndaaGreatDoorZFBasD
import Derived.Test.YtgdcfjmpjhlndaaGreatDoorZFShpA
namespace Go.Proofs.YtgdcfjmpjhlndaaGreatDoor
open Go.RowKit
/-- n gone round wide, cut to narrow. -/
def Tens.wide (n : Int) : Int := (n + 2147483648) % 4294967296 - 2147483648
def Tens.narrow (n : Int) : Int := max (-128) (min n 127)
theorem wide_c (n : Int) (w : World) : Calls Tryz.prog 121 #[.int .i64 n] w fun e w' => e = .returned (.int .i64 (Tens.wide n)) ∧ w' = w := by
  have h1 : IntKind.i32.wrap n = Tens.wide n := by rw [IntKind.wrap_i32]; rfl
  have h2 : IntKind.i64.wrap (Tens.wide n) = Tens.wide n := by rw [IntKind.wrap_i64]; unfold Tens.wide; omega
  obtain ⟨q, hq⟩ : ∃ q, Hid (Tens.wide n = q) := ⟨_, hide rfl⟩
  rw [hq.out] at h1 h2 ⊢
  clear hq
  go_enter Tryz.func121, Tryz.ntmps121
  go_wp2_with fail
  go_ret
  exact ⟨rfl, rfl⟩
end Go.Proofs.YtgdcfjmpjhlndaaGreatDoor
namespace Go.Proofs.YtgdcfjmpjhlndaaGreatDoor
open Go.RowKit
/-- A number of its kind. -/
def Elm.kept (u : Bool) (n : Int) : Int := if u = true then Tens.wide n else Tens.narrow n
/-- Of two elements: add, sub, mul, max. -/
def Elm.bin (op : Int) (u : Bool) (x y : Int) : Int := if op = 4 then Elm.kept u (IntKind.i64.wrap (x + y)) else if op = 5 then Elm.kept u (IntKind.i64.wrap (x - y)) else if op = 6 then Elm.kept u (IntKind.i64.wrap (x * y)) else max x y
end Go.Proofs.YtgdcfjmpjhlndaaGreatDoor
