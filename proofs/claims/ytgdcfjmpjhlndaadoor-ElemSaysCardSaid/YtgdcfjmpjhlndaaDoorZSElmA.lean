/-
  What an operation makes of one element. By an AI agent. No person has read it.
-/
import Derived.Test.YtgdcfjmpjhlndaaDoorZSTenCard
import Derived.Test.YtgdcfjmpjhlndaaDoorZSShpA
namespace Go.Proofs.YtgdcfjmpjhlndaaDoor
open Go.RowKit
/-- A number of its kind. -/
def Elm.kept (u : Bool) (n : Int) : Int := if u = true then Tens.wide n else Tens.narrow n
/-- Of two elements: add, sub, mul, max. -/
def Elm.bin (op : Int) (u : Bool) (x y : Int) : Int := if op = 4 then Elm.kept u (IntKind.i64.wrap (x + y)) else if op = 5 then Elm.kept u (IntKind.i64.wrap (x - y)) else if op = 6 then Elm.kept u (IntKind.i64.wrap (x * y)) else max x y
set_option maxRecDepth 100000 in
theorem kept_c (u : Bool) (n : Int) (w : World) : Calls Tryd.prog 125 #[.bool u, .int .i64 n] w fun e w' => e = .returned (.int .i64 (Elm.kept u n)) ∧ w' = w := by
  have H1 := hide (wide_c n)
  have H2 := hide (narrow_c n)
  unfold Elm.kept
  obtain ⟨a, ha⟩ : ∃ a, Hid (Tens.wide n = a) := ⟨_, hide rfl⟩
  obtain ⟨b, hb⟩ : ∃ a, Hid (Tens.narrow n = a) := ⟨_, hide rfl⟩
  rw [ha.out] at H1 ⊢
  rw [hb.out] at H2 ⊢
  clear ha hb
  cases u
  · go_enter Tryd.func125, Tryd.ntmps125
    go_wp2_with fail
    refine (H2.out _).mono ?_
    rintro e w1 ⟨rfl, rfl⟩
    go_wp2_with fail
    go_ret
    exact ⟨rfl, rfl⟩
  · go_enter Tryd.func125, Tryd.ntmps125
    go_wp2_with fail
    refine (H1.out _).mono ?_
    rintro e w1 ⟨rfl, rfl⟩
    go_wp2_with fail
    go_ret
    exact ⟨rfl, rfl⟩
set_option maxRecDepth 100000 in
set_option maxHeartbeats 4000000 in
theorem value_bin (op : Int) (ho : op = 4 ∨ op = 5 ∨ op = 6 ∨ op = 7) (u : Bool) (x y : Int) (A : Option Addr) (n cap : Nat) (w : World) :
    Calls Tryd.prog 123 #[.int .i64 op, .bool u, .int .i64 x, .int .i64 y, .slice A n cap] w fun e w' => e = .returned (.int .i64 (Elm.bin op u x y)) ∧ w' = w := by
  have H := hide (fun n => kept_c u n)
  rcases ho with rfl | rfl | rfl | rfl
  · have e : Elm.bin 4 u x y = Elm.kept u (IntKind.i64.wrap (x + y)) := rfl
    rw [e]
    obtain ⟨s, hs⟩ : ∃ s, IntKind.i64.wrap (x + y) = s := ⟨_, rfl⟩
    rw [hs]
    go_enter Tryd.func123, Tryd.ntmps123
    go_wp2_with fail
    refine (H.out s _).mono ?_
    rintro e w1 ⟨rfl, rfl⟩
    go_wp2_with fail
    go_ret
    exact ⟨rfl, rfl⟩
  · have e : Elm.bin 5 u x y = Elm.kept u (IntKind.i64.wrap (x - y)) := rfl
    rw [e]
    obtain ⟨s, hs⟩ : ∃ s, IntKind.i64.wrap (x - y) = s := ⟨_, rfl⟩
    rw [hs]
    go_enter Tryd.func123, Tryd.ntmps123
    go_wp2_with fail
    refine (H.out s _).mono ?_
    rintro e w1 ⟨rfl, rfl⟩
    go_wp2_with fail
    go_ret
    exact ⟨rfl, rfl⟩
  · have e : Elm.bin 6 u x y = Elm.kept u (IntKind.i64.wrap (x * y)) := rfl
    rw [e]
    obtain ⟨s, hs⟩ : ∃ s, IntKind.i64.wrap (x * y) = s := ⟨_, rfl⟩
    rw [hs]
    go_enter Tryd.func123, Tryd.ntmps123
    go_wp2_with fail
    refine (H.out s _).mono ?_
    rintro e w1 ⟨rfl, rfl⟩
    go_wp2_with fail
    go_ret
    exact ⟨rfl, rfl⟩
  · have e : Elm.bin 7 u x y = max x y := rfl
    rw [e]
    clear H
    rcases Int.lt_trichotomy x y with h | rfl | h
    · have e : max x y = y := by omega
      rw [e]
      go_enter Tryd.func123, Tryd.ntmps123
      go_wp2_with fail
      all_goals go_ret
      all_goals exact ⟨by first | rfl | (exfalso; omega), rfl⟩
    · have e : max x x = x := by omega
      rw [e]
      go_enter Tryd.func123, Tryd.ntmps123
      go_wp2_with fail
      all_goals go_ret
      all_goals exact ⟨by first | rfl | (exfalso; omega), rfl⟩
    · have e : max x y = x := by omega
      rw [e]
      go_enter Tryd.func123, Tryd.ntmps123
      go_wp2_with fail
      all_goals go_ret
      all_goals exact ⟨by first | rfl | (exfalso; omega), rfl⟩
theorem results_three {fn : Func} {p u x : Tmp} (h : fn.results = #[.tmp p, .tmp u, .tmp x]) (tmps : Array Value) (w : World) : (results fn tmps).run Tryd.prog w = .ok (.tuple #[tmps.getD p undef, tmps.getD u undef, tmps.getD x undef]) w := by
  simp [results, h]
end Go.Proofs.YtgdcfjmpjhlndaaDoor
