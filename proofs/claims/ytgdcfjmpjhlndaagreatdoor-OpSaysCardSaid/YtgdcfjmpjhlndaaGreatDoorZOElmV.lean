/-
  What an operation element by element makes of one element. By an AI agent. No person has read it.
-/
import Derived.Test.YtgdcfjmpjhlndaaGreatDoorZOElmA
import Derived.Test.YtgdcfjmpjhlndaaGreatDoorZOElmQ
namespace Go.Proofs.YtgdcfjmpjhlndaaGreatDoor
open Go.RowKit
def Elm.nargs (op : Int) : Nat := if op = 9 then 2 else if op = 10 then 3 else if op = 11 then 1 else 0
def Elm.nins (op : Int) : Nat := if 4 ≤ op ∧ op ≤ 7 then 2 else 1
def Elm.known (op : Int) : Bool := decide (4 ≤ op ∧ op ≤ 11)
def Elm.val (op : Int) (u : Bool) (x y : Int) (qs : List Int) : Int :=
 if op = 8 then max x 0 else if op = 9 then max (qs.getD 0 0) (min x (qs.getD 1 0)) else if op = 10 then Qua.req x (qs.getD 0 0) (qs.getD 1 0) (qs.getD 2 0) else if op = 11 then IntKind.i64.wrap (x - qs.getD 0 0) else Elm.bin op u x y
theorem ri_one {w : World} {A : Option Addr} {a : Int} {l : List Int} (h : Ri w A (a :: l)) : ∃ ad, A = some ad ∧ ad.block < w.heap.size ∧ w.cell? ad = some (.int .i64 a) := by
 obtain ⟨ad, h1, h2, h3⟩ := h.2 (by simp)
 have := h3 0 a rfl
 rw [Addr.add_zero'] at this
 exact ⟨ad, h1, h2, this⟩
theorem ri_two {w : World} {A : Option Addr} {a b : Int} {l : List Int} (h : Ri w A (a :: b :: l)) : ∃ ad, A = some ad ∧ ad.block < w.heap.size ∧ w.cell? ad = some (.int .i64 a) ∧ w.cell? ⟨ad.block, ad.off + 1, none⟩ = some (.int .i64 b) := by
 obtain ⟨ad, h1, h2, h3⟩ := h.2 (by simp)
 have h4 := h3 0 a rfl
 have h5 := h3 1 b rfl
 rw [Addr.add_zero'] at h4
 exact ⟨ad, h1, h2, h4, by simpa [Addr.add] using h5⟩
theorem ri_three {w : World} {A : Option Addr} {a b c : Int} {l : List Int} (h : Ri w A (a :: b :: c :: l)) : ∃ ad, A = some ad ∧ ad.block < w.heap.size ∧ w.cell? ad = some (.int .i64 a) ∧ w.cell? ⟨ad.block, ad.off + 1, none⟩ = some (.int .i64 b) ∧ w.cell? ⟨ad.block, ad.off + 2, none⟩ = some (.int .i64 c) := by
 obtain ⟨ad, h1, h2, h3⟩ := h.2 (by simp)
 have h4 := h3 0 a rfl
 have h5 := h3 1 b rfl
 have h6 := h3 2 c rfl
 rw [Addr.add_zero'] at h4
 exact ⟨ad, h1, h2, h4, by simpa [Addr.add] using h5, by simpa [Addr.add] using h6⟩
theorem list_three {l : List Int} (h : l.length = 3) : ∃ a b c, l = [a, b, c] := by
 match l, h with
 | [a, b, c], _ => exact ⟨a, b, c, rfl⟩
theorem list_two {l : List Int} (h : l.length = 2) : ∃ a b, l = [a, b] := by
 match l, h with
 | [a, b], _ => exact ⟨a, b, rfl⟩
theorem list_one {l : List Int} (h : l.length = 1) : ∃ a, l = [a] := by
 match l, h with
 | [a], _ => exact ⟨a, rfl⟩
set_option maxRecDepth 100000 in
set_option maxHeartbeats 4000000 in
theorem value_c (op : Int) (ho : 4 ≤ op ∧ op ≤ 11) (u : Bool) (x y : Int) (qs : List Int) (A : Option Addr) (cap : Nat) (w : World) (hl : qs.length = Elm.nargs op) (hr : Ri w A qs) :
  Calls Tryz.prog 128 #[.int .i64 op, .bool u, .int .i64 x, .int .i64 y, .slice A qs.length cap] w fun e w' => e = .returned (.int .i64 (Elm.val op u x y qs)) ∧ ∃ k, w' = w.drewN k := by
 have hc : (op = 4 ∨ op = 5 ∨ op = 6 ∨ op = 7) ∨ op = 8 ∨ op = 9 ∨ op = 10 ∨ op = 11 := by omega
 rcases hc with h | rfl | rfl | rfl | rfl
 ·have e : Elm.val op u x y qs = Elm.bin op u x y := by
   unfold Elm.val
   rw [if_neg (by omega), if_neg (by omega), if_neg (by omega), if_neg (by omega)]
  rw [e]
  refine (value_bin op h u x y A _ cap w).mono fun e w' h => ⟨h.1, 0, ?_⟩
  rw [h.2]
  rfl
 ·have e : Elm.val 8 u x y qs = max x 0 := rfl
  rw [e]
  clear hl hr
  rcases Int.lt_trichotomy x 0 with h | rfl | h
  ·have e : max x 0 = 0 := by omega
   rw [e]
   go_enter Tryz.func128, Tryz.ntmps128
   go_wp2_with fail
   all_goals go_ret
   all_goals exact ⟨by first | rfl | (exfalso; omega), 0, rfl⟩
  ·have e : max (0 : Int) 0 = 0 := by omega
   rw [e]
   go_enter Tryz.func128, Tryz.ntmps128
   go_wp2_with fail
   all_goals go_ret
   all_goals exact ⟨by first | rfl | (exfalso; omega), 0, rfl⟩
  ·have e : max x 0 = x := by omega
   rw [e]
   go_enter Tryz.func128, Tryz.ntmps128
   go_wp2_with fail
   all_goals go_ret
   all_goals exact ⟨by first | rfl | (exfalso; omega), 0, rfl⟩
 ·obtain ⟨a, b, rfl⟩ := list_two hl
  obtain ⟨ad, rfl, -, c0, c1⟩ := ri_two hr
  have e : Elm.val 9 u x y [a, b] = max a (min x b) := rfl
  rw [e]
  clear hl hr e
  obtain ⟨m, hm⟩ : ∃ m, Hid (min x b = m) := ⟨_, hide rfl⟩
  obtain ⟨r, hrr⟩ : ∃ r, Hid (max a m = r) := ⟨_, hide rfl⟩
  have f1 : (if x < b then x else b) = m := by have := hm.out; split <;> omega
  have f2 : (if b < x then b else x) = m := by have := hm.out; split <;> omega
  have f3 : (if m < a then a else m) = r := by have := hrr.out; split <;> omega
  have f4 : (if a < m then m else a) = r := by have := hrr.out; split <;> omega
  rw [hm.out, hrr.out]
  go_enter Tryz.func128, Tryz.ntmps128
  go_wp2_with fail
  go_quiet (fail)
  go_wp2_with fail
  go_ret
  exact ⟨rfl, _, rfl⟩
 ·obtain ⟨a, b, c, rfl⟩ := list_three hl
  obtain ⟨ad, rfl, -, c0, c1, c2⟩ := ri_three hr
  have e : Elm.val 10 u x y [a, b, c] = Qua.req x a b c := rfl
  rw [e]
  have H := hide (fun W => requant_c x a b c W)
  obtain ⟨r, hrr⟩ : ∃ r, Hid (Qua.req x a b c = r) := ⟨_, hide rfl⟩
  rw [hrr.out] at H ⊢
  clear hl hr e hrr
  go_enter Tryz.func128, Tryz.ntmps128
  go_wp2_with fail
  go_quiet ((go_at_call 133; exact Calls.quiet_of ((H.out _).mono fun e w2 h => ⟨h.1, 1, h.2⟩)))
  go_wp2_with fail
  go_ret
  exact ⟨rfl, _, rfl⟩
 ·obtain ⟨a, rfl⟩ := list_one hl
  obtain ⟨ad, rfl, -, c0⟩ := ri_one hr
  have e : Elm.val 11 u x y [a] = IntKind.i64.wrap (x - a) := rfl
  rw [e]
  obtain ⟨s, hs⟩ : ∃ s, IntKind.i64.wrap (x - a) = s := ⟨_, rfl⟩
  rw [hs]
  clear hl hr e
  go_enter Tryz.func128, Tryz.ntmps128
  go_wp2_with fail
  go_ret
  exact ⟨rfl, 0, rfl⟩
set_option maxRecDepth 100000 in
theorem counts_c (op : Int) (w : World) :
  Calls Tryz.prog 117 #[.int .i64 op] w fun e w' => e = .returned (.tuple #[.int .i64 (if Elm.known op = true then (Elm.nins op : Nat) else 0), .int .i64 (Elm.nargs op : Nat), .bool (Elm.known op)]) ∧ w' = w := by
 by_cases h : 4 ≤ op ∧ op ≤ 11
 ·have hc : op = 4 ∨ op = 5 ∨ op = 6 ∨ op = 7 ∨ op = 8 ∨ op = 9 ∨ op = 10 ∨ op = 11 := by omega
  clear h
  rcases hc with rfl | rfl | rfl | rfl | rfl | rfl | rfl | rfl
  all_goals
   go_enter Tryz.func117, Tryz.ntmps117
   go_wp2_with fail
   refine bodyPost_ret (results_three rfl _ _) rfl ?_
   exact ⟨rfl, rfl⟩
 ·have e1 : Elm.known op = false := decide_eq_false h
  have e2 : Elm.nargs op = 0 := by unfold Elm.nargs; rw [if_neg (by omega), if_neg (by omega), if_neg (by omega)]
  rw [e1, e2]
  have n4 : op ≠ 4 := by omega
  have n5 : op ≠ 5 := by omega
  have n6 : op ≠ 6 := by omega
  have n7 : op ≠ 7 := by omega
  have n8 : op ≠ 8 := by omega
  have n9 : op ≠ 9 := by omega
  have n10 : op ≠ 10 := by omega
  have n11 : op ≠ 11 := by omega
  clear h e1 e2
  go_enter Tryz.func117, Tryz.ntmps117
  go_wp2_with fail
  refine bodyPost_ret (results_three rfl _ _) rfl ?_
  exact ⟨rfl, rfl⟩
end Go.Proofs.YtgdcfjmpjhlndaaGreatDoor
