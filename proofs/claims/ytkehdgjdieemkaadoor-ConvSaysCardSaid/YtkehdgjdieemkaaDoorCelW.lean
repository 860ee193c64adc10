/-
  The reference's numbers of a kind. By an AI agent. No person has read it.
-/
import Derived.Test.YtkehdgjdieemkaaDoorCelU
namespace Go.Proofs.YtkehdgjdieemkaaDoor
open Go.RowKit

theorem rwide_c (n : Int) (w : World) : Calls Tryd.prog 80 #[.int .i64 n] w fun e w' => e = .returned (.int .i64 (Tens.wide n)) ∧ w' = w := by
  obtain ⟨a, ha⟩ : ∃ a, Hid (IntKind.u64.wrap n = a) := ⟨_, hide rfl⟩
  obtain ⟨b, hb⟩ : ∃ b, Hid (IntKind.u32.wrap a = b) := ⟨_, hide rfl⟩
  have h1 := ha.out
  have h2 := hb.out
  have h3 : IntKind.i32.wrap b = Tens.wide n := by
    rw [← h2, ← h1, IntKind.wrap_i32, IntKind.wrap_u32, IntKind.wrap_u64]
    unfold Tens.wide
    omega
  have h4 : IntKind.i64.wrap (Tens.wide n) = Tens.wide n := by rw [IntKind.wrap_i64]; unfold Tens.wide; omega
  obtain ⟨q, hq⟩ : ∃ q, Hid (Tens.wide n = q) := ⟨_, hide rfl⟩
  rw [hq.out] at h3 h4 ⊢
  clear hq ha hb
  go_enter Tryd.func80, Tryd.ntmps80
  go_wp2_with fail
  go_ret
  exact ⟨rfl, rfl⟩
set_option maxRecDepth 100000 in
theorem rkept_c (u : Bool) (n : Int) (w : World) : Calls Tryd.prog 89 #[.int .i64 n, .bool u] w fun e w' => e = .returned (.int .i64 (Elm.kept u n)) ∧ w' = w := by
  have H1 := hide (rwide_c n)
  have H2 := hide (fun W => refclamp_c n (-128) 127 (by decide) W)
  have e0 : Flt.clamp n (-128) 127 = Tens.narrow n := by unfold Flt.clamp Tens.narrow; split <;> split <;> omega
  rw [e0] at H2
  unfold Elm.kept
  obtain ⟨a, ha⟩ : ∃ a, Hid (Tens.wide n = a) := ⟨_, hide rfl⟩
  obtain ⟨b, hb⟩ : ∃ a, Hid (Tens.narrow n = a) := ⟨_, hide rfl⟩
  rw [ha.out] at H1 ⊢
  rw [hb.out] at H2 ⊢
  clear ha hb e0
  cases u
  · go_enter Tryd.func89, Tryd.ntmps89
    go_wp2_with fail
    refine (H2.out _).mono ?_
    rintro e w1 ⟨rfl, rfl⟩
    go_wp2_with fail
    go_ret
    exact ⟨rfl, rfl⟩
  · go_enter Tryd.func89, Tryd.ntmps89
    go_wp2_with fail
    refine (H1.out _).mono ?_
    rintro e w1 ⟨rfl, rfl⟩
    go_wp2_with fail
    go_ret
    exact ⟨rfl, rfl⟩
set_option maxRecDepth 100000 in
set_option maxHeartbeats 4000000 in
theorem rvalue_c (op : Int) (ho : 4 ≤ op ∧ op ≤ 11) (u : Bool) (x y : Int) (qs : List Int) (A : Option Addr) (cap : Nat) (w : World) (hl : qs.length = Elm.nargs op) (hr : Ri w A qs) (hm : Elm.may op u qs = true) :
    Calls Tryd.prog 79 #[.int .i64 op, .bool u, .int .i64 x, .int .i64 y, .slice A qs.length cap] w fun e w' => e = .returned (.int .i64 (Elm.val op u x y qs)) ∧ ∃ k, w' = w.drewN k := by
  have H := hide (fun n => rkept_c u n)
  have hc : op = 4 ∨ op = 5 ∨ op = 6 ∨ op = 7 ∨ op = 8 ∨ op = 9 ∨ op = 10 ∨ op = 11 := by omega
  rcases hc with rfl | rfl | rfl | rfl | rfl | rfl | rfl | rfl
  · have e : Elm.val 4 u x y qs = Elm.kept u (IntKind.i64.wrap (x + y)) := rfl
    rw [e]
    obtain ⟨s, hs⟩ : ∃ s, IntKind.i64.wrap (x + y) = s := ⟨_, rfl⟩
    rw [hs]
    clear hl hr hm e
    go_enter Tryd.func79, Tryd.ntmps79
    go_wp2_with fail
    refine (H.out s _).mono ?_
    rintro e w1 ⟨rfl, rfl⟩
    go_wp2_with fail
    go_ret
    exact ⟨rfl, 0, rfl⟩
  · have e : Elm.val 5 u x y qs = Elm.kept u (IntKind.i64.wrap (x - y)) := rfl
    rw [e]
    obtain ⟨s, hs⟩ : ∃ s, IntKind.i64.wrap (x - y) = s := ⟨_, rfl⟩
    rw [hs]
    clear hl hr hm e
    go_enter Tryd.func79, Tryd.ntmps79
    go_wp2_with fail
    refine (H.out s _).mono ?_
    rintro e w1 ⟨rfl, rfl⟩
    go_wp2_with fail
    go_ret
    exact ⟨rfl, 0, rfl⟩
  · have e : Elm.val 6 u x y qs = Elm.kept u (IntKind.i64.wrap (x * y)) := rfl
    rw [e]
    obtain ⟨s, hs⟩ : ∃ s, IntKind.i64.wrap (x * y) = s := ⟨_, rfl⟩
    rw [hs]
    clear hl hr hm e
    go_enter Tryd.func79, Tryd.ntmps79
    go_wp2_with fail
    refine (H.out s _).mono ?_
    rintro e w1 ⟨rfl, rfl⟩
    go_wp2_with fail
    go_ret
    exact ⟨rfl, 0, rfl⟩
  · have e : Elm.val 7 u x y qs = max x y := rfl
    rw [e]
    clear hl hr hm e H
    obtain ⟨m, hm⟩ : ∃ m, Hid (max x y = m) := ⟨_, hide rfl⟩
    have f1 : (if x < y then y else x) = m := by have := hm.out; split <;> omega
    have f2 : (if y < x then x else y) = m := by have := hm.out; split <;> omega
    rw [hm.out]
    go_enter Tryd.func79, Tryd.ntmps79
    go_wp2_with fail
    go_ret
    exact ⟨rfl, 0, rfl⟩
  · have e : Elm.val 8 u x y qs = max x 0 := rfl
    rw [e]
    clear hl hr hm e H
    obtain ⟨m, hm⟩ : ∃ m, Hid (max x 0 = m) := ⟨_, hide rfl⟩
    have f1 : (if x < 0 then 0 else x) = m := by have := hm.out; split <;> omega
    have f2 : (if 0 < x then x else 0) = m := by have := hm.out; split <;> omega
    rw [hm.out]
    go_enter Tryd.func79, Tryd.ntmps79
    go_wp2_with fail
    go_ret
    exact ⟨rfl, 0, rfl⟩
  · obtain ⟨a, b, rfl⟩ := list_two hl
    obtain ⟨ad, rfl, -, c0, c1⟩ := ri_two hr
    have e : Elm.val 9 u x y [a, b] = max a (min x b) := rfl
    have hab : a ≤ b := by
      have h : (decide (a ≤ b) && Tens.fit u a && Tens.fit u b) = true := hm
      rw [Bool.and_eq_true, Bool.and_eq_true] at h
      exact of_decide_eq_true h.1.1
    have HC := hide (fun W => refclamp_c x a b hab W)
    have e2 : Flt.clamp x a b = max a (min x b) := by unfold Flt.clamp; split <;> split <;> omega
    rw [e, ← e2]
    obtain ⟨m, hm2⟩ : ∃ m, Hid (Flt.clamp x a b = m) := ⟨_, hide rfl⟩
    rw [hm2.out] at HC ⊢
    clear hl hr e hm hab e2 hm2
    go_enter Tryd.func79, Tryd.ntmps79
    go_wp2_with fail
    go_quiet ((go_at_call 84; exact Calls.quiet_of_same (HC.out _)))
    go_wp2_with fail
    go_ret
    exact ⟨rfl, _, rfl⟩
  · obtain ⟨a, b, c, rfl⟩ := list_three hl
    obtain ⟨ad, rfl, -, c0, c1, c2⟩ := ri_three hr
    have e : Elm.val 10 u x y [a, b, c] = Qua.req x a b c := rfl
    rw [e]
    have HC := hide (fun W => rrequant_c x a b c W)
    obtain ⟨r, hrr⟩ : ∃ r, Hid (Qua.req x a b c = r) := ⟨_, hide rfl⟩
    rw [hrr.out] at HC ⊢
    clear hl hr e hrr hm
    go_enter Tryd.func79, Tryd.ntmps79
    go_wp2_with fail
    go_quiet ((go_at_call 90; exact Calls.quiet_of_same (HC.out _)))
    go_wp2_with fail
    go_ret
    exact ⟨rfl, _, rfl⟩
  · obtain ⟨a, rfl⟩ := list_one hl
    obtain ⟨ad, rfl, -, c0⟩ := ri_one hr
    have e : Elm.val 11 u x y [a] = IntKind.i64.wrap (x - a) := rfl
    rw [e]
    obtain ⟨s, hs⟩ : ∃ s, IntKind.i64.wrap (x - a) = s := ⟨_, rfl⟩
    rw [hs]
    clear hl hr e hm
    go_enter Tryd.func79, Tryd.ntmps79
    go_wp2_with fail
    go_ret
    exact ⟨rfl, 0, rfl⟩
end Go.Proofs.YtkehdgjdieemkaaDoor
