/-
  The reference's value of an element; elem.Value of any op. By an AI agent. No person has read it.
-/
import Derived.Test.YtbnaaomkndbpoaaDoorElmU
namespace Go.Proofs.YtbnaaomkndbpoaaDoor
open Go.RowKit

theorem rwide_c (n : Int) (w : World) : Calls Tryd.prog 76 #[.int .i64 n] w fun e w' => e = .returned (.int .i64 (Tens.wide n)) ∧ w' = w := by
  obtain ⟨a, ha⟩ : ∃ a, Hid (IntKind.u64.wrap n = a) := ⟨_, hide rfl⟩
  obtain ⟨b, hb⟩ : ∃ b, Hid (IntKind.u32.wrap a = b) := ⟨_, hide rfl⟩
  have h1 := ha.out
  have h2 := hb.out
  have h3 : IntKind.i32.wrap b = Tens.wide n := by
    rw [← h2, ← h1, IntKind.wrap_i32, IntKind.wrap_u32, IntKind.wrap_u64]
    unfold Tens.wide
    omega
  have h4 : IntKind.i64.wrap (Tens.wide n) = Tens.wide n := by rw [IntKind.wrap_i64]; unfold Tens.wide; omega
  obtain ⟨q, hq⟩ : ∃ q, Hid (Tens.wide n = q) := ⟨_, hide rfl⟩
  rw [hq.out] at h3 h4 ⊢
  clear hq ha hb
  go_enter Tryd.func76, Tryd.ntmps76
  go_wp2_with fail
  go_ret
  exact ⟨rfl, rfl⟩
set_option maxRecDepth 100000 in
theorem rkept_c (u : Bool) (n : Int) (w : World) : Calls Tryd.prog 55 #[.int .i64 n, .bool u] w fun e w' => e = .returned (.int .i64 (Elm.kept u n)) ∧ w' = w := by
  have H1 := hide (rwide_c n)
  have H2 := hide (fun W => refclamp_c n (-128) 127 (by decide) W)
  have e0 : Flt.clamp n (-128) 127 = Tens.narrow n := by unfold Flt.clamp Tens.narrow; split <;> split <;> omega
  rw [e0] at H2
  unfold Elm.kept
  obtain ⟨a, ha⟩ : ∃ a, Hid (Tens.wide n = a) := ⟨_, hide rfl⟩
  obtain ⟨b, hb⟩ : ∃ a, Hid (Tens.narrow n = a) := ⟨_, hide rfl⟩
  rw [ha.out] at H1 ⊢
  rw [hb.out] at H2 ⊢
  clear ha hb e0
  cases u
  · go_enter Tryd.func55, Tryd.ntmps55
    go_wp2_with fail
    refine (H2.out _).mono ?_
    rintro e w1 ⟨rfl, rfl⟩
    go_wp2_with fail
    go_ret
    exact ⟨rfl, rfl⟩
  · go_enter Tryd.func55, Tryd.ntmps55
    go_wp2_with fail
    refine (H1.out _).mono ?_
    rintro e w1 ⟨rfl, rfl⟩
    go_wp2_with fail
    go_ret
    exact ⟨rfl, rfl⟩
set_option maxRecDepth 100000 in
set_option maxHeartbeats 4000000 in
theorem rvalue_c (op : Int) (ho : 4 ≤ op ∧ op ≤ 11) (u : Bool) (x y : Int) (qs : List Int) (A : Option Addr) (cap : Nat) (w : World) (hl : qs.length = Elm.nargs op) (hr : Ri w A qs) (hm : Elm.may op u qs = true) :
    Calls Tryd.prog 25 #[.int .i64 op, .bool u, .int .i64 x, .int .i64 y, .slice A qs.length cap] w fun e w' => e = .returned (.int .i64 (Elm.val op u x y qs)) ∧ ∃ k, w' = w.drewN k := by
  have H := hide (fun n => rkept_c u n)
  have hc : op = 4 ∨ op = 5 ∨ op = 6 ∨ op = 7 ∨ op = 8 ∨ op = 9 ∨ op = 10 ∨ op = 11 := by omega
  rcases hc with rfl | rfl | rfl | rfl | rfl | rfl | rfl | rfl
  · have e : Elm.val 4 u x y qs = Elm.kept u (IntKind.i64.wrap (x + y)) := rfl
    rw [e]
    obtain ⟨s, hs⟩ : ∃ s, IntKind.i64.wrap (x + y) = s := ⟨_, rfl⟩
    rw [hs]
    clear hl hr hm e
    go_enter Tryd.func25, Tryd.ntmps25
    go_wp2_with fail
    refine (H.out s _).mono ?_
    rintro e w1 ⟨rfl, rfl⟩
    go_wp2_with fail
    go_ret
    exact ⟨rfl, 0, rfl⟩
  · have e : Elm.val 5 u x y qs = Elm.kept u (IntKind.i64.wrap (x - y)) := rfl
    rw [e]
    obtain ⟨s, hs⟩ : ∃ s, IntKind.i64.wrap (x - y) = s := ⟨_, rfl⟩
    rw [hs]
    clear hl hr hm e
    go_enter Tryd.func25, Tryd.ntmps25
    go_wp2_with fail
    refine (H.out s _).mono ?_
    rintro e w1 ⟨rfl, rfl⟩
    go_wp2_with fail
    go_ret
    exact ⟨rfl, 0, rfl⟩
  · have e : Elm.val 6 u x y qs = Elm.kept u (IntKind.i64.wrap (x * y)) := rfl
    rw [e]
    obtain ⟨s, hs⟩ : ∃ s, IntKind.i64.wrap (x * y) = s := ⟨_, rfl⟩
    rw [hs]
    clear hl hr hm e
    go_enter Tryd.func25, Tryd.ntmps25
    go_wp2_with fail
    refine (H.out s _).mono ?_
    rintro e w1 ⟨rfl, rfl⟩
    go_wp2_with fail
    go_ret
    exact ⟨rfl, 0, rfl⟩
  · have e : Elm.val 7 u x y qs = max x y := rfl
    rw [e]
    clear hl hr hm e H
    obtain ⟨m, hm⟩ : ∃ m, Hid (max x y = m) := ⟨_, hide rfl⟩
    have f1 : (if x < y then y else x) = m := by have := hm.out; split <;> omega
    have f2 : (if y < x then x else y) = m := by have := hm.out; split <;> omega
    rw [hm.out]
    go_enter Tryd.func25, Tryd.ntmps25
    go_wp2_with fail
    go_ret
    exact ⟨rfl, 0, rfl⟩
  · have e : Elm.val 8 u x y qs = max x 0 := rfl
    rw [e]
    clear hl hr hm e H
    obtain ⟨m, hm⟩ : ∃ m, Hid (max x 0 = m) := ⟨_, hide rfl⟩
    have f1 : (if x < 0 then 0 else x) = m := by have := hm.out; split <;> omega
    have f2 : (if 0 < x then x else 0) = m := by have := hm.out; split <;> omega
    rw [hm.out]
    go_enter Tryd.func25, Tryd.ntmps25
    go_wp2_with fail
    go_ret
    exact ⟨rfl, 0, rfl⟩
  · obtain ⟨a, b, rfl⟩ := list_two hl
    obtain ⟨ad, rfl, -, c0, c1⟩ := ri_two hr
    have e : Elm.val 9 u x y [a, b] = max a (min x b) := rfl
    have hab : a ≤ b := by
      have h : (decide (a ≤ b) && Tens.fit u a && Tens.fit u b) = true := hm
      rw [Bool.and_eq_true, Bool.and_eq_true] at h
      exact of_decide_eq_true h.1.1
    have HC := hide (fun W => refclamp_c x a b hab W)
    have e2 : Flt.clamp x a b = max a (min x b) := by unfold Flt.clamp; split <;> split <;> omega
    rw [e, ← e2]
    obtain ⟨m, hm2⟩ : ∃ m, Hid (Flt.clamp x a b = m) := ⟨_, hide rfl⟩
    rw [hm2.out] at HC ⊢
    clear hl hr e hm hab e2 hm2
    go_enter Tryd.func25, Tryd.ntmps25
    go_wp2_with fail
    go_quiet ((go_at_call 56; exact Calls.quiet_of_same (HC.out _)))
    go_wp2_with fail
    go_ret
    exact ⟨rfl, _, rfl⟩
  · obtain ⟨a, b, c, rfl⟩ := list_three hl
    obtain ⟨ad, rfl, -, c0, c1, c2⟩ := ri_three hr
    have e : Elm.val 10 u x y [a, b, c] = Qua.req x a b c := rfl
    rw [e]
    have HC := hide (fun W => rrequant_c x a b c W)
    obtain ⟨r, hrr⟩ : ∃ r, Hid (Qua.req x a b c = r) := ⟨_, hide rfl⟩
    rw [hrr.out] at HC ⊢
    clear hl hr e hrr hm
    go_enter Tryd.func25, Tryd.ntmps25
    go_wp2_with fail
    go_quiet ((go_at_call 57; exact Calls.quiet_of_same (HC.out _)))
    go_wp2_with fail
    go_ret
    exact ⟨rfl, _, rfl⟩
  · obtain ⟨a, rfl⟩ := list_one hl
    obtain ⟨ad, rfl, -, c0⟩ := ri_one hr
    have e : Elm.val 11 u x y [a] = IntKind.i64.wrap (x - a) := rfl
    rw [e]
    obtain ⟨s, hs⟩ : ∃ s, IntKind.i64.wrap (x - a) = s := ⟨_, rfl⟩
    rw [hs]
    clear hl hr e hm
    go_enter Tryd.func25, Tryd.ntmps25
    go_wp2_with fail
    go_ret
    exact ⟨rfl, 0, rfl⟩
set_option maxRecDepth 100000 in
set_option maxHeartbeats 4000000 in
theorem evalue_c (op : Int) (ho : 4 ≤ op ∧ op ≤ 11) (u : Bool) (x y : Int) (qs : List Int) (A : Option Addr) (cap : Nat) (w : World) (hl : qs.length = Elm.nargs op) (hr : Ri w A qs) :
    Calls Tryd.prog 24 #[.int .i64 op, .bool u, .int .i64 x, .int .i64 y, .slice A qs.length cap] w fun e w' => e = .returned (.int .i64 (Elm.val op u x y qs)) ∧ ∃ k, w' = w.drewN k := by
  have H1 := hide (counts_c op)
  have hkn : Elm.known op = true := decide_eq_true ho
  rw [hkn, if_pos rfl] at H1
  have H2 := hide (value_c op ho u x y qs A cap w hl hr)
  obtain ⟨v, hv⟩ : ∃ v, Hid (Elm.val op u x y qs = v) := ⟨_, hide rfl⟩
  obtain ⟨ni, hni⟩ : ∃ v, Hid (Elm.nins op = v) := ⟨_, hide rfl⟩
  obtain ⟨nq, hnq⟩ : ∃ v, Hid (qs.length = v) := ⟨_, hide rfl⟩
  rw [← hl, hni.out, hnq.out] at H1
  rw [hv.out, hnq.out] at H2
  rw [hv.out, hnq.out]
  clear hl hr hkn hv hni hnq ho
  go_enter Tryd.func24, Tryd.ntmps24
  go_wp2_with fail
  refine (H1.out _).mono ?_
  rintro e w1 ⟨rfl, rfl⟩
  go_wp2_with fail
  refine H2.out.mono ?_
  rintro e w1 ⟨rfl, k, rfl⟩
  go_wp2_with fail
  go_ret
  exact ⟨rfl, k, rfl⟩
set_option maxRecDepth 100000 in
theorem evalue_none (op : Int) (ho : ¬ (4 ≤ op ∧ op ≤ 11)) (u : Bool) (x y : Int) (A : Option Addr) (n cap : Nat) (w : World) :
    Calls Tryd.prog 24 #[.int .i64 op, .bool u, .int .i64 x, .int .i64 y, .slice A n cap] w fun e w' => e = .returned (.int .i64 0) ∧ w' = w := by
  have H1 := hide (counts_c op)
  have hkn : Elm.known op = false := decide_eq_false ho
  rw [hkn, if_neg (by decide)] at H1
  obtain ⟨nq, hnq⟩ : ∃ v, Hid (Elm.nargs op = v) := ⟨_, hide rfl⟩
  rw [hnq.out] at H1
  clear hkn hnq ho
  go_enter Tryd.func24, Tryd.ntmps24
  go_wp2_with fail
  refine (H1.out _).mono ?_
  rintro e w1 ⟨rfl, rfl⟩
  go_wp2_with fail
  go_ret
  exact ⟨rfl, rfl⟩
/-- One element that fits is a tensor without dimensions. -/
theorem one_fine (u : Bool) (x : Int) (h : Tens.fit u x = true) : Tens.fault [] u [x] = (0, none) :=
  Tens.fault_none [] u [x] (by decide) (by rfl) (fun j y hy => by
    cases j with
    | zero => cases hy; exact h
    | succ j => simp at hy)
theorem Elm.val_one (op : Int) (ho : 8 ≤ op ∧ op ≤ 11) (u : Bool) (x y z : Int) (qs : List Int) : Elm.val op u x y qs = Elm.val op u x z qs := by
  have hc : op = 8 ∨ op = 9 ∨ op = 10 ∨ op = 11 := by omega
  rcases hc with rfl | rfl | rfl | rfl
  all_goals rfl
/-- Such an operation of one element. -/
theorem Elm.single_two (op : Int) (ho : 4 ≤ op ∧ op ≤ 7) (u : Bool) (x y : Int) (hx : Tens.fit u x = true) (hy : Tens.fit u y = true) (D E : Option Addr) :
    Elm.fault op [] [⟨none, [], 0, u, D, [x], 1⟩, ⟨none, [], 0, u, E, [y], 1⟩] = (0, none) ∧ Elm.ods op [] [⟨none, [], 0, u, D, [x], 1⟩, ⟨none, [], 0, u, E, [y], 1⟩] = [Elm.val op u x y []] := by
  have h1 : Tens.first [⟨none, [], 0, u, D, [x], 1⟩, ⟨none, [], 0, u, E, [y], 1⟩] = (0, none) := Tens.first_none _ (fun j t ht => by
    match j, ht with
    | 0, ht => cases ht; exact one_fine u x hx
    | 1, ht => cases ht; exact one_fine u y hy)
  have h2 : Elm.code op [] [⟨none, [], 0, u⟩, ⟨none, [], 0, u⟩] = 0 := by
    have hc : op = 4 ∨ op = 5 ∨ op = 6 ∨ op = 7 := by omega
    rcases hc with rfl | rfl | rfl | rfl
    all_goals cases u <;> rfl
  have h3 : Elm.fault op [] [⟨none, [], 0, u, D, [x], 1⟩, ⟨none, [], 0, u, E, [y], 1⟩] = (0, none) := by
    unfold Elm.fault
    rw [if_pos h1]
    exact congrArg (fun k => (k, none)) h2
  refine ⟨h3, ?_⟩
  unfold Elm.ods
  rw [if_pos h3]
  rfl
theorem Elm.single_one (op : Int) (ho : 8 ≤ op ∧ op ≤ 11) (u : Bool) (x y : Int) (qs : List Int) (hx : Tens.fit u x = true) (hq : qs.length = Elm.nargs op) (hm : Elm.may op u qs = true) (h10 : op = 10 → u = true) (h11 : op = 11 → u = false) (D : Option Addr) :
    Elm.fault op qs [⟨none, [], 0, u, D, [x], 1⟩] = (0, none) ∧ Elm.ods op qs [⟨none, [], 0, u, D, [x], 1⟩] = [Elm.val op u x y qs] := by
  have h1 : Tens.first [⟨none, [], 0, u, D, [x], 1⟩] = (0, none) := Tens.first_none _ (fun j t ht => by
    match j, ht with
    | 0, ht => cases ht; exact one_fine u x hx)
  have hk : Elm.known op = true := decide_eq_true (by omega)
  have hn : Elm.nins op = 1 := by unfold Elm.nins; rw [if_neg (by omega)]
  have hal : Elm.alike op [⟨none, [], 0, u⟩] = true := by
    have e : Elm.alike op [⟨none, [], 0, u⟩] = if op = 10 then u else if op = 11 then !u else true := rfl
    rw [e]
    by_cases h : op = 10
    · rw [if_pos h]; exact h10 h
    · rw [if_neg h]
      by_cases h' : op = 11
      · rw [if_pos h', h11 h']; rfl
      · rw [if_neg h']
  have h2 : Elm.code op qs [⟨none, [], 0, u⟩] = 0 := by
    unfold Elm.code
    rw [if_neg (by rw [hk]; decide), if_neg (by rw [hn, hq]; simp), if_neg (fun h => h (rfl : Shp.firstbad [⟨none, [], 0, u⟩] = 0)), if_neg (by rw [hal]; decide), if_neg (by
      have : Elm.may op ((List.head? [(⟨none, [], 0, u⟩ : Dsc)]).map (·.u) |>.getD false) qs = Elm.may op u qs := rfl
      rw [this, hm]
      decide)]
  have h3 : Elm.fault op qs [⟨none, [], 0, u, D, [x], 1⟩] = (0, none) := by
    unfold Elm.fault
    rw [if_pos h1]
    exact congrArg (fun k => (k, none)) h2
  refine ⟨h3, ?_⟩
  unfold Elm.ods
  rw [if_pos h3]
  show [Elm.val op u x x qs] = [Elm.val op u x y qs]
  rw [Elm.val_one op ho u x x y qs]
end Go.Proofs.YtbnaaomkndbpoaaDoor
