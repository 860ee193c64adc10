/-
  The least and the greatest of a row. By an AI agent. No person has read it.
-/
import Derived.Test.YtboighnmgnjhdaaDoorFltC
namespace Go.Proofs.YtboighnmgnjhdaaDoor
open Go.RowKit

theorem cmp_neg (a b : Nat) : Flt.cmp a b < 0 ↔ Flt.less a b = true := by
  unfold Flt.cmp
  split
  · rename_i h; simp [h]
  · rename_i h
    split <;> simp [h]
theorem cmp_pos (a b : Nat) : 0 < Flt.cmp a b ↔ Flt.less b a = true := by
  unfold Flt.cmp
  by_cases h : Flt.less a b = true
  · have h2 : Flt.less b a = false := by
      unfold Flt.less at h ⊢
      rw [decide_eq_true_eq] at h
      rw [decide_eq_false_iff_not]
      omega
    rw [if_pos h]
    simp [h2]
  · rw [if_neg h]
    split <;> simp_all

def Flt.least (x : Nat) (xs : List Nat) : Nat := xs.foldl (fun m y => if Flt.less y m = true then y else m) x
theorem least_lt (xs : List Nat) : ∀ x : Nat, x < 18446744073709551616 → (∀ y ∈ xs, y < 18446744073709551616) → Flt.least x xs < 18446744073709551616 := by
  induction xs with
  | nil => intro x h _; exact h
  | cons y ys ih =>
    intro x h hy
    refine ih _ ?_ (fun z hz => hy z (List.mem_cons_of_mem _ hz))
    show (if Flt.less y x = true then y else x) < _
    split
    · exact hy y (List.mem_cons_self ..)
    · exact h
set_option maxRecDepth 100000 in
theorem leastfunc_c (x : Nat) (xs : List Nat) (A : Option Addr) (cap : Nat) (w : World) (hr : Fl w A (x :: xs)) (hl : (x :: xs).length ≤ 1000000) :
    Calls Tryd.prog 59 #[.slice A (x :: xs).length cap, .func (Fn.func 55) #[] #[]] w fun e w' => e = .returned (.float .f64 (Flt.least x xs)) ∧ ∃ q, w' = w.drewN q := by
  obtain ⟨n, hn⟩ : ∃ n, Hid ((x :: xs).length = n) := ⟨_, hide rfl⟩
  have hn0 : 0 < n := by rw [← hn.out]; simp
  rw [hn.out] at hl ⊢
  have HA := hide hr
  obtain ⟨ad, y, rfl, ey, ly, cy⟩ := fl_at hr 0 (by simp)
  have cy0 : w.cell? ad = some (.float .f64 y) := by simpa [Addr.add] using cy
  obtain rfl : x = y := Option.some.inj ey.out
  clear hr ey
  obtain ⟨R, hR⟩ : ∃ R, Hid (Flt.least x xs = R) := ⟨_, hide rfl⟩
  rw [hR.out]
  go_enter Tryd.func59, Tryd.ntmps59
  go_wp2_with fail
  go_loopw [5, 6] (fun m k wr => ∃ (i : Nat) (v : Nat), i + 1 ≤ n ∧ k = .int .i64 ((i : Int) + 1) ∧ m = .float .f64 v ∧ v < 18446744073709551616 ∧ Hid (Flt.least x (xs.take i) = v) ∧ ∃ q, wr = w.drewN q) (fun _ k _ => n - (intOf k).toNat)
  case atStart => exact ⟨0, x, by omega, rfl, rfl, ly, hide rfl, 0, rfl⟩
  case round =>
    obtain ⟨i, v, hi, rfl, rfl, lv, hI, q, rfl⟩ := hrel
    by_cases hlt : i + 1 < n
    · obtain ⟨ad', z, had, ez, lz, cz⟩ := fl_at HA.out (i + 1) (by rw [hn.out]; exact hlt)
      obtain rfl : ad = ad' := Option.some.inj had
      have him : (i : Int) + 1 < n := by omega
      have cz' := cz
      simp only [Addr.add, Nat.add_eq_zero_iff, Nat.one_ne_zero, and_false, if_false] at cz'
      have hs : Hid (Flt.least x (xs.take (i + 1)) = if Flt.less z v = true then z else v) := by
        have ez := ez.out
        rw [List.getElem?_cons_succ] at ez
        refine hide ?_
        unfold Flt.least at hI ⊢
        rw [List.take_add_one, ez, List.foldl_append, hI.out]
        rfl
      have HC := hide (compare_c z v lz lv (w.drewN q))
      have hcm : (Flt.cmp z v < 0) ↔ Flt.less z v = true := cmp_neg z v
      obtain ⟨c, hc⟩ : ∃ c, Hid (Flt.cmp z v = c) := ⟨_, hide rfl⟩
      rw [hc.out] at HC hcm
      have HM := hide hcm
      clear hcm had cy cz
      go_wp2_with fail
      refine HC.out.mono ?_
      rintro e' w2 ⟨rfl, rfl⟩
      by_cases hcc : c < 0
      · have hcd := hcc
        go_wp2_with fail
        go_roundw
        case rel =>
          refine ⟨i + 1, z, by omega, by go_num, rfl, lz, hide ?_, _, rfl⟩
          rw [hs.out, if_pos (HM.out.1 hcd)]
        case measure => simp [intOf]; omega
      · have hcd := hcc
        go_wp2_with fail
        go_roundw
        case rel =>
          refine ⟨i + 1, v, by omega, by go_num, rfl, lv, hide ?_, _, rfl⟩
          rw [hs.out, if_neg (fun h => by have := HM.out.2 h; omega)]
        case measure => simp [intOf]; omega
    · obtain rfl : i + 1 = n := by omega
      go_wp2_with fail
      go_ret
      refine ⟨?_, _, rfl⟩
      have h := hI.out
      have hx : xs.length = i := by have := hn.out; simp at this; omega
      rw [← hx, List.take_length, hR.out] at h
      rw [h]
      rfl

def Flt.most (x : Nat) (xs : List Nat) : Nat := xs.foldl (fun m y => if Flt.less m y = true then y else m) x
theorem most_lt (xs : List Nat) : ∀ x : Nat, x < 18446744073709551616 → (∀ y ∈ xs, y < 18446744073709551616) → Flt.most x xs < 18446744073709551616 := by
  induction xs with
  | nil => intro x h _; exact h
  | cons y ys ih =>
    intro x h hy
    refine ih _ ?_ (fun z hz => hy z (List.mem_cons_of_mem _ hz))
    show (if Flt.less x y = true then y else x) < _
    split
    · exact hy y (List.mem_cons_self ..)
    · exact h
set_option maxRecDepth 100000 in
theorem mostfunc_c (x : Nat) (xs : List Nat) (A : Option Addr) (cap : Nat) (w : World) (hr : Fl w A (x :: xs)) (hl : (x :: xs).length ≤ 1000000) :
    Calls Tryd.prog 61 #[.slice A (x :: xs).length cap, .func (Fn.func 55) #[] #[]] w fun e w' => e = .returned (.float .f64 (Flt.most x xs)) ∧ ∃ q, w' = w.drewN q := by
  obtain ⟨n, hn⟩ : ∃ n, Hid ((x :: xs).length = n) := ⟨_, hide rfl⟩
  have hn0 : 0 < n := by rw [← hn.out]; simp
  rw [hn.out] at hl ⊢
  have HA := hide hr
  obtain ⟨ad, y, rfl, ey, ly, cy⟩ := fl_at hr 0 (by simp)
  have cy0 : w.cell? ad = some (.float .f64 y) := by simpa [Addr.add] using cy
  obtain rfl : x = y := Option.some.inj ey.out
  clear hr ey
  obtain ⟨R, hR⟩ : ∃ R, Hid (Flt.most x xs = R) := ⟨_, hide rfl⟩
  rw [hR.out]
  go_enter Tryd.func61, Tryd.ntmps61
  go_wp2_with fail
  go_loopw [5, 6] (fun m k wr => ∃ (i : Nat) (v : Nat), i + 1 ≤ n ∧ k = .int .i64 ((i : Int) + 1) ∧ m = .float .f64 v ∧ v < 18446744073709551616 ∧ Hid (Flt.most x (xs.take i) = v) ∧ ∃ q, wr = w.drewN q) (fun _ k _ => n - (intOf k).toNat)
  case atStart => exact ⟨0, x, by omega, rfl, rfl, ly, hide rfl, 0, rfl⟩
  case round =>
    obtain ⟨i, v, hi, rfl, rfl, lv, hI, q, rfl⟩ := hrel
    by_cases hlt : i + 1 < n
    · obtain ⟨ad', z, had, ez, lz, cz⟩ := fl_at HA.out (i + 1) (by rw [hn.out]; exact hlt)
      obtain rfl : ad = ad' := Option.some.inj had
      have him : (i : Int) + 1 < n := by omega
      have cz' := cz
      simp only [Addr.add, Nat.add_eq_zero_iff, Nat.one_ne_zero, and_false, if_false] at cz'
      have hs : Hid (Flt.most x (xs.take (i + 1)) = if Flt.less v z = true then z else v) := by
        have ez := ez.out
        rw [List.getElem?_cons_succ] at ez
        refine hide ?_
        unfold Flt.most at hI ⊢
        rw [List.take_add_one, ez, List.foldl_append, hI.out]
        rfl
      have HC := hide (compare_c z v lz lv (w.drewN q))
      have hcm : (Flt.cmp z v > 0) ↔ Flt.less v z = true := cmp_pos z v
      obtain ⟨c, hc⟩ : ∃ c, Hid (Flt.cmp z v = c) := ⟨_, hide rfl⟩
      rw [hc.out] at HC hcm
      have HM := hide hcm
      clear hcm had cy cz
      go_wp2_with fail
      refine HC.out.mono ?_
      rintro e' w2 ⟨rfl, rfl⟩
      by_cases hcc : c > 0
      · have hcd := hcc
        go_wp2_with fail
        go_roundw
        case rel =>
          refine ⟨i + 1, z, by omega, by go_num, rfl, lz, hide ?_, _, rfl⟩
          rw [hs.out, if_pos (HM.out.1 hcd)]
        case measure => simp [intOf]; omega
      · have hcd := hcc
        go_wp2_with fail
        go_roundw
        case rel =>
          refine ⟨i + 1, v, by omega, by go_num, rfl, lv, hide ?_, _, rfl⟩
          rw [hs.out, if_neg (fun h => by have := HM.out.2 h; omega)]
        case measure => simp [intOf]; omega
    · obtain rfl : i + 1 = n := by omega
      go_wp2_with fail
      go_ret
      refine ⟨?_, _, rfl⟩
      have h := hI.out
      have hx : xs.length = i := by have := hn.out; simp at this; omega
      rw [← hx, List.take_length, hR.out] at h
      rw [h]
      rfl

set_option maxRecDepth 100000 in
theorem least_c (x : Nat) (xs : List Nat) (A : Option Addr) (cap : Nat) (w : World) (hr : Fl w A (x :: xs)) (hl : (x :: xs).length ≤ 1000000) :
    Calls Tryd.prog 19 #[.slice A (x :: xs).length cap] w fun e w' => e = .returned (.float .f64 (Flt.least x xs)) ∧ ∃ q, w' = w.drewN q := by
  have H1 := hide (leastfunc_c x xs A cap w hr hl)
  obtain ⟨n, hn⟩ : ∃ n, Hid ((x :: xs).length = n) := ⟨_, hide rfl⟩
  have hn0 : 0 < n := by rw [← hn.out]; simp
  rw [hn.out] at hl H1 ⊢
  obtain ⟨R, hR⟩ : ∃ R, Hid (Flt.least x xs = R) := ⟨_, hide rfl⟩
  rw [hR.out] at H1 ⊢
  go_enter Tryd.func19, Tryd.ntmps19
  go_wp2_with fail
  refine H1.out.mono ?_
  rintro e' w2 ⟨rfl, q, rfl⟩
  go_wp2_with fail
  go_ret
  exact ⟨rfl, _, rfl⟩

set_option maxRecDepth 100000 in
theorem most_c (x : Nat) (xs : List Nat) (A : Option Addr) (cap : Nat) (w : World) (hr : Fl w A (x :: xs)) (hl : (x :: xs).length ≤ 1000000) :
    Calls Tryd.prog 21 #[.slice A (x :: xs).length cap] w fun e w' => e = .returned (.float .f64 (Flt.most x xs)) ∧ ∃ q, w' = w.drewN q := by
  have H1 := hide (mostfunc_c x xs A cap w hr hl)
  obtain ⟨n, hn⟩ : ∃ n, Hid ((x :: xs).length = n) := ⟨_, hide rfl⟩
  have hn0 : 0 < n := by rw [← hn.out]; simp
  rw [hn.out] at hl H1 ⊢
  obtain ⟨R, hR⟩ : ∃ R, Hid (Flt.most x xs = R) := ⟨_, hide rfl⟩
  rw [hR.out] at H1 ⊢
  go_enter Tryd.func21, Tryd.ntmps21
  go_wp2_with fail
  refine H1.out.mono ?_
  rintro e' w2 ⟨rfl, q, rfl⟩
  go_wp2_with fail
  go_ret
  exact ⟨rfl, _, rfl⟩
end Go.Proofs.YtboighnmgnjhdaaDoor
