/-
  flt.Whole and the reference's, walked. By an AI agent. No person has read it.
-/
import Derived.Test.YtboighnmgnjhdaaDoorFltV
import Derived.Test.YtboighnmgnjhdaaDoorFltO
namespace Go.Proofs.YtboighnmgnjhdaaDoor
open Go.RowKit

theorem wv_nan {r : Nat} (h : Flt.nanb r = true) : Flt.wv r = 0 := by unfold Flt.wv; rw [if_pos h]
theorem wv_far {r : Nat} (h : Flt.nanb r = false) (o : Ieee.double.order r 4890909195324358656 = some .gt ∨ Ieee.double.order r 4890909195324358656 = some .eq) : Flt.wv r = 9223372036854775807 := by
  unfold Flt.wv
  rw [if_neg (by rw [h]; decide)]
  rcases o with o | o <;> rw [o] <;> rfl
theorem wv_low {r : Nat} (h : Flt.nanb r = false) (o : Ieee.double.order r 4890909195324358656 = some .lt) (o2 : Ieee.double.order r 14114281232179134464 = some .lt) : Flt.wv r = -9223372036854775808 := by
  unfold Flt.wv
  rw [if_neg (by rw [h]; decide), if_pos o, if_pos o2]
theorem wv_mid {r : Nat} {n : Int} {c : Ordering} (h : Flt.nanb r = false) (o : Ieee.double.order r 4890909195324358656 = some .lt) (o2 : Ieee.double.order r 14114281232179134464 = some c) (hc : c ≠ .lt) (hn : floatToIntVal .f64 r .i64 = some n) : Flt.wv r = n := by
  unfold Flt.wv
  rw [if_neg (by rw [h]; decide), if_pos o, if_neg (by rw [o2]; simpa using hc), hn]
  rfl
theorem convert_c {r : Nat} {n : Int} (h : floatToIntVal .f64 r .i64 = some n) (w : World) : (convert 27 3 (.float .f64 r)).run Tryd.prog w = .ok (.int .i64 n) w :=
  run_convert_float_int (P := Tryd.prog) w 27 3 .f64 .i64 r n (by kernel_rfl) (by kernel_rfl) h

set_option maxRecDepth 100000 in
theorem whole_c (r : Nat) (hr : r < 18446744073709551616) (w : World) :
    Calls Tryd.prog 92 #[.float .f64 r] w fun e w' => e = .returned (.int .i64 (Flt.wv r)) ∧ w' = w := by
  cases hn : Flt.nanb r
  · have ho := order_num' hn
    rcases Flt.wv_cases r hr hn with ⟨o1 | o1, -, -⟩ | ⟨o1, o2, -⟩ | ⟨n, o, o9, p9, o1, o2, hc, -, -, hv, -, -⟩
    · rw [wv_far hn (.inl o1)]
      have o1' : FloatKind.f64.format.order r 4890909195324358656 = some .gt := o1
      clear hn
      go_enter Tryd.func92, Tryd.ntmps92
      go_wp2_with fail
      go_ret
      exact ⟨rfl, rfl⟩
    · rw [wv_far hn (.inr o1)]
      have o1' : FloatKind.f64.format.order r 4890909195324358656 = some .eq := o1
      clear hn
      go_enter Tryd.func92, Tryd.ntmps92
      go_wp2_with fail
      go_ret
      exact ⟨rfl, rfl⟩
    · rw [wv_low hn o1 o2]
      have o1' : FloatKind.f64.format.order r 4890909195324358656 = some .lt := o1
      have o2' : FloatKind.f64.format.order r 14114281232179134464 = some .lt := o2
      clear hn
      go_enter Tryd.func92, Tryd.ntmps92
      go_wp2_with fail
      go_ret
      exact ⟨rfl, rfl⟩
    · rw [wv_mid hn o1 o2 hc hv]
      have o1' : FloatKind.f64.format.order r 4890909195324358656 = some .lt := o1
      have o2' : FloatKind.f64.format.order r 14114281232179134464 = some o := o2
      have hcv := convert_c hv
      clear hn
      cases o
      · exact absurd rfl hc
      all_goals
        go_enter Tryd.func92, Tryd.ntmps92
        go_wp2_with fail
        go_ret
        exact ⟨rfl, rfl⟩
  · have ho := order_nan hn
    rw [wv_nan hn]
    clear hn
    go_enter Tryd.func92, Tryd.ntmps92
    go_wp2_with fail
    go_ret
    exact ⟨rfl, rfl⟩

theorem round_lt (b : Nat) (hb : b < 18446744073709551616) : Flt.round b < 18446744073709551616 := by
  rw [round_rround b hb]
  exact Flt.rround_lt b hb
set_option maxRecDepth 100000 in
theorem wholeof_c (x : Nat) (hx : x < 18446744073709551616) (a b : Int) (w : World) :
    Calls Tryd.prog 67 #[.float .f64 x, .int .i64 a, .int .i64 b] w fun e w' => e = .returned (.int .i64 (Flt.clamp (Flt.wv (Flt.round x)) a b)) ∧ w' = w := by
  have H1 := hide (round_c x hx w)
  have H2 := hide (whole_c (Flt.round x) (round_lt x hx) w)
  obtain ⟨r, hr⟩ : ∃ r, Hid (Flt.round x = r) := ⟨_, hide rfl⟩
  rw [hr.out] at H1 H2 ⊢
  obtain ⟨v, hv⟩ : ∃ v, Hid (Flt.wv r = v) := ⟨_, hide rfl⟩
  rw [hv.out] at H2 ⊢
  unfold Flt.clamp
  rcases Int.lt_trichotomy v b with h1 | rfl | h1
  · rw [if_pos h1]
    rcases Int.lt_trichotomy v a with h2 | rfl | h2
    · rw [if_pos h2]
      go_enter Tryd.func67, Tryd.ntmps67
      go_wp2_with fail
      refine H1.out.mono ?_
      rintro e w1 ⟨rfl, rfl⟩
      go_wp2_with fail
      refine H2.out.mono ?_
      rintro e w1 ⟨rfl, rfl⟩
      go_wp2_with fail
      go_ret
      exact ⟨rfl, rfl⟩
    · rw [if_neg (Int.lt_irrefl _)]
      go_enter Tryd.func67, Tryd.ntmps67
      go_wp2_with fail
      refine H1.out.mono ?_
      rintro e w1 ⟨rfl, rfl⟩
      go_wp2_with fail
      refine H2.out.mono ?_
      rintro e w1 ⟨rfl, rfl⟩
      go_wp2_with fail
      go_ret
      exact ⟨rfl, rfl⟩
    · rw [if_neg (by omega)]
      go_enter Tryd.func67, Tryd.ntmps67
      go_wp2_with fail
      refine H1.out.mono ?_
      rintro e w1 ⟨rfl, rfl⟩
      go_wp2_with fail
      refine H2.out.mono ?_
      rintro e w1 ⟨rfl, rfl⟩
      go_wp2_with fail
      go_ret
      exact ⟨rfl, rfl⟩
  · rw [if_neg (Int.lt_irrefl _)]
    rcases Int.lt_trichotomy v a with h2 | rfl | h2
    · rw [if_pos h2]
      go_enter Tryd.func67, Tryd.ntmps67
      go_wp2_with fail
      refine H1.out.mono ?_
      rintro e w1 ⟨rfl, rfl⟩
      go_wp2_with fail
      refine H2.out.mono ?_
      rintro e w1 ⟨rfl, rfl⟩
      go_wp2_with fail
      go_ret
      exact ⟨rfl, rfl⟩
    · rw [if_neg (Int.lt_irrefl _)]
      go_enter Tryd.func67, Tryd.ntmps67
      go_wp2_with fail
      refine H1.out.mono ?_
      rintro e w1 ⟨rfl, rfl⟩
      go_wp2_with fail
      refine H2.out.mono ?_
      rintro e w1 ⟨rfl, rfl⟩
      go_wp2_with fail
      go_ret
      exact ⟨rfl, rfl⟩
    · rw [if_neg (by omega)]
      go_enter Tryd.func67, Tryd.ntmps67
      go_wp2_with fail
      refine H1.out.mono ?_
      rintro e w1 ⟨rfl, rfl⟩
      go_wp2_with fail
      refine H2.out.mono ?_
      rintro e w1 ⟨rfl, rfl⟩
      go_wp2_with fail
      go_ret
      exact ⟨rfl, rfl⟩
  · rw [if_neg (show ¬ v < b by omega)]
    rcases Int.lt_trichotomy b a with h2 | rfl | h2
    · rw [if_pos h2]
      go_enter Tryd.func67, Tryd.ntmps67
      go_wp2_with fail
      refine H1.out.mono ?_
      rintro e w1 ⟨rfl, rfl⟩
      go_wp2_with fail
      refine H2.out.mono ?_
      rintro e w1 ⟨rfl, rfl⟩
      go_wp2_with fail
      go_ret
      exact ⟨rfl, rfl⟩
    · rw [if_neg (Int.lt_irrefl _)]
      go_enter Tryd.func67, Tryd.ntmps67
      go_wp2_with fail
      refine H1.out.mono ?_
      rintro e w1 ⟨rfl, rfl⟩
      go_wp2_with fail
      refine H2.out.mono ?_
      rintro e w1 ⟨rfl, rfl⟩
      go_wp2_with fail
      go_ret
      exact ⟨rfl, rfl⟩
    · rw [if_neg (by omega)]
      go_enter Tryd.func67, Tryd.ntmps67
      go_wp2_with fail
      refine H1.out.mono ?_
      rintro e w1 ⟨rfl, rfl⟩
      go_wp2_with fail
      refine H2.out.mono ?_
      rintro e w1 ⟨rfl, rfl⟩
      go_wp2_with fail
      go_ret
      exact ⟨rfl, rfl⟩

set_option maxRecDepth 100000 in
theorem refcut_c (n a b : Int) (w : World) :
    Calls Tryd.prog 68 #[.int .i64 n, .int .i64 a, .int .i64 b] w fun e w' => e = .returned (.int .i64 (Flt.cutv n a b)) ∧ w' = w := by
  unfold Flt.cutv
  by_cases h1 : n < a
  · rw [if_pos h1]
    go_enter Tryd.func68, Tryd.ntmps68
    go_wp2_with fail
    go_ret
    exact ⟨rfl, rfl⟩
  rw [if_neg h1]
  by_cases h2 : b < n
  · rw [if_pos h2]
    go_enter Tryd.func68, Tryd.ntmps68
    go_wp2_with fail
    go_ret
    exact ⟨rfl, rfl⟩
  · rw [if_neg h2]
    go_enter Tryd.func68, Tryd.ntmps68
    go_wp2_with fail
    go_ret
    exact ⟨rfl, rfl⟩
set_option maxRecDepth 100000 in
theorem refwl_c (r : Nat) (a b : Int) (o : FloatKind.f64.format.order r 14114281232179134464 = some .lt) (w : World) :
    Calls Tryd.prog 94 #[.float .f64 r, .bool true, .int .i64 a, .int .i64 b] w fun e w' => e = .returned (.int .i64 a) ∧ w' = w := by
  go_enter Tryd.func94, Tryd.ntmps94
  go_wp2_with fail
  go_ret
  exact ⟨rfl, rfl⟩
set_option maxRecDepth 100000 in
theorem refwl2_c (r : Nat) (a b n : Int) (c : Ordering) (o : FloatKind.f64.format.order r 14114281232179134464 = some c) (hc : c ≠ .lt) (hv : floatToIntVal .f64 r .i64 = some n) (w : World) :
    Calls Tryd.prog 94 #[.float .f64 r, .bool true, .int .i64 a, .int .i64 b] w fun e w' => e = .returned (.int .i64 (Flt.cutv n a b)) ∧ w' = w := by
  have hcv := convert_c hv
  have HC := hide (refcut_c n a b w)
  clear hv
  cases c
  · exact absurd rfl hc
  all_goals
    go_enter Tryd.func94, Tryd.ntmps94
    go_wp2_with fail
    refine HC.out.mono ?_
    rintro e w1 ⟨rfl, rfl⟩
    go_wp2_with fail
    go_ret
    exact ⟨rfl, rfl⟩
set_option maxRecDepth 100000 in
theorem refwh_c (r : Nat) (a b : Int) (c : Ordering) (o : FloatKind.f64.format.order r 4890909195324358656 = some c) (hc : c ≠ .lt) (w : World) :
    Calls Tryd.prog 94 #[.float .f64 r, .bool false, .int .i64 a, .int .i64 b] w fun e w' => e = .returned (.int .i64 b) ∧ w' = w := by
  cases c
  · exact absurd rfl hc
  all_goals
    go_enter Tryd.func94, Tryd.ntmps94
    go_wp2_with fail
    go_ret
    exact ⟨rfl, rfl⟩
set_option maxRecDepth 100000 in
theorem refwh2_c (r : Nat) (a b n : Int) (o : FloatKind.f64.format.order r 4890909195324358656 = some .lt) (hv : floatToIntVal .f64 r .i64 = some n) (w : World) :
    Calls Tryd.prog 94 #[.float .f64 r, .bool false, .int .i64 a, .int .i64 b] w fun e w' => e = .returned (.int .i64 (Flt.cutv n a b)) ∧ w' = w := by
  have hcv := convert_c hv
  have HC := hide (refcut_c n a b w)
  clear hv
  go_enter Tryd.func94, Tryd.ntmps94
  go_wp2_with fail
  refine HC.out.mono ?_
  rintro e w1 ⟨rfl, rfl⟩
  go_wp2_with fail
  go_ret
  exact ⟨rfl, rfl⟩
/-- What comes behind the ends' order. -/
theorem refmid_c (r : Nat) (hr : r < 18446744073709551616) (hn : Flt.nanb r = false) (a b : Int) (hab : a ≤ b) (ha : -9223372036854775808 ≤ a) (hb : b ≤ 9223372036854775807) :
    (FloatKind.f64.format.order r 14114063095424393472 = some .lt ∧ ∀ w, Calls Tryd.prog 94 #[.float .f64 r, .bool true, .int .i64 a, .int .i64 b] w fun e w' => e = .returned (.int .i64 (Flt.cutv (Flt.wv r) a b)) ∧ w' = w) ∨
    (∃ c, FloatKind.f64.format.order r 14114063095424393472 = some c ∧ c ≠ .lt ∧ FloatKind.f64.format.order r 4890691058569617664 = some .gt ∧ ∀ w, Calls Tryd.prog 94 #[.float .f64 r, .bool false, .int .i64 a, .int .i64 b] w fun e w' => e = .returned (.int .i64 (Flt.cutv (Flt.wv r) a b)) ∧ w' = w) ∨
    (∃ c d, FloatKind.f64.format.order r 14114063095424393472 = some c ∧ c ≠ .lt ∧ FloatKind.f64.format.order r 4890691058569617664 = some d ∧ d ≠ .gt ∧ floatToIntVal .f64 r .i64 = some (Flt.wv r)) := by
  rcases Flt.wv_cases r hr hn with ⟨o1, o3, o4⟩ | ⟨o1, o2, o4⟩ | ⟨n, o, o9, p9, o1, o2, hc, o4, o3, hv, -, -⟩
  · refine .inr (.inl ⟨.gt, o4, by decide, o3, fun w => ?_⟩)
    have e : Flt.cutv 9223372036854775807 a b = b := by
      unfold Flt.cutv
      rw [if_neg (by omega)]
      split <;> omega
    rw [wv_far hn o1, e]
    rcases o1 with o1 | o1
    · exact refwh_c r a b .gt o1 (by decide) w
    · exact refwh_c r a b .eq o1 (by decide) w
  · refine .inl ⟨o4, fun w => ?_⟩
    have e : Flt.cutv (-9223372036854775808) a b = a := by
      unfold Flt.cutv
      split
      · rfl
      · split <;> omega
    rw [wv_low hn o1 o2, e]
    exact refwl_c r a b o2 w
  · rw [wv_mid hn o1 o2 hc hv]
    by_cases h4 : o9 = .lt
    · subst h4
      exact .inl ⟨o4, fun w => refwl2_c r a b n o o2 hc hv w⟩
    · by_cases h3 : p9 = .gt
      · subst h3
        exact .inr (.inl ⟨o9, o4, h4, o3, fun w => refwh2_c r a b n o1 hv w⟩)
      · exact .inr (.inr ⟨o9, p9, o4, h4, o3, h3, hv⟩)
set_option maxRecDepth 100000 in
set_option maxHeartbeats 4000000 in
theorem refwhole_c (x : Nat) (hx : x < 18446744073709551616) (a b : Int) (ha : -9223372036854775808 ≤ a) (ha2 : a ≤ 9223372036854775807) (hb : b ≤ 9223372036854775807) (w : World) :
    Calls Tryd.prog 69 #[.float .f64 x, .int .i64 a, .int .i64 b] w fun e w' => e = .returned (.int .i64 (Flt.cutv (Flt.wv (Flt.rround x)) a (if b < a then a else b))) ∧ w' = w := by
  have H1 := hide (refnan_c x hx w)
  have H2 := hide (refround_c x hx w)
  by_cases hab : b < a
  · rw [if_pos hab]
    have hat : a ≤ a := Int.le_refl _
    cases hn : Flt.nanb x
    · rw [hn] at H1
      have hr := Flt.nan_rround x hx
      rw [hn] at hr
      have hm := refmid_c (Flt.rround x) (Flt.rround_lt x hx) hr a a hat ha ha2
      obtain ⟨r, hrr⟩ : ∃ r, Hid (Flt.rround x = r) := ⟨_, hide rfl⟩
      rw [hrr.out] at hm H2 ⊢
      clear hn hr
      rcases hm with ⟨o1, hc⟩ | ⟨c, o1, h1, o2, hc⟩ | ⟨c, d, o1, h1, o2, h2, hv⟩
      · have HC := hide (hc w)
        clear hc
        go_enter Tryd.func69, Tryd.ntmps69
        go_wp2_with fail
        refine H1.out.mono ?_
        rintro e w1 ⟨rfl, rfl⟩
        go_wp2_with fail
        refine H2.out.mono ?_
        rintro e w1 ⟨rfl, rfl⟩
        go_wp2_with fail
        refine HC.out.mono ?_
        rintro e w1 ⟨rfl, rfl⟩
        go_wp2_with fail
        go_ret
        exact ⟨rfl, rfl⟩
      · have HC := hide (hc w)
        clear hc
        cases c
        · exact absurd rfl h1
        all_goals
          go_enter Tryd.func69, Tryd.ntmps69
          go_wp2_with fail
          refine H1.out.mono ?_
          rintro e w1 ⟨rfl, rfl⟩
          go_wp2_with fail
          refine H2.out.mono ?_
          rintro e w1 ⟨rfl, rfl⟩
          go_wp2_with fail
          refine HC.out.mono ?_
          rintro e w1 ⟨rfl, rfl⟩
          go_wp2_with fail
          go_ret
          exact ⟨rfl, rfl⟩
      · have hcv := convert_c hv
        have HC := hide (refcut_c (Flt.wv r) a a w)
        obtain ⟨v, hvv⟩ : ∃ r', Hid (Flt.wv r = r') := ⟨_, hide rfl⟩
        rw [hvv.out] at HC hcv ⊢
        clear hv hvv
        cases c
        · exact absurd rfl h1
        all_goals
          cases d
          rotate_left 2
          · exact absurd rfl h2
          all_goals
            go_enter Tryd.func69, Tryd.ntmps69
            go_wp2_with fail
            refine H1.out.mono ?_
            rintro e w1 ⟨rfl, rfl⟩
            go_wp2_with fail
            refine H2.out.mono ?_
            rintro e w1 ⟨rfl, rfl⟩
            go_wp2_with fail
            refine HC.out.mono ?_
            rintro e w1 ⟨rfl, rfl⟩
            go_wp2_with fail
            go_ret
            exact ⟨rfl, rfl⟩
    · rw [hn] at H1
      have hr : Flt.nanb (Flt.rround x) = true := (Flt.nan_rround x hx).trans hn
      rw [wv_nan hr]
      have HC := hide (refcut_c 0 a a w)
      clear hn hr
      go_enter Tryd.func69, Tryd.ntmps69
      go_wp2_with fail
      refine H1.out.mono ?_
      rintro e w1 ⟨rfl, rfl⟩
      go_wp2_with fail
      refine HC.out.mono ?_
      rintro e w1 ⟨rfl, rfl⟩
      go_wp2_with fail
      go_ret
      exact ⟨rfl, rfl⟩
  · rw [if_neg hab]
    have hat : a ≤ b := by omega
    cases hn : Flt.nanb x
    · rw [hn] at H1
      have hr := Flt.nan_rround x hx
      rw [hn] at hr
      have hm := refmid_c (Flt.rround x) (Flt.rround_lt x hx) hr a b hat ha hb
      obtain ⟨r, hrr⟩ : ∃ r, Hid (Flt.rround x = r) := ⟨_, hide rfl⟩
      rw [hrr.out] at hm H2 ⊢
      clear hn hr
      rcases hm with ⟨o1, hc⟩ | ⟨c, o1, h1, o2, hc⟩ | ⟨c, d, o1, h1, o2, h2, hv⟩
      · have HC := hide (hc w)
        clear hc
        go_enter Tryd.func69, Tryd.ntmps69
        go_wp2_with fail
        refine H1.out.mono ?_
        rintro e w1 ⟨rfl, rfl⟩
        go_wp2_with fail
        refine H2.out.mono ?_
        rintro e w1 ⟨rfl, rfl⟩
        go_wp2_with fail
        refine HC.out.mono ?_
        rintro e w1 ⟨rfl, rfl⟩
        go_wp2_with fail
        go_ret
        exact ⟨rfl, rfl⟩
      · have HC := hide (hc w)
        clear hc
        cases c
        · exact absurd rfl h1
        all_goals
          go_enter Tryd.func69, Tryd.ntmps69
          go_wp2_with fail
          refine H1.out.mono ?_
          rintro e w1 ⟨rfl, rfl⟩
          go_wp2_with fail
          refine H2.out.mono ?_
          rintro e w1 ⟨rfl, rfl⟩
          go_wp2_with fail
          refine HC.out.mono ?_
          rintro e w1 ⟨rfl, rfl⟩
          go_wp2_with fail
          go_ret
          exact ⟨rfl, rfl⟩
      · have hcv := convert_c hv
        have HC := hide (refcut_c (Flt.wv r) a b w)
        obtain ⟨v, hvv⟩ : ∃ r', Hid (Flt.wv r = r') := ⟨_, hide rfl⟩
        rw [hvv.out] at HC hcv ⊢
        clear hv hvv
        cases c
        · exact absurd rfl h1
        all_goals
          cases d
          rotate_left 2
          · exact absurd rfl h2
          all_goals
            go_enter Tryd.func69, Tryd.ntmps69
            go_wp2_with fail
            refine H1.out.mono ?_
            rintro e w1 ⟨rfl, rfl⟩
            go_wp2_with fail
            refine H2.out.mono ?_
            rintro e w1 ⟨rfl, rfl⟩
            go_wp2_with fail
            refine HC.out.mono ?_
            rintro e w1 ⟨rfl, rfl⟩
            go_wp2_with fail
            go_ret
            exact ⟨rfl, rfl⟩
    · rw [hn] at H1
      have hr : Flt.nanb (Flt.rround x) = true := (Flt.nan_rround x hx).trans hn
      rw [wv_nan hr]
      have HC := hide (refcut_c 0 a b w)
      clear hn hr
      go_enter Tryd.func69, Tryd.ntmps69
      go_wp2_with fail
      refine H1.out.mono ?_
      rintro e w1 ⟨rfl, rfl⟩
      go_wp2_with fail
      refine HC.out.mono ?_
      rintro e w1 ⟨rfl, rfl⟩
      go_wp2_with fail
      go_ret
      exact ⟨rfl, rfl⟩
end Go.Proofs.YtboighnmgnjhdaaDoor
