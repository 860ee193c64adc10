/-
  Package flt's Same and Less, and the reference's, for any two numbers. By an AI agent. No person has read it.
-/
import Derived.Test.YtboighnmgnjhdaaDoorFltL
namespace Go.Proofs.YtboighnmgnjhdaaDoor
open Go.RowKit

theorem order_nan {b : Nat} (h : Flt.nanb b = true) : FloatKind.f64.format.order b b = none := (Flt.order_self b).trans (by rw [h]; rfl)
theorem order_num' {b : Nat} (h : Flt.nanb b = false) : FloatKind.f64.format.order b b = some .eq := (Flt.order_self b).trans (by rw [h]; rfl)
theorem eq_bool (a b : Nat) : (((a : Int) == (b : Int)) : Bool) = decide (a = b) := by
  rw [Bool.eq_iff_iff, beq_iff_eq, decide_eq_true_eq]
  omega
set_option maxRecDepth 100000 in
theorem same_c (a b : Nat) (w : World) :
    Calls Tryd.prog 15 #[.float .f64 a, .float .f64 b] w fun e w' => e = .returned (.bool (Flt.same a b)) ∧ w' = w := by
  have hfb := run_f64bits
  have he := eq_bool a b
  unfold Flt.same
  obtain ⟨r, hr⟩ : ∃ r, Hid (decide (a = b) = r) := ⟨_, hide rfl⟩
  rw [hr.out] at he ⊢
  cases hna : Flt.nanb a
  · have ha := order_num' hna
    clear hna hr
    go_enter Tryd.func15, Tryd.ntmps15
    go_wp2_with fail
    go_ret
    exact ⟨by simp, rfl⟩
  · have ha := order_nan hna
    clear hna hr
    cases hnb : Flt.nanb b
    · have hb := order_num' hnb
      clear hnb
      go_enter Tryd.func15, Tryd.ntmps15
      go_wp2_with fail
      go_ret
      exact ⟨by simp, rfl⟩
    · have hb := order_nan hnb
      clear hnb
      go_enter Tryd.func15, Tryd.ntmps15
      go_wp2_with fail
      go_ret
      exact ⟨by simp, rfl⟩

set_option maxRecDepth 100000 in
theorem less_c (a b : Nat) (ha : a < 18446744073709551616) (hb : b < 18446744073709551616) (w : World) :
    Calls Tryd.prog 52 #[.float .f64 a, .float .f64 b] w fun e w' => e = .returned (.bool (Flt.less a b)) ∧ w' = w := by
  have h1 := hide (rank_c a ha w)
  have h2 := hide (rank_c b hb w)
  have hl : decide (Flt.rank a < Flt.rank b) = Flt.less a b := rfl
  obtain ⟨r, hr⟩ : ∃ r, Hid (Flt.less a b = r) := ⟨_, hide rfl⟩
  rw [hr.out] at hl ⊢
  obtain ⟨ra, hra⟩ : ∃ x, Hid (Flt.rank a = x) := ⟨_, hide rfl⟩
  obtain ⟨rb, hrb⟩ : ∃ x, Hid (Flt.rank b = x) := ⟨_, hide rfl⟩
  rw [hra.out] at h1 hl
  rw [hrb.out] at h2 hl
  go_enter Tryd.func52, Tryd.ntmps52
  go_wp2_with fail
  refine h1.out.mono ?_
  rintro e w1 ⟨rfl, rfl⟩
  go_wp2_with fail
  refine h2.out.mono ?_
  rintro e w2 ⟨rfl, rfl⟩
  go_wp2_with fail
  go_ret
  exact ⟨by rw [← hl]; rfl, rfl⟩

set_option maxRecDepth 100000 in
theorem samefloat_c (a b : Nat) (ha : a < 18446744073709551616) (hb : b < 18446744073709551616) (w : World) :
    Calls Tryd.prog 18 #[.float .f64 a, .float .f64 b] w fun e w' => e = .returned (.bool (Flt.same a b)) ∧ w' = w := by
  have hfb := run_f64bits
  have he := eq_bool a b
  have h1 := refnan_c a ha w
  have h2 := refnan_c b hb w
  unfold Flt.same
  obtain ⟨r, hr⟩ : ∃ r, Hid (decide (a = b) = r) := ⟨_, hide rfl⟩
  rw [hr.out] at he ⊢
  clear hr
  cases hna : Flt.nanb a
  · rw [hna] at h1
    have H1 := hide h1
    clear h1 hna h2
    go_enter Tryd.func18, Tryd.ntmps18
    go_wp2_with fail
    refine H1.out.mono ?_
    rintro e w1 ⟨rfl, rfl⟩
    go_wp2_with fail
    go_ret
    exact ⟨by simp, rfl⟩
  · rw [hna] at h1
    have H1 := hide h1
    have H2 := hide h2
    clear h1 h2 hna
    obtain ⟨nb, hnb⟩ : ∃ x, Hid (Flt.nanb b = x) := ⟨_, hide rfl⟩
    rw [hnb.out] at H2 ⊢
    cases nb
    · go_enter Tryd.func18, Tryd.ntmps18
      go_wp2_with fail
      refine H1.out.mono ?_
      rintro e w1 ⟨rfl, rfl⟩
      go_wp2_with fail
      refine H2.out.mono ?_
      rintro e w2 ⟨rfl, rfl⟩
      go_wp2_with fail
      go_ret
      exact ⟨by simp, rfl⟩
    · go_enter Tryd.func18, Tryd.ntmps18
      go_wp2_with fail
      refine H1.out.mono ?_
      rintro e w1 ⟨rfl, rfl⟩
      go_wp2_with fail
      refine H2.out.mono ?_
      rintro e w2 ⟨rfl, rfl⟩
      go_wp2_with fail
      go_ret
      exact ⟨by simp, rfl⟩

set_option maxRecDepth 100000 in
theorem lessfloat_c (a b : Nat) (ha : a < 18446744073709551616) (hb : b < 18446744073709551616) (w : World) :
    Calls Tryd.prog 56 #[.float .f64 a, .float .f64 b] w fun e w' => e = .returned (.bool (Flt.less a b)) ∧ w' = w := by
  have h1 := hide (refnan_c a ha w)
  have h2 := hide (refnan_c b hb w)
  have h3 := hide (refrank_c a ha w)
  have h4 := hide (refrank_c b hb w)
  have hl := Flt.less_ref a b ha hb
  rw [hl]
  change Calls _ _ _ _ fun e w' => e = .returned (.bool (if Flt.nanb a || Flt.nanb b then !Flt.nanb a && Flt.nanb b else decide (Flt.rrank a < Flt.rrank b))) ∧ w' = w
  obtain ⟨ra, hra⟩ : ∃ x, Hid (Flt.rrank a = x) := ⟨_, hide rfl⟩
  obtain ⟨rb, hrb⟩ : ∃ x, Hid (Flt.rrank b = x) := ⟨_, hide rfl⟩
  rw [hra.out] at h3 ⊢
  rw [hrb.out] at h4 ⊢
  obtain ⟨na, hna⟩ : ∃ x, Hid (Flt.nanb a = x) := ⟨_, hide rfl⟩
  obtain ⟨nb, hnb⟩ : ∃ x, Hid (Flt.nanb b = x) := ⟨_, hide rfl⟩
  rw [hna.out] at h1 ⊢
  rw [hnb.out] at h2 ⊢
  clear hl hra hrb hna hnb
  cases na
  · cases nb
    · simp only [Bool.or_false, Bool.false_eq_true, if_false]
      go_enter Tryd.func56, Tryd.ntmps56
      go_wp2_with fail
      refine h1.out.mono ?_
      rintro e w1 ⟨rfl, rfl⟩
      go_wp2_with fail
      refine h2.out.mono ?_
      rintro e w2 ⟨rfl, rfl⟩
      go_wp2_with fail
      refine h3.out.mono ?_
      rintro e w1 ⟨rfl, rfl⟩
      go_wp2_with fail
      refine h4.out.mono ?_
      rintro e w2 ⟨rfl, rfl⟩
      go_wp2_with fail
      go_ret
      exact ⟨rfl, rfl⟩
    · simp only [Bool.false_or, if_true, Bool.not_false, Bool.true_and]
      go_enter Tryd.func56, Tryd.ntmps56
      go_wp2_with fail
      refine h1.out.mono ?_
      rintro e w1 ⟨rfl, rfl⟩
      go_wp2_with fail
      refine h2.out.mono ?_
      rintro e w2 ⟨rfl, rfl⟩
      go_wp2_with fail
      refine h1.out.mono ?_
      rintro e w1 ⟨rfl, rfl⟩
      go_wp2_with fail
      refine h2.out.mono ?_
      rintro e w2 ⟨rfl, rfl⟩
      go_wp2_with fail
      go_ret
      exact ⟨rfl, rfl⟩
  · simp only [Bool.true_or, if_true, Bool.not_true, Bool.false_and]
    go_enter Tryd.func56, Tryd.ntmps56
    go_wp2_with fail
    refine h1.out.mono ?_
    rintro e w1 ⟨rfl, rfl⟩
    go_wp2_with fail
    refine h1.out.mono ?_
    rintro e w1 ⟨rfl, rfl⟩
    go_wp2_with fail
    go_ret
    exact ⟨rfl, rfl⟩
end Go.Proofs.YtboighnmgnjhdaaDoor
