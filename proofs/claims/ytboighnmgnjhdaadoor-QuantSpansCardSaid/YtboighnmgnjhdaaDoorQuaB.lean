/-
  math.Frexp of a usual number; package quant's Fixed of 1; the laws' first, walked. By an AI agent. No person has read it.
-/
import Derived.Test.YtboighnmgnjhdaaDoorQuaA
import Derived.Test.YtboighnmgnjhdaaDoorFltLa
namespace Go.Proofs.YtboighnmgnjhdaaDoor
open Go.RowKit
open Ieee

theorem and_u64 (n : Nat) (hn : n < 4096) : bits .and .u64 (n : Int) 2047 = ((n % 2048 : Nat) : Int) := by
  have h := u64_and_nat n 2047 (by omega) (by decide)
  rw [show n &&& 2047 = n % 2048 from Nat.and_two_pow_sub_one_eq_mod n 11] at h
  exact h
set_option maxRecDepth 100000 in
set_option maxHeartbeats 4000000 in
theorem frexp_c (x : Nat) (hx : x < 18446744073709551616) (h0 : 2 ≤ Flt.expo x) (h7 : Flt.expo x < 2046) (w : World) :
    Calls Tryd.prog 70 #[.float .f64 x] w fun e w' => e = .returned (.tuple #[.float .f64 ((if Flt.neg x = true then 9223372036854775808 else 0) + (4602678819172646912 + Flt.frac x)), .int .i64 ((Flt.expo x : Int) - 1022)]) ∧ w' = w := by
  have hnn : Flt.nanb x = false := by
    unfold Flt.nanb
    unfold Flt.expo at h7
    rw [decide_eq_false_iff_not]
    omega
  have hfl := frac_lt x
  have hfb := run_f64bits
  have hff := run_f64from
  have o0 := order_zero x hx (by omega) (by omega)
  have a1 := andNot_expo x hx
  have hdv : (x : Int) / 4503599627370496 = ((x / 4503599627370496 : Nat) : Int) := by omega
  have hd4 : x / 4503599627370496 < 4096 := by omega
  have a3 := and_u64 (x / 4503599627370496) hd4
  have a4 : x / 4503599627370496 % 2048 = Flt.expo x := rfl
  rw [a4] at a3
  obtain ⟨g, hg⟩ : ∃ g : Nat, (if Flt.neg x = true then 9223372036854775808 else 0) = g := ⟨_, rfl⟩
  have hgg : g = 0 ∨ g = 9223372036854775808 := by
    rw [← hg]
    split
    · exact .inr rfl
    · exact .inl rfl
  rw [hg] at a1 ⊢
  have a2 : bits .or .u64 ((g + Flt.frac x : Nat) : Int) 4602678819172646912 = ((g + (4602678819172646912 + Flt.frac x) : Nat) : Int) := or_expo g (Flt.frac x) 1022 hgg hfl (by omega)
  have H1 := hide (isinf0_c x hx h7 w)
  have H2 := hide (isnan_c x hnn w)
  have H3 := hide (normalize_c x hx h0 h7 w)
  obtain ⟨R, hR⟩ : ∃ R, Hid (g + (4602678819172646912 + Flt.frac x) = R) := ⟨_, hide rfl⟩
  rw [hR.out] at a2 ⊢
  obtain ⟨gf, hgf⟩ : ∃ y, Hid (g + Flt.frac x = y) := ⟨_, hide rfl⟩
  rw [hgf.out] at a1 a2
  obtain ⟨ex, hex⟩ : ∃ y, Hid (Flt.expo x = y) := ⟨_, hide rfl⟩
  rw [hex.out] at a3 h0 h7 ⊢
  obtain ⟨dv, hdvv⟩ : ∃ y, Hid (x / 4503599627370496 = y) := ⟨_, hide rfl⟩
  rw [hdvv.out] at hdv hd4 a3
  obtain ⟨oo, hoo, hoe⟩ : ∃ oo : Ordering, FloatKind.f64.format.order x 0 = some oo ∧ oo ≠ .eq := by
    refine ⟨_, o0, ?_⟩
    split <;> decide
  have hob : (oo == Ordering.eq) = false := by
    cases oo
    · rfl
    · exact absurd rfl hoe
    · rfl
  have s0 : IntKind.i64.wrap (ex : Int) = (ex : Int) := iwrap_small _ (by omega) (by omega)
  have s1 : IntKind.i64.wrap ((ex : Int) - 1023) = (ex : Int) - 1023 := iwrap_small _ (by omega) (by omega)
  have s2 : IntKind.i64.wrap ((ex : Int) - 1023 + 1) = (ex : Int) - 1022 := by rw [iwrap_small _ (by omega) (by omega)]; omega
  clear o0 hg hgg a4 hR hgf hex hdvv
  have hJ : Calls Tryd.prog 96 #[.float .f64 x] w fun e' w' => e' = .returned (.tuple #[.float .f64 R, .int .i64 ((ex : Int) - 1022)]) ∧ w' = w := by
    go_enter Tryd.func96, Tryd.ntmps96
    go_wp2_with fail
    refine H1.out.mono ?_
    rintro e w1 ⟨rfl, rfl⟩
    go_wp2_with fail
    refine H2.out.mono ?_
    rintro e w1 ⟨rfl, rfl⟩
    go_wp2_with fail
    refine H3.out.mono ?_
    rintro e w1 ⟨rfl, rfl⟩
    go_wp2_with fail
    go_ret2
    exact ⟨rfl, rfl⟩
  have HJ := hide hJ
  clear hJ H1 H2 H3 a1 a2 a3 hfl
  go_enter Tryd.func70, Tryd.ntmps70
  go_wp2_with fail
  refine HJ.out.mono ?_
  rintro e w1 ⟨rfl, rfl⟩
  go_wp2_with fail
  go_ret2
  exact ⟨rfl, rfl⟩
theorem results_three {fn : Func} {p u x : Tmp} (h : fn.results = #[.tmp p, .tmp u, .tmp x]) (tmps : Array Value) (w : World) : (results fn tmps).run Tryd.prog w = .ok (.tuple #[tmps.getD p undef, tmps.getD u undef, tmps.getD x undef]) w := by
  simp [results, h]
set_option maxRecDepth 100000 in
set_option maxHeartbeats 4000000 in
theorem fixed_one (w : World) : Calls Tryd.prog 32 #[.float .f64 4607182418800017408] w fun e w' => e = .returned (.tuple #[.int .i64 1073741824, .int .i64 30, .nilIface]) ∧ w' = w := by
  have HF := hide (frexp_c 4607182418800017408 (by decide) (by decide) (by decide))
  rw [show (if Flt.neg 4607182418800017408 = true then 9223372036854775808 else 0) + (4602678819172646912 + Flt.frac 4607182418800017408) = 4602678819172646912 by decide +kernel, show ((Flt.expo 4607182418800017408 : Nat) : Int) - 1022 = 1 by decide +kernel] at HF
  have HW := hide (wholeof_c 4742290407621132288 (by decide) 0 2147483648)
  rw [show Flt.clamp (Flt.wv (Flt.round 4742290407621132288)) 0 2147483648 = 1073741824 by decide +kernel] at HW
  have o1 : FloatKind.f64.format.order 4607182418800017408 4472074429978902528 = some .gt := by decide +kernel
  have o2 : FloatKind.f64.format.order 4607182418800017408 4742290407621132288 = some .lt := by decide +kernel
  have hmul : ∀ w : World, (binOp .mul 27 (.float .f64 4602678819172646912) (.float .f64 4746794007248502784)).run Tryd.prog w = .ok (.float .f64 4742290407621132288) w := fun w => by kernel_rfl
  go_enter Tryd.func32, Tryd.ntmps32
  go_wp2_with fail
  refine (HF.out _).mono ?_
  rintro e w1 ⟨rfl, rfl⟩
  go_wp2_with fail
  refine (HW.out _).mono ?_
  rintro e w1 ⟨rfl, rfl⟩
  go_wp2_with fail
  refine bodyPost_ret (results_three rfl _ _) rfl ?_
  exact ⟨rfl, rfl⟩
set_option maxRecDepth 100000 in
set_option maxHeartbeats 4000000 in
theorem qfirst_c (w : World) : Calls Tryd.prog 22 #[] w fun e w' => e = .returned (.bool true) ∧ w' = w.drew := by
  have HF := hide fixed_one
  have HR := hide (requant_c 3 1073741824 31 0)
  rw [show Qua.req 3 1073741824 31 0 = 2 by decide +kernel] at HR
  go_enter Tryd.func22, Tryd.ntmps22
  go_wp2_with fail
  refine (HF.out _).mono ?_
  rintro e w1 ⟨rfl, rfl⟩
  go_wp2_with fail
  refine (HR.out _).mono ?_
  rintro e w1 ⟨rfl, rfl⟩
  go_wp2_with fail
  go_ret
  exact ⟨rfl, rfl⟩
end Go.Proofs.YtboighnmgnjhdaaDoor
