/-
  math.Ldexp of a usual number that stays one, walked. By an AI agent. No person has read it.
-/
import Derived.Test.YtboighnmgnjhdaaDoorFltW
import Derived.Test.YtboighnmgnjhdaaDoorFltM
import Derived.Test.YtboighnmgnjhdaaDoorFltO
import Derived.Test.YtboighnmgnjhdaaDoorFltLa
namespace Go.Proofs.YtboighnmgnjhdaaDoor
open Go.RowKit
open Ieee

set_option maxRecDepth 100000 in
set_option maxHeartbeats 4000000 in
theorem ldexp_c (x : Nat) (e : Int) (hx : x < 18446744073709551616) (h0 : 2 ≤ Flt.expo x) (h7 : Flt.expo x < 2046) (t : Nat) (ht : (Flt.expo x : Int) + e = (t : Int)) (ht0 : 1 ≤ t) (ht7 : t < 2047) (he : -2000 ≤ e) (he2 : e ≤ 2000) (w : World) :
    Calls Tryd.prog 44 #[.float .f64 x, .int .i64 e] w fun e' w' => e' = .returned (.float .f64 ((if Flt.neg x = true then 9223372036854775808 else 0) + (t * 4503599627370496 + Flt.frac x))) ∧ w' = w := by
  have hnn : Flt.nanb x = false := by
    unfold Flt.nanb
    unfold Flt.expo at h7
    rw [decide_eq_false_iff_not]
    omega
  have hfl := frac_lt x
  have hfb := run_f64bits
  have hff := run_f64from
  have o0 := order_zero x hx (by omega) (by omega)
  have a1 := andNot_expo x hx
  have hdv : (x : Int) / 4503599627370496 = ((x / 4503599627370496 : Nat) : Int) := by omega
  have hd4 : x / 4503599627370496 < 4096 := by omega
  have a3 := and_i64 (x / 4503599627370496) hd4
  have a4 : x / 4503599627370496 % 2048 = Flt.expo x := rfl
  rw [a4] at a3
  obtain ⟨g, hg⟩ : ∃ g : Nat, (if Flt.neg x = true then 9223372036854775808 else 0) = g := ⟨_, rfl⟩
  have hgg : g = 0 ∨ g = 9223372036854775808 := by
    rw [← hg]
    split
    · exact .inr rfl
    · exact .inl rfl
  rw [hg] at a1 ⊢
  have a2 := or_expo g (Flt.frac x) t hgg hfl (by omega)
  have hrl : g + (t * 4503599627370496 + Flt.frac x) < 18446744073709551616 := by omega
  have hre : Flt.expo (g + (t * 4503599627370496 + Flt.frac x)) = t := by unfold Flt.expo; omega
  have hmu := mul_pow (g + (t * 4503599627370496 + Flt.frac x)) hrl (by omega) (by omega) 4607182418800017408 0 (by decide +kernel) (by omega)
  rw [Nat.zero_mul, Nat.add_zero] at hmu
  have hmul : ∀ w : World, (binOp .mul 27 (.float .f64 4607182418800017408) (.float .f64 (g + (t * 4503599627370496 + Flt.frac x)))).run Tryd.prog w = .ok (.float .f64 (g + (t * 4503599627370496 + Flt.frac x))) w := fun w => run_float_arith (P := Tryd.prog) w .mul 27 .f64 _ _ _ hmu
  have H1 := hide (isinf0_c x hx h7 w)
  have H2 := hide (isnan_c x hnn w)
  have H3 := hide (normalize_c x hx h0 h7 w)
  obtain ⟨R, hR⟩ : ∃ R, Hid (g + (t * 4503599627370496 + Flt.frac x) = R) := ⟨_, hide rfl⟩
  rw [hR.out] at a2 hmul ⊢
  obtain ⟨gf, hgf⟩ : ∃ y, Hid (g + Flt.frac x = y) := ⟨_, hide rfl⟩
  rw [hgf.out] at a1 a2
  obtain ⟨ex, hex⟩ : ∃ y, Hid (Flt.expo x = y) := ⟨_, hide rfl⟩
  rw [hex.out] at a3 ht h0 h7
  obtain ⟨dv, hdvv⟩ : ∃ y, Hid (x / 4503599627370496 = y) := ⟨_, hide rfl⟩
  rw [hdvv.out] at hdv hd4 a3
  have a2' : bits .or .u64 (gf : Int) ((t : Int) * 4503599627370496) = (R : Int) := a2
  obtain ⟨oo, hoo, hoe⟩ : ∃ oo : Ordering, FloatKind.f64.format.order x 0 = some oo ∧ oo ≠ .eq := by
    refine ⟨_, o0, ?_⟩
    split <;> decide
  have hs1 : (ex : Int) - 1023 + e = (t : Int) - 1023 := by omega
  have hs2 : e + ((ex : Int) - 1023) = (t : Int) - 1023 := by omega
  have hs3 : (t : Int) - 1023 + 1023 = (t : Int) := by omega
  clear o0 hg hgg hmu hre hrl a2 hR hgf hex hdvv a4 ht
  have hJ : Calls Tryd.prog 76 #[.float .f64 x, .int .i64 e] w fun e' w' => e' = .returned (.float .f64 R) ∧ w' = w := by
    cases oo
    rotate_left
    · exact absurd rfl hoe
    all_goals
      go_enter Tryd.func76, Tryd.ntmps76
      go_wp2_with fail
      refine H1.out.mono ?_
      rintro e w1 ⟨rfl, rfl⟩
      go_wp2_with fail
      refine H2.out.mono ?_
      rintro e w1 ⟨rfl, rfl⟩
      go_wp2_with fail
      refine H3.out.mono ?_
      rintro e w1 ⟨rfl, rfl⟩
      go_wp2_with fail
      go_ret
      exact ⟨rfl, rfl⟩
  have HJ := hide hJ
  clear hJ hoo
  go_enter Tryd.func44, Tryd.ntmps44
  go_wp2_with fail
  refine HJ.out.mono ?_
  rintro e w1 ⟨rfl, rfl⟩
  go_wp2_with fail
  go_ret
  exact ⟨rfl, rfl⟩
end Go.Proofs.YtboighnmgnjhdaaDoor
