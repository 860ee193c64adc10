/-
  The law FltHalves of package lodgelaw3, walked. By an AI agent. No person has read it.
-/
import Derived.Test.YteeiehaebiigfaaDoorFltE
import Derived.Test.YteeiehaebiigfaaDoorFltB
namespace Go.Proofs.YteeiehaebiigfaaDoor
open Go.RowKit

set_option maxRecDepth 100000 in
theorem signbit_c (x : Nat) (hx : x = 0 ∨ x = 9223372036854775808) (w : World) :
    Calls Tryd.prog 44 #[.float .f64 x] w fun e w' => e = .returned (.bool (decide (x = 9223372036854775808))) ∧ w' = w := by
  have hfb := run_f64bits
  have h1 : bits .and .u64 0 9223372036854775808 = 0 := by decide
  have h2 : bits .and .u64 9223372036854775808 9223372036854775808 = 9223372036854775808 := by decide
  rcases hx with rfl | rfl
  · go_enter Tryd.func44, Tryd.ntmps44
    go_wp2_with fail
    go_ret
    exact ⟨rfl, rfl⟩
  · go_enter Tryd.func44, Tryd.ntmps44
    go_wp2_with fail
    go_ret
    exact ⟨congrArg (fun b => Ending.returned (Value.bool b)) (by decide +kernel), rfl⟩
set_option maxRecDepth 100000 in
theorem mathnan_c (w : World) : Calls Tryd.prog 26 #[] w fun e w' => e = .returned (.float .f64 9221120237041090561) ∧ w' = w := by
  have hff : ∀ w : World, (callFunc 48 #[.int .u64 9221120237041090561]).run Tryd.prog w = .ok (.value (.float .f64 9221120237041090561)) w := run_f64from 9221120237041090561
  go_enter Tryd.func26, Tryd.ntmps26
  go_wp2_with fail
  go_ret
  exact ⟨rfl, rfl⟩
set_option maxRecDepth 100000 in
theorem mathinf_p (w : World) : Calls Tryd.prog 42 #[.int .i64 1] w fun e w' => e = .returned (.float .f64 9218868437227405312) ∧ w' = w := by
  have hff : ∀ w : World, (callFunc 48 #[.int .u64 9218868437227405312]).run Tryd.prog w = .ok (.value (.float .f64 9218868437227405312)) w := run_f64from 9218868437227405312
  go_enter Tryd.func42, Tryd.ntmps42
  go_wp2_with fail
  go_ret
  exact ⟨rfl, rfl⟩
set_option maxRecDepth 100000 in
theorem mathinf_m (w : World) : Calls Tryd.prog 42 #[.int .i64 (-1)] w fun e w' => e = .returned (.float .f64 18442240474082181120) ∧ w' = w := by
  have hff : ∀ w : World, (callFunc 48 #[.int .u64 18442240474082181120]).run Tryd.prog w = .ok (.value (.float .f64 18442240474082181120)) w := run_f64from 18442240474082181120
  go_enter Tryd.func42, Tryd.ntmps42
  go_wp2_with fail
  go_ret
  exact ⟨rfl, rfl⟩

set_option maxRecDepth 100000 in
set_option maxHeartbeats 8000000 in
theorem halves_c (m : Int) (p : Nat) (hp : p < 18446744073709551616) (w : World) (hT : Tz w) :
    Calls Tryd.prog 9 #[.int .i64 m, .float .f64 p] w fun e w' => e = .returned (.bool true) ∧ w' = w := by
  have H0 := hide (first_c w hT)
  have H1 := hide (number_c m 1073741824 (by decide) (by decide) 1073741824 rfl w)
  have HA := hide (mathnan_c w)
  have HB := hide (mathinf_p w)
  have HC := hide (mathinf_m w)
  have ha1 := wholeof_c 9221120237041090561 (by decide) 5 9 w
  rw [show Flt.clamp (Flt.wv (Flt.round 9221120237041090561)) 5 9 = 5 by decide +kernel] at ha1
  have hb1 := wholeof_c 9218868437227405312 (by decide) (-3) 9 w
  rw [show Flt.clamp (Flt.wv (Flt.round 9218868437227405312)) (-3) 9 = 9 by decide +kernel] at hb1
  have hc1 := wholeof_c 18442240474082181120 (by decide) (-3) 9 w
  rw [show Flt.clamp (Flt.wv (Flt.round 18442240474082181120)) (-3) 9 = -3 by decide +kernel] at hc1
  have HA1 := hide ha1
  have HB1 := hide hb1
  have HC1 := hide hc1
  clear ha1 hb1 hc1
  have HS0 := hide (signbit_c 0 (.inl rfl) w)
  have HS1 := hide (signbit_c 9223372036854775808 (.inr rfl) w)
  have hz : FloatKind.f64.format.order 9223372036854775808 0 = some .eq := by decide +kernel
  go_enter Tryd.func9, Tryd.ntmps9
  go_wp2_with fail
  refine H0.out.mono ?_
  rintro e' w1 ⟨rfl, rfl⟩
  go_wp2_with fail
  refine H1.out.mono ?_
  rintro e' w1 ⟨⟨k, hk, rfl⟩, rfl⟩
  obtain ⟨n, hn⟩ : ∃ n : Int, (k : Int) - 536870912 = n := ⟨_, rfl⟩
  have hn1 : n.natAbs < 1073741824 := by omega
  have hfn := float_of_any n
  have had := add_half n (by omega)
  have hadd : ∀ w : World, (binOp .add 22 (.float .f64 (Flt.mk n 0)) (.float .f64 4602678819172646912)).run Tryd.prog w = .ok (.float .f64 (Flt.mk (2 * n + 1) (-1))) w := fun w => run_float_arith (P := Tryd.prog) w .add 22 .f64 _ _ _ had
  obtain ⟨-, x2, x3, -, -, -⟩ := mk_facts (2 * n + 1) (-1) (by omega) (by omega) (by decide) (by decide)
  have hr := round_c (Flt.mk (2 * n + 1) (-1)) x2 w1
  have hw := wholeof_c (Flt.mk (2 * n + 1) (-1)) x2 (-1099511627776) 1099511627776 w1
  obtain ⟨a1, a2, -, -⟩ := whole_facts n (by omega)
  have haf : FloatKind.f64.format.order (Flt.mk n 0) (Flt.mk n 0) = some .eq := order_num' (by unfold Flt.nanb; rw [decide_eq_false_iff_not]; omega)
  have hpart : Ieee.double.order p 0 = some .gt → Ieee.double.order p 4602678819172646912 = some .lt →
      ∃ y, Ieee.double.add (Flt.mk n 0) p = some y ∧ (∃ c, FloatKind.f64.format.order y (Flt.mk (2 * n + 1) (-1)) = some c ∧ (c = .lt → y < 18446744073709551616 ∧ Flt.round y = Flt.mk n 0)) ∧ Flt.round p = 0 ∧ Flt.round (Op.negFloat .f64 p) = 9223372036854775808 ∧ Op.negFloat .f64 p < 18446744073709551616 := by
    intro q1 q2
    obtain ⟨b1, b2, b3, b4⟩ := part_facts p hp q1 q2
    obtain ⟨y, c1, c2, c3, c4⟩ := add_part n (by omega) p b1 b2 b3 b4
    obtain ⟨d1, d2⟩ := round_part p b1 b3
    refine ⟨y, c1, ⟨_, Flt.order_key y _ c2 x2 c3 (by unfold Flt.expo at x3; omega), fun hc => ⟨c2, c4 ?_⟩⟩, d1, d2, by rw [neg_bits p (by omega)]; omega⟩
    rw [Flt.order_key y _ c2 x2 c3 (by unfold Flt.expo at x3; omega), hc]
  have hev := fun E hE => even_facts n E hn1 hE _ (round_half n E (by omega) hE)
  have hpart : ∃ c0 : Option Ordering, FloatKind.f64.format.order p 0 = c0 ∧ (c0 ≠ some .gt ∨ c0 = some .gt ∧ ∃ c1 : Option Ordering, FloatKind.f64.format.order p 4602678819172646912 = c1 ∧ (c1 ≠ some .lt ∨ c1 = some .lt ∧
      ∃ y, Ieee.double.add (Flt.mk n 0) p = some y ∧ (∃ c, FloatKind.f64.format.order y (Flt.mk (2 * n + 1) (-1)) = some c ∧ (c = .lt → y < 18446744073709551616 ∧ Flt.round y = Flt.mk n 0)) ∧ Flt.round p = 0 ∧ Flt.round (Op.negFloat .f64 p) = 9223372036854775808 ∧ Op.negFloat .f64 p < 18446744073709551616)) := by
    refine ⟨_, rfl, ?_⟩
    by_cases q1 : FloatKind.f64.format.order p 0 = some .gt
    · refine .inr ⟨q1, _, rfl, ?_⟩
      by_cases q2 : FloatKind.f64.format.order p 4602678819172646912 = some .lt
      · exact .inr ⟨q2, hpart q1 q2⟩
      · exact .inl q2
    · exact .inl q1
  obtain ⟨R, hR⟩ : ∃ R, Hid (Flt.round (Flt.mk (2 * n + 1) (-1)) = R) := ⟨_, hide rfl⟩
  rw [hR.out] at hr hw
  have hev : ∀ E : Int, E = (if n % 2 = 0 then n else n + 1) → FloatKind.f64.format.order R (Flt.mk E 0) = some .eq ∧ Flt.clamp (Flt.wv R) (-1099511627776) 1099511627776 = E := fun E hE => by
    have := hev E hE
    rw [hR.out] at this
    exact this
  obtain ⟨X, hX⟩ : ∃ X, Hid (Flt.mk (2 * n + 1) (-1) = X) := ⟨_, hide rfl⟩
  rw [hX.out] at hr hw hadd hpart
  obtain ⟨F, hF⟩ : ∃ F, Hid (Flt.mk n 0 = F) := ⟨_, hide rfl⟩
  rw [hF.out] at hfn hadd haf hpart
  have HR := hide hr
  clear hr x2 x3 a1 a2 had hX hR
  by_cases hpar : n % 2 = 0
  · obtain ⟨e1, e2⟩ := hev (n) (if_pos hpar).symm
    rw [e2] at hw
    
    have htm : n.tmod 2 = 0 := Int.tmod_eq_zero_of_dvd (by omega)
    rw [hF.out] at e1
    have HW := hide hw
    have hFF := hide hF.out
    clear hF
    clear hw hev e2 hpar
    go_wp2_with fail
    refine HR.out.mono ?_
    rintro e' w2 ⟨rfl, rfl⟩
    go_wp2_with fail
    refine HW.out.mono ?_
    rintro e' w2 ⟨rfl, rfl⟩
    obtain ⟨c0, h0, hc0⟩ := hpart
    rcases hc0 with hc0 | ⟨rfl, c1, h1, hc1⟩
    · rcases c0 with _ | (_ | _ | _)
      · clear hc0
        go_wp2_with fail
        refine HA.out.mono ?_
        rintro e' w2 ⟨rfl, rfl⟩
        go_wp2_with fail
        refine HA1.out.mono ?_
        rintro e' w2 ⟨rfl, rfl⟩
        go_wp2_with fail
        refine HB.out.mono ?_
        rintro e' w2 ⟨rfl, rfl⟩
        go_wp2_with fail
        refine HB1.out.mono ?_
        rintro e' w2 ⟨rfl, rfl⟩
        go_wp2_with fail
        refine HC.out.mono ?_
        rintro e' w2 ⟨rfl, rfl⟩
        go_wp2_with fail
        refine HC1.out.mono ?_
        rintro e' w2 ⟨rfl, rfl⟩
        go_wp2_with fail
        go_ret
        exact ⟨rfl, rfl⟩
      · clear hc0
        go_wp2_with fail
        refine HA.out.mono ?_
        rintro e' w2 ⟨rfl, rfl⟩
        go_wp2_with fail
        refine HA1.out.mono ?_
        rintro e' w2 ⟨rfl, rfl⟩
        go_wp2_with fail
        refine HB.out.mono ?_
        rintro e' w2 ⟨rfl, rfl⟩
        go_wp2_with fail
        refine HB1.out.mono ?_
        rintro e' w2 ⟨rfl, rfl⟩
        go_wp2_with fail
        refine HC.out.mono ?_
        rintro e' w2 ⟨rfl, rfl⟩
        go_wp2_with fail
        refine HC1.out.mono ?_
        rintro e' w2 ⟨rfl, rfl⟩
        go_wp2_with fail
        go_ret
        exact ⟨rfl, rfl⟩
      · clear hc0
        go_wp2_with fail
        refine HA.out.mono ?_
        rintro e' w2 ⟨rfl, rfl⟩
        go_wp2_with fail
        refine HA1.out.mono ?_
        rintro e' w2 ⟨rfl, rfl⟩
        go_wp2_with fail
        refine HB.out.mono ?_
        rintro e' w2 ⟨rfl, rfl⟩
        go_wp2_with fail
        refine HB1.out.mono ?_
        rintro e' w2 ⟨rfl, rfl⟩
        go_wp2_with fail
        refine HC.out.mono ?_
        rintro e' w2 ⟨rfl, rfl⟩
        go_wp2_with fail
        refine HC1.out.mono ?_
        rintro e' w2 ⟨rfl, rfl⟩
        go_wp2_with fail
        go_ret
        exact ⟨rfl, rfl⟩
      · exact absurd rfl hc0
    · rcases hc1 with hc1 | ⟨rfl, y, had, ⟨c, hyx, hc⟩, hrp, hrn, hql⟩
      · rcases c1 with _ | (_ | _ | _)
        · clear hc1
          go_wp2_with fail
          refine HA.out.mono ?_
          rintro e' w2 ⟨rfl, rfl⟩
          go_wp2_with fail
          refine HA1.out.mono ?_
          rintro e' w2 ⟨rfl, rfl⟩
          go_wp2_with fail
          refine HB.out.mono ?_
          rintro e' w2 ⟨rfl, rfl⟩
          go_wp2_with fail
          refine HB1.out.mono ?_
          rintro e' w2 ⟨rfl, rfl⟩
          go_wp2_with fail
          refine HC.out.mono ?_
          rintro e' w2 ⟨rfl, rfl⟩
          go_wp2_with fail
          refine HC1.out.mono ?_
          rintro e' w2 ⟨rfl, rfl⟩
          go_wp2_with fail
          go_ret
          exact ⟨rfl, rfl⟩
        · exact absurd rfl hc1
        · clear hc1
          go_wp2_with fail
          refine HA.out.mono ?_
          rintro e' w2 ⟨rfl, rfl⟩
          go_wp2_with fail
          refine HA1.out.mono ?_
          rintro e' w2 ⟨rfl, rfl⟩
          go_wp2_with fail
          refine HB.out.mono ?_
          rintro e' w2 ⟨rfl, rfl⟩
          go_wp2_with fail
          refine HB1.out.mono ?_
          rintro e' w2 ⟨rfl, rfl⟩
          go_wp2_with fail
          refine HC.out.mono ?_
          rintro e' w2 ⟨rfl, rfl⟩
          go_wp2_with fail
          refine HC1.out.mono ?_
          rintro e' w2 ⟨rfl, rfl⟩
          go_wp2_with fail
          go_ret
          exact ⟨rfl, rfl⟩
        · clear hc1
          go_wp2_with fail
          refine HA.out.mono ?_
          rintro e' w2 ⟨rfl, rfl⟩
          go_wp2_with fail
          refine HA1.out.mono ?_
          rintro e' w2 ⟨rfl, rfl⟩
          go_wp2_with fail
          refine HB.out.mono ?_
          rintro e' w2 ⟨rfl, rfl⟩
          go_wp2_with fail
          refine HB1.out.mono ?_
          rintro e' w2 ⟨rfl, rfl⟩
          go_wp2_with fail
          refine HC.out.mono ?_
          rintro e' w2 ⟨rfl, rfl⟩
          go_wp2_with fail
          refine HC1.out.mono ?_
          rintro e' w2 ⟨rfl, rfl⟩
          go_wp2_with fail
          go_ret
          exact ⟨rfl, rfl⟩
      · have hadp : ∀ w : World, (binOp .add 22 (.float .f64 F) (.float .f64 p)).run Tryd.prog w = .ok (.float .f64 y) w := fun w => run_float_arith (P := Tryd.prog) w .add 22 .f64 _ _ _ had
        have hng : ∀ w : World, (Op.unary .neg (.float .f64 p)).run Tryd.prog w = .ok (.float .f64 (Op.negFloat .f64 p)) w := fun w => rfl
        obtain ⟨q, hq⟩ : ∃ F, Hid (Op.negFloat .f64 p = F) := ⟨_, hide rfl⟩
        rw [hq.out] at hng hrn hql
        have hnp := round_c q hql w2
        have hpp := round_c p hp w2
        rw [hrn] at hnp
        rw [hrp] at hpp
        have HNP := hide hnp
        have HP := hide hpp
        clear hnp hpp hrn hrp had hq
        rcases c with _ | _ | _
        · obtain ⟨hy, hry⟩ := hc rfl
          have hyc := round_c y hy w2
          rw [hry] at hyc
          have HY := hide hyc
          clear hyc hry hc hFF
          go_wp2_with fail
          refine HY.out.mono ?_
          rintro e' w2 ⟨rfl, rfl⟩
          go_wp2_with fail
          refine HNP.out.mono ?_
          rintro e' w2 ⟨rfl, rfl⟩
          go_wp2_with fail
          refine HS1.out.mono ?_
          rintro e' w2 ⟨rfl, rfl⟩
          go_wp2_with fail
          refine HNP.out.mono ?_
          rintro e' w2 ⟨rfl, rfl⟩
          go_wp2_with fail
          refine HP.out.mono ?_
          rintro e' w2 ⟨rfl, rfl⟩
          go_wp2_with fail
          refine HS0.out.mono ?_
          rintro e' w2 ⟨rfl, rfl⟩
          go_wp2_with fail
          go_ret
          exact ⟨rfl, rfl⟩
        · clear hc hFF
          go_wp2_with fail
          refine HNP.out.mono ?_
          rintro e' w2 ⟨rfl, rfl⟩
          go_wp2_with fail
          refine HS1.out.mono ?_
          rintro e' w2 ⟨rfl, rfl⟩
          go_wp2_with fail
          refine HNP.out.mono ?_
          rintro e' w2 ⟨rfl, rfl⟩
          go_wp2_with fail
          refine HP.out.mono ?_
          rintro e' w2 ⟨rfl, rfl⟩
          go_wp2_with fail
          refine HS0.out.mono ?_
          rintro e' w2 ⟨rfl, rfl⟩
          go_wp2_with fail
          go_ret
          exact ⟨rfl, rfl⟩
        · clear hc hFF
          go_wp2_with fail
          refine HNP.out.mono ?_
          rintro e' w2 ⟨rfl, rfl⟩
          go_wp2_with fail
          refine HS1.out.mono ?_
          rintro e' w2 ⟨rfl, rfl⟩
          go_wp2_with fail
          refine HNP.out.mono ?_
          rintro e' w2 ⟨rfl, rfl⟩
          go_wp2_with fail
          refine HP.out.mono ?_
          rintro e' w2 ⟨rfl, rfl⟩
          go_wp2_with fail
          refine HS0.out.mono ?_
          rintro e' w2 ⟨rfl, rfl⟩
          go_wp2_with fail
          go_ret
          exact ⟨rfl, rfl⟩
  · obtain ⟨e1, e2⟩ := hev (n + 1) (if_neg hpar).symm
    rw [e2] at hw
    have hfe := float_of_any (n + 1)
    have htm : ¬ n.tmod 2 = 0 := fun h => hpar (by have := Int.dvd_of_tmod_eq_zero h; omega)
    obtain ⟨G, hG⟩ : ∃ F, Hid (Flt.mk (n + 1) 0 = F) := ⟨_, hide rfl⟩
    rw [hG.out] at e1 hfe
    have HW := hide hw
    have hFF := hide hF.out
    clear hF
    clear hw hev hG e2 hpar
    go_wp2_with fail
    refine HR.out.mono ?_
    rintro e' w2 ⟨rfl, rfl⟩
    go_wp2_with fail
    refine HW.out.mono ?_
    rintro e' w2 ⟨rfl, rfl⟩
    obtain ⟨c0, h0, hc0⟩ := hpart
    rcases hc0 with hc0 | ⟨rfl, c1, h1, hc1⟩
    · rcases c0 with _ | (_ | _ | _)
      · clear hc0
        go_wp2_with fail
        refine HA.out.mono ?_
        rintro e' w2 ⟨rfl, rfl⟩
        go_wp2_with fail
        refine HA1.out.mono ?_
        rintro e' w2 ⟨rfl, rfl⟩
        go_wp2_with fail
        refine HB.out.mono ?_
        rintro e' w2 ⟨rfl, rfl⟩
        go_wp2_with fail
        refine HB1.out.mono ?_
        rintro e' w2 ⟨rfl, rfl⟩
        go_wp2_with fail
        refine HC.out.mono ?_
        rintro e' w2 ⟨rfl, rfl⟩
        go_wp2_with fail
        refine HC1.out.mono ?_
        rintro e' w2 ⟨rfl, rfl⟩
        go_wp2_with fail
        go_ret
        exact ⟨rfl, rfl⟩
      · clear hc0
        go_wp2_with fail
        refine HA.out.mono ?_
        rintro e' w2 ⟨rfl, rfl⟩
        go_wp2_with fail
        refine HA1.out.mono ?_
        rintro e' w2 ⟨rfl, rfl⟩
        go_wp2_with fail
        refine HB.out.mono ?_
        rintro e' w2 ⟨rfl, rfl⟩
        go_wp2_with fail
        refine HB1.out.mono ?_
        rintro e' w2 ⟨rfl, rfl⟩
        go_wp2_with fail
        refine HC.out.mono ?_
        rintro e' w2 ⟨rfl, rfl⟩
        go_wp2_with fail
        refine HC1.out.mono ?_
        rintro e' w2 ⟨rfl, rfl⟩
        go_wp2_with fail
        go_ret
        exact ⟨rfl, rfl⟩
      · clear hc0
        go_wp2_with fail
        refine HA.out.mono ?_
        rintro e' w2 ⟨rfl, rfl⟩
        go_wp2_with fail
        refine HA1.out.mono ?_
        rintro e' w2 ⟨rfl, rfl⟩
        go_wp2_with fail
        refine HB.out.mono ?_
        rintro e' w2 ⟨rfl, rfl⟩
        go_wp2_with fail
        refine HB1.out.mono ?_
        rintro e' w2 ⟨rfl, rfl⟩
        go_wp2_with fail
        refine HC.out.mono ?_
        rintro e' w2 ⟨rfl, rfl⟩
        go_wp2_with fail
        refine HC1.out.mono ?_
        rintro e' w2 ⟨rfl, rfl⟩
        go_wp2_with fail
        go_ret
        exact ⟨rfl, rfl⟩
      · exact absurd rfl hc0
    · rcases hc1 with hc1 | ⟨rfl, y, had, ⟨c, hyx, hc⟩, hrp, hrn, hql⟩
      · rcases c1 with _ | (_ | _ | _)
        · clear hc1
          go_wp2_with fail
          refine HA.out.mono ?_
          rintro e' w2 ⟨rfl, rfl⟩
          go_wp2_with fail
          refine HA1.out.mono ?_
          rintro e' w2 ⟨rfl, rfl⟩
          go_wp2_with fail
          refine HB.out.mono ?_
          rintro e' w2 ⟨rfl, rfl⟩
          go_wp2_with fail
          refine HB1.out.mono ?_
          rintro e' w2 ⟨rfl, rfl⟩
          go_wp2_with fail
          refine HC.out.mono ?_
          rintro e' w2 ⟨rfl, rfl⟩
          go_wp2_with fail
          refine HC1.out.mono ?_
          rintro e' w2 ⟨rfl, rfl⟩
          go_wp2_with fail
          go_ret
          exact ⟨rfl, rfl⟩
        · exact absurd rfl hc1
        · clear hc1
          go_wp2_with fail
          refine HA.out.mono ?_
          rintro e' w2 ⟨rfl, rfl⟩
          go_wp2_with fail
          refine HA1.out.mono ?_
          rintro e' w2 ⟨rfl, rfl⟩
          go_wp2_with fail
          refine HB.out.mono ?_
          rintro e' w2 ⟨rfl, rfl⟩
          go_wp2_with fail
          refine HB1.out.mono ?_
          rintro e' w2 ⟨rfl, rfl⟩
          go_wp2_with fail
          refine HC.out.mono ?_
          rintro e' w2 ⟨rfl, rfl⟩
          go_wp2_with fail
          refine HC1.out.mono ?_
          rintro e' w2 ⟨rfl, rfl⟩
          go_wp2_with fail
          go_ret
          exact ⟨rfl, rfl⟩
        · clear hc1
          go_wp2_with fail
          refine HA.out.mono ?_
          rintro e' w2 ⟨rfl, rfl⟩
          go_wp2_with fail
          refine HA1.out.mono ?_
          rintro e' w2 ⟨rfl, rfl⟩
          go_wp2_with fail
          refine HB.out.mono ?_
          rintro e' w2 ⟨rfl, rfl⟩
          go_wp2_with fail
          refine HB1.out.mono ?_
          rintro e' w2 ⟨rfl, rfl⟩
          go_wp2_with fail
          refine HC.out.mono ?_
          rintro e' w2 ⟨rfl, rfl⟩
          go_wp2_with fail
          refine HC1.out.mono ?_
          rintro e' w2 ⟨rfl, rfl⟩
          go_wp2_with fail
          go_ret
          exact ⟨rfl, rfl⟩
      · have hadp : ∀ w : World, (binOp .add 22 (.float .f64 F) (.float .f64 p)).run Tryd.prog w = .ok (.float .f64 y) w := fun w => run_float_arith (P := Tryd.prog) w .add 22 .f64 _ _ _ had
        have hng : ∀ w : World, (Op.unary .neg (.float .f64 p)).run Tryd.prog w = .ok (.float .f64 (Op.negFloat .f64 p)) w := fun w => rfl
        obtain ⟨q, hq⟩ : ∃ F, Hid (Op.negFloat .f64 p = F) := ⟨_, hide rfl⟩
        rw [hq.out] at hng hrn hql
        have hnp := round_c q hql w2
        have hpp := round_c p hp w2
        rw [hrn] at hnp
        rw [hrp] at hpp
        have HNP := hide hnp
        have HP := hide hpp
        clear hnp hpp hrn hrp had hq
        rcases c with _ | _ | _
        · obtain ⟨hy, hry⟩ := hc rfl
          have hyc := round_c y hy w2
          rw [hry] at hyc
          have HY := hide hyc
          clear hyc hry hc hFF
          go_wp2_with fail
          refine HY.out.mono ?_
          rintro e' w2 ⟨rfl, rfl⟩
          go_wp2_with fail
          refine HNP.out.mono ?_
          rintro e' w2 ⟨rfl, rfl⟩
          go_wp2_with fail
          refine HS1.out.mono ?_
          rintro e' w2 ⟨rfl, rfl⟩
          go_wp2_with fail
          refine HNP.out.mono ?_
          rintro e' w2 ⟨rfl, rfl⟩
          go_wp2_with fail
          refine HP.out.mono ?_
          rintro e' w2 ⟨rfl, rfl⟩
          go_wp2_with fail
          refine HS0.out.mono ?_
          rintro e' w2 ⟨rfl, rfl⟩
          go_wp2_with fail
          go_ret
          exact ⟨rfl, rfl⟩
        · clear hc hFF
          go_wp2_with fail
          refine HNP.out.mono ?_
          rintro e' w2 ⟨rfl, rfl⟩
          go_wp2_with fail
          refine HS1.out.mono ?_
          rintro e' w2 ⟨rfl, rfl⟩
          go_wp2_with fail
          refine HNP.out.mono ?_
          rintro e' w2 ⟨rfl, rfl⟩
          go_wp2_with fail
          refine HP.out.mono ?_
          rintro e' w2 ⟨rfl, rfl⟩
          go_wp2_with fail
          refine HS0.out.mono ?_
          rintro e' w2 ⟨rfl, rfl⟩
          go_wp2_with fail
          go_ret
          exact ⟨rfl, rfl⟩
        · clear hc hFF
          go_wp2_with fail
          refine HNP.out.mono ?_
          rintro e' w2 ⟨rfl, rfl⟩
          go_wp2_with fail
          refine HS1.out.mono ?_
          rintro e' w2 ⟨rfl, rfl⟩
          go_wp2_with fail
          refine HNP.out.mono ?_
          rintro e' w2 ⟨rfl, rfl⟩
          go_wp2_with fail
          refine HP.out.mono ?_
          rintro e' w2 ⟨rfl, rfl⟩
          go_wp2_with fail
          refine HS0.out.mono ?_
          rintro e' w2 ⟨rfl, rfl⟩
          go_wp2_with fail
          go_ret
          exact ⟨rfl, rfl⟩
end Go.Proofs.YteeiehaebiigfaaDoor
