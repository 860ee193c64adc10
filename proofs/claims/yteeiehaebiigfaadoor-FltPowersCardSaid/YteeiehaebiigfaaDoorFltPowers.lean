/-
  The law FltPowers of package lodgelaw3, walked. By an AI agent. No person has read it.
-/
import Derived.Test.YteeiehaebiigfaaDoorFltLd
import Derived.Test.YteeiehaebiigfaaDoorFltB
import Derived.Test.YteeiehaebiigfaaDoorFltX
import Derived.Test.YteeiehaebiigfaaDoorFltGreat
namespace Go.Proofs.YteeiehaebiigfaaDoor
open Go.RowKit

theorem float_of (M : Int) (h0 : M ≠ 0) : floatOfInt .f64 M = Flt.mk M 0 := by
  unfold Flt.mk
  rw [if_neg h0]
  rfl
theorem kind_usual (x : Nat) (h0 : Flt.expo x ≠ 0) (h7 : Flt.expo x ≠ 2047) : Flt.kindNo x = 5 ∧ Flt.kindNeg x = Flt.neg x := by
  unfold Flt.kindNo Flt.kindNeg
  simp [h0, h7]

set_option maxRecDepth 100000 in
set_option maxHeartbeats 8000000 in
theorem powers_c (m n : Int) (hm : -9223372036854775808 ≤ m) (hm2 : m ≤ 9223372036854775807) (w : World) (hT : Tz w) :
    Calls Tryd.prog 11 #[.int .i64 m, .int .i64 n] w fun e w' => e = .returned (.bool true) ∧ w' = w := by
  have H0 := hide (first_c w hT)
  have H1 := hide (number_c n 1800 (by decide) (by decide) 1800 rfl w)
  obtain ⟨j, hj, hj1, hj2⟩ := odd_or m hm hm2
  obtain ⟨M, hM⟩ : ∃ M, 2 * j + 1 = M := ⟨_, rfl⟩
  rw [hM] at hj hj1 hj2
  have hM0 : M ≠ 0 := by omega
  have hMo : M.natAbs % 2 = 1 := by omega
  have hMl : M.natAbs < 9007199254740992 := by omega
  clear hM
  have hl : M.natAbs.log2 < 53 := (Nat.log2_lt (by omega)).2 hMl
  obtain ⟨f1, f2, f3, f4, -⟩ := mk_odd M 0 hMo hMl (by decide) (by decide)
  have hfo := float_of M hM0
  by_cases hneg : M < 0
  · rw [decide_eq_true hneg] at f3
    go_enter Tryd.func11, Tryd.ntmps11
    go_wp2_with fail
    refine H0.out.mono ?_
    rintro e w1 ⟨rfl, rfl⟩
    go_wp2_with fail
    refine H1.out.mono ?_
    rintro e w1 ⟨⟨k, hk, rfl⟩, rfl⟩
    obtain ⟨e, he⟩ : ∃ e : Int, (k : Int) - 950 = e := ⟨_, rfl⟩
    have he1 : -950 ≤ e := by omega
    have he2 : e < 850 := by omega
    obtain ⟨x1, x2, x3, x4, x5⟩ := mk_odd M e hMo hMl (by omega) (by omega)
    obtain ⟨y1, y2, y3, y4, y5⟩ := mk_odd M (e + 1) hMo hMl (by omega) (by omega)
    obtain ⟨z1, z2, z3, z4, -⟩ := mk_odd (-M) e (by omega) (by omega) (by omega) (by omega)
    rw [decide_eq_true hneg] at x3 y3
    rw [Int.natAbs_neg] at z2 z4
    have hxs := Flt.split_word _ x1
    have hys := Flt.split_word _ y1
    have hzs := Flt.split_word _ z1
    rw [x3] at hxs
    rw [y3] at hys
    rw [z3, show decide (-M < 0) = false by rw [decide_eq_false_iff_not]; omega] at hzs
    simp only [Bool.false_eq_true, if_false, if_true] at hxs hys hzs
    have h2 := make_c M e (by omega) (by omega) w1
    have h3 := ldexp_c (Flt.mk M 0) e f1 (by omega) (by omega) (e + M.natAbs.log2 + 1023).toNat (by omega) (by omega) (by omega) (by omega) (by omega) w1
    rw [f3] at h3
    simp only [if_true] at h3
    have hR : 9223372036854775808 + ((e + (M.natAbs.log2 : Int) + 1023).toNat * 4503599627370496 + Flt.frac (Flt.mk M 0)) = Flt.mk M e := by omega
    rw [hR] at h3
    have hnx : Flt.nanb (Flt.mk M e) = false := by
      unfold Flt.nanb
      unfold Flt.expo at x2
      rw [decide_eq_false_iff_not]
      omega
    have hox := order_num' hnx
    have h4 := parts_c (Flt.mk M e) x1 w1 hT
    rw [x5] at h4
    have hmu := mul_pow (Flt.mk M e) x1 (by omega) (by omega) 4611686018427387904 1 (by decide +kernel) (by omega)
    have hx2 : Flt.mk M e + 1 * 4503599627370496 = Flt.mk M (e + 1) := by omega
    rw [hx2] at hmu
    have hmul : ∀ w : World, (binOp .mul 22 (.float .f64 4611686018427387904) (.float .f64 (Flt.mk M e))).run Tryd.prog w = .ok (.float .f64 (Flt.mk M (e + 1))) w := fun w => run_float_arith (P := Tryd.prog) w .mul 22 .f64 _ _ _ hmu
    have h5 := parts_c (Flt.mk M (e + 1)) y1 w1 hT
    rw [y5] at h5
    have h6 := kind_c (Flt.mk M e) x1 w1
    rw [(kind_usual _ (by omega) (by omega)).1, (kind_usual _ (by omega) (by omega)).2, x3] at h6
    have h7 := make_c (-M) e (by omega) (by omega) w1
    have hng : ∀ w : World, (Op.unary .neg (.float .f64 (Flt.mk M e))).run Tryd.prog w = .ok (.float .f64 (Flt.mk (-M) e)) w := fun w => by
      have h := neg_bits (Flt.mk (-M) e) (by omega)
      have h9 : Op.negFloat .f64 (Flt.mk M e) = Flt.mk (-M) e := by
        rw [show Flt.mk M e = Op.negFloat .f64 (Flt.mk (-M) e) by omega]
        unfold Op.negFloat
        rw [Nat.xor_assoc, Nat.xor_self, Nat.xor_zero]
      rw [← h9]
      rfl
    have h8 := same_c (Flt.mk (-M) e) (Flt.mk (-M) e) w1
    rw [Flt.same_self] at h8
    obtain ⟨X, hX⟩ : ∃ X, Hid (Flt.mk M e = X) := ⟨_, hide rfl⟩
    obtain ⟨Y, hY⟩ : ∃ X, Hid (Flt.mk M (e + 1) = X) := ⟨_, hide rfl⟩
    obtain ⟨Z, hZ⟩ : ∃ X, Hid (Flt.mk (-M) e = X) := ⟨_, hide rfl⟩
    obtain ⟨F, hF⟩ : ∃ X, Hid (Flt.mk M 0 = X) := ⟨_, hide rfl⟩
    rw [hX.out] at h2 h3 hox h4 hmul h6 hng
    rw [hY.out] at hmul h5
    rw [hZ.out] at h7 h8 hng
    rw [hF.out] at h3 hfo
    have H2 := hide h2
    have H3 := hide h3
    have H4 := hide h4
    have H5 := hide h5
    have H6 := hide h6
    have H7 := hide h7
    have H8 := hide h8
    clear h2 h3 h4 h5 h6 h7 h8 hX hY hZ hF hmu hx2 hR hnx hxs hys hzs x1 x2 x3 x4 x5 y1 y2 y3 y4 y5 z1 z2 z3 z4 f1 f2 f3 f4 hMo hMl hl hk
    go_wp2_with fail
    refine H2.out.mono ?_
    rintro e' w2 ⟨rfl, rfl⟩
    go_wp2_with fail
    refine H3.out.mono ?_
    rintro e' w2 ⟨rfl, rfl⟩
    go_wp2_with fail
    refine H4.out.mono ?_
    rintro e' w2 ⟨rfl, rfl⟩
    go_wp2_with fail
    refine H5.out.mono ?_
    rintro e' w2 ⟨rfl, rfl⟩
    go_wp2_with fail
    refine H6.out.mono ?_
    rintro e' w2 ⟨rfl, rfl⟩
    go_wp2_with fail
    refine H2.out.mono ?_
    rintro e' w2 ⟨rfl, rfl⟩
    go_wp2_with fail
    refine H7.out.mono ?_
    rintro e' w2 ⟨rfl, rfl⟩
    go_wp2_with fail
    refine H8.out.mono ?_
    rintro e' w2 ⟨rfl, rfl⟩
    go_wp2_with fail
    go_ret
    exact ⟨rfl, rfl⟩
  · rw [decide_eq_false hneg] at f3
    go_enter Tryd.func11, Tryd.ntmps11
    go_wp2_with fail
    refine H0.out.mono ?_
    rintro e w1 ⟨rfl, rfl⟩
    go_wp2_with fail
    refine H1.out.mono ?_
    rintro e w1 ⟨⟨k, hk, rfl⟩, rfl⟩
    obtain ⟨e, he⟩ : ∃ e : Int, (k : Int) - 950 = e := ⟨_, rfl⟩
    have he1 : -950 ≤ e := by omega
    have he2 : e < 850 := by omega
    obtain ⟨x1, x2, x3, x4, x5⟩ := mk_odd M e hMo hMl (by omega) (by omega)
    obtain ⟨y1, y2, y3, y4, y5⟩ := mk_odd M (e + 1) hMo hMl (by omega) (by omega)
    obtain ⟨z1, z2, z3, z4, -⟩ := mk_odd (-M) e (by omega) (by omega) (by omega) (by omega)
    rw [decide_eq_false (by omega)] at x3 y3
    rw [Int.natAbs_neg] at z2 z4
    have hxs := Flt.split_word _ x1
    have hys := Flt.split_word _ y1
    have hzs := Flt.split_word _ z1
    rw [x3] at hxs
    rw [y3] at hys
    rw [z3, show decide (-M < 0) = true by rw [decide_eq_true_eq]; omega] at hzs
    simp only [Bool.false_eq_true, if_false, if_true] at hxs hys hzs
    have h2 := make_c M e (by omega) (by omega) w1
    have h3 := ldexp_c (Flt.mk M 0) e f1 (by omega) (by omega) (e + M.natAbs.log2 + 1023).toNat (by omega) (by omega) (by omega) (by omega) (by omega) w1
    rw [f3] at h3
    simp only [Bool.false_eq_true, if_false] at h3
    have hR : 0 + ((e + (M.natAbs.log2 : Int) + 1023).toNat * 4503599627370496 + Flt.frac (Flt.mk M 0)) = Flt.mk M e := by omega
    rw [hR] at h3
    have hnx : Flt.nanb (Flt.mk M e) = false := by
      unfold Flt.nanb
      unfold Flt.expo at x2
      rw [decide_eq_false_iff_not]
      omega
    have hox := order_num' hnx
    have h4 := parts_c (Flt.mk M e) x1 w1 hT
    rw [x5] at h4
    have hmu := mul_pow (Flt.mk M e) x1 (by omega) (by omega) 4611686018427387904 1 (by decide +kernel) (by omega)
    have hx2 : Flt.mk M e + 1 * 4503599627370496 = Flt.mk M (e + 1) := by omega
    rw [hx2] at hmu
    have hmul : ∀ w : World, (binOp .mul 22 (.float .f64 4611686018427387904) (.float .f64 (Flt.mk M e))).run Tryd.prog w = .ok (.float .f64 (Flt.mk M (e + 1))) w := fun w => run_float_arith (P := Tryd.prog) w .mul 22 .f64 _ _ _ hmu
    have h5 := parts_c (Flt.mk M (e + 1)) y1 w1 hT
    rw [y5] at h5
    have h6 := kind_c (Flt.mk M e) x1 w1
    rw [(kind_usual _ (by omega) (by omega)).1, (kind_usual _ (by omega) (by omega)).2, x3] at h6
    have h7 := make_c (-M) e (by omega) (by omega) w1
    have hng : ∀ w : World, (Op.unary .neg (.float .f64 (Flt.mk M e))).run Tryd.prog w = .ok (.float .f64 (Flt.mk (-M) e)) w := fun w => by
      have h := neg_bits (Flt.mk M e) (by omega)
      have h9 : Op.negFloat .f64 (Flt.mk M e) = Flt.mk (-M) e := by omega
      rw [← h9]
      rfl
    have h8 := same_c (Flt.mk (-M) e) (Flt.mk (-M) e) w1
    rw [Flt.same_self] at h8
    obtain ⟨X, hX⟩ : ∃ X, Hid (Flt.mk M e = X) := ⟨_, hide rfl⟩
    obtain ⟨Y, hY⟩ : ∃ X, Hid (Flt.mk M (e + 1) = X) := ⟨_, hide rfl⟩
    obtain ⟨Z, hZ⟩ : ∃ X, Hid (Flt.mk (-M) e = X) := ⟨_, hide rfl⟩
    obtain ⟨F, hF⟩ : ∃ X, Hid (Flt.mk M 0 = X) := ⟨_, hide rfl⟩
    rw [hX.out] at h2 h3 hox h4 hmul h6 hng
    rw [hY.out] at hmul h5
    rw [hZ.out] at h7 h8 hng
    rw [hF.out] at h3 hfo
    have H2 := hide h2
    have H3 := hide h3
    have H4 := hide h4
    have H5 := hide h5
    have H6 := hide h6
    have H7 := hide h7
    have H8 := hide h8
    clear h2 h3 h4 h5 h6 h7 h8 hX hY hZ hF hmu hx2 hR hnx hxs hys hzs x1 x2 x3 x4 x5 y1 y2 y3 y4 y5 z1 z2 z3 z4 f1 f2 f3 f4 hMo hMl hl hk
    go_wp2_with fail
    refine H2.out.mono ?_
    rintro e' w2 ⟨rfl, rfl⟩
    go_wp2_with fail
    refine H3.out.mono ?_
    rintro e' w2 ⟨rfl, rfl⟩
    go_wp2_with fail
    refine H4.out.mono ?_
    rintro e' w2 ⟨rfl, rfl⟩
    go_wp2_with fail
    refine H5.out.mono ?_
    rintro e' w2 ⟨rfl, rfl⟩
    go_wp2_with fail
    refine H6.out.mono ?_
    rintro e' w2 ⟨rfl, rfl⟩
    go_wp2_with fail
    refine H2.out.mono ?_
    rintro e' w2 ⟨rfl, rfl⟩
    go_wp2_with fail
    refine H7.out.mono ?_
    rintro e' w2 ⟨rfl, rfl⟩
    go_wp2_with fail
    refine H8.out.mono ?_
    rintro e' w2 ⟨rfl, rfl⟩
    go_wp2_with fail
    go_ret
    refine ⟨?_, rfl⟩
    change Ending.returned (Value.bool (!decide (M < 0))) = _
    rw [decide_eq_false (by omega)]
    rfl
end Go.Proofs.YteeiehaebiigfaaDoor
