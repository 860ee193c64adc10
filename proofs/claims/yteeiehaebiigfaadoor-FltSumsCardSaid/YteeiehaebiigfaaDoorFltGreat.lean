/-
  The law FltGreat of package lodgelaw3, walked. By an AI agent. No person has read it.
-/
import Derived.Test.YteeiehaebiigfaaDoorFltB
import Derived.Test.YteeiehaebiigfaaDoorFltX
namespace Go.Proofs.YteeiehaebiigfaaDoor
open Go.RowKit

/-- A number that is finite and has no place below one is whole: its rounding is itself. -/
theorem near_great (s : Nat) (e : Int) (h0 : s ≠ 0) (hs : s < 9007199254740992) (he : 100 ≤ e) (he2 : e < 1000) : Flt.rround (Flt.near s e) = Flt.near s e ∧ Flt.nanb (Flt.near s e) = false := by
  have hl64 : s.log2 < 53 := (Nat.log2_lt h0).2 hs
  have hge : 1075 * 4503599627370496 ≤ Flt.near s e := by
    rw [near_eq s e h0]
    have hm : max (e + (s.log2 : Int) - 52) (-1074) = e + s.log2 - 52 := by omega
    rw [hm]
    have h1 : 1122 ≤ (e + (s.log2 : Int) - 52 + 1074).toNat := by omega
    have h2 := Nat.mul_le_mul_right 4503599627370496 h1
    apply Nat.le_min.2
    constructor
    · omega
    · decide
  have hle := near_lt s e h0
  have hx : 1075 ≤ Flt.expo (Flt.near s e) := by unfold Flt.expo; omega
  constructor
  · unfold Flt.rround
    rw [if_pos hx]
  · unfold Flt.nanb
    rw [decide_eq_false_iff_not]
    omega
theorem near_inf (s : Nat) (e : Int) (h0 : s ≠ 0) (he : 1200 ≤ e) : Flt.near s e = 9218868437227405312 := by
  rw [near_eq s e h0]
  apply Nat.min_eq_right
  have h1 : 2222 ≤ (max (e + (s.log2 : Int) - 52) (-1074) + 1074).toNat := by omega
  have h2 := Nat.mul_le_mul_right 4503599627370496 h1
  omega
theorem odd_or (m : Int) (h1 : -9223372036854775808 ≤ m) (h2 : m ≤ 9223372036854775807) : ∃ k : Int, bits .or .i64 (m / 4096) 1 = 2 * k + 1 ∧ -2251799813685248 ≤ 2 * k + 1 ∧ 2 * k + 1 ≤ 2251799813685247 := by
  obtain ⟨q, hq⟩ : ∃ q, m / 4096 = q := ⟨_, rfl⟩
  rw [hq]
  have hq1 : -2251799813685248 ≤ q := by omega
  have hq2 : q ≤ 2251799813685247 := by omega
  refine ⟨q / 2, ?_, by omega, by omega⟩
  have e1 : bits .or .i64 q 1 = IntKind.i64.wrap (((BitVec.ofInt 64 q) ||| (BitVec.ofInt 64 1)).toNat : Int) := rfl
  have e2 : (BitVec.ofInt 64 1).toNat = 1 := by decide
  rw [e1, BitVec.toNat_or, e2, BitVec.toNat_ofInt]
  obtain ⟨t, ht⟩ : ∃ t, (q % ((2 ^ 64 : Nat) : Int)).toNat = t := ⟨_, rfl⟩
  rw [ht]
  have e3 : t ||| 1 = 2 * (t / 2) + 1 := by
    have h1 := Nat.two_pow_add_eq_or_of_lt (b := t % 2) (i := 1) (by omega) (t / 2)
    have h2 := Nat.two_pow_add_eq_or_of_lt (b := 1) (i := 1) (by omega) (t / 2)
    have h3 : (t % 2) ||| 1 = 1 := by
      rcases (show t % 2 = 0 ∨ t % 2 = 1 by omega) with h | h <;> rw [h] <;> rfl
    have h4 : t = 2 ^ 1 * (t / 2) ||| t % 2 := by rw [← h1]; omega
    rw [h4, Nat.or_assoc, h3, ← h2, ← h4]
  rw [e3, IntKind.wrap_i64]
  omega
/-- A number with its sign. -/
theorem mk_sign (M : Int) (h0 : M ≠ 0) (e : Int) : Flt.mk M e = (if M < 0 then 9223372036854775808 else 0) + Flt.near M.natAbs e := by
  unfold Flt.mk
  rw [if_neg h0, near_sign _ _ _ (by omega)]
  congr 1
  by_cases h : M < 0
  · rw [if_pos (decide_eq_true h), if_pos h]
  · rw [if_neg (by simpa using h), if_neg h]
theorem round_great (M : Int) (h0 : M ≠ 0) (h1 : M.natAbs < 9007199254740992) (e : Int) (he : 100 ≤ e) (he2 : e < 1000) : Flt.mk M e < 18446744073709551616 ∧ Flt.round (Flt.mk M e) = Flt.mk M e := by
  have h := near_great M.natAbs e (by omega) h1 he he2
  have hle := near_lt M.natAbs e (by omega)
  rw [mk_sign M h0]
  have hx : 1075 ≤ Flt.expo (Flt.near M.natAbs e) := by
    by_cases hc : 1075 ≤ Flt.expo (Flt.near M.natAbs e)
    · exact hc
    · have hge : 1075 * 4503599627370496 ≤ Flt.near M.natAbs e := by
        rw [near_eq _ e (by omega)]
        have hl64 : M.natAbs.log2 < 53 := (Nat.log2_lt (by omega)).2 h1
        have hm : max (e + (M.natAbs.log2 : Int) - 52) (-1074) = e + M.natAbs.log2 - 52 := by omega
        rw [hm]
        have h1 : 1122 ≤ (e + (M.natAbs.log2 : Int) - 52 + 1074).toNat := by omega
        have h2 := Nat.mul_le_mul_right 4503599627370496 h1
        apply Nat.le_min.2
        constructor
        · omega
        · decide
      unfold Flt.expo
      omega
  generalize Flt.near M.natAbs e = N at *
  have hlt : (if M < 0 then 9223372036854775808 else 0) + N < 18446744073709551616 := by split <;> omega
  refine ⟨hlt, ?_⟩
  rw [round_rround _ hlt]
  unfold Flt.rround
  rw [if_pos]
  unfold Flt.expo at hx ⊢
  split <;> omega
set_option maxRecDepth 100000 in
set_option maxHeartbeats 4000000 in
theorem isinf_c (b : Nat) (g : Int) (hg : g = 1 ∨ g = -1) (hb : b = if g = 1 then 9218868437227405312 else 18442240474082181120) (w : World) :
    Calls Tryd.prog 46 #[.float .f64 b, .int .i64 g] w fun e w' => e = .returned (.bool true) ∧ w' = w := by
  have ho : FloatKind.f64.format.order 9218868437227405312 9218868437227405311 = some .gt := by decide +kernel
  have hng : ∀ w : World, (Op.unary .neg (.float .f64 18442240474082181120)).run Tryd.prog w = .ok (.float .f64 9218868437227405312) w := fun w => by
    have h : Op.negFloat .f64 18442240474082181120 = 9218868437227405312 := by decide +kernel
    rw [← h]
    rfl
  rcases hg with rfl | rfl
  · rw [if_pos rfl] at hb
    subst hb
    go_enter Tryd.func46, Tryd.ntmps46
    go_wp2_with fail
    go_ret
    exact ⟨rfl, rfl⟩
  · rw [if_neg (by decide)] at hb
    subst hb
    go_enter Tryd.func46, Tryd.ntmps46
    go_wp2_with fail
    go_ret
    exact ⟨rfl, rfl⟩
set_option maxRecDepth 100000 in
set_option maxHeartbeats 4000000 in
theorem great_c (m n : Int) (hm : -9223372036854775808 ≤ m) (hm2 : m ≤ 9223372036854775807) (w : World) (hT : Tz w) :
    Calls Tryd.prog 13 #[.int .i64 m, .int .i64 n] w fun e w' => e = .returned (.bool true) ∧ w' = w := by
  have H0 := hide (first_c w hT)
  have H1 := hide (number_c n 900 (by decide) (by decide) 900 rfl w)
  obtain ⟨j, hj, hj1, hj2⟩ := odd_or m hm hm2
  obtain ⟨M, hM⟩ : ∃ M, 2 * j + 1 = M := ⟨_, rfl⟩
  rw [hM] at hj hj1 hj2
  have hM0 : M ≠ 0 := by omega
  clear hM
  have h5 := make_c 9007199254740991 971 (by decide) (by decide) w
  rw [show Flt.mk 9007199254740991 971 = 9218868437227405311 by decide +kernel] at h5
  have h6 := make_c 9007199254740992 971 (by decide) (by decide) w
  rw [show Flt.mk 9007199254740992 971 = 9218868437227405312 by decide +kernel] at h6
  have H5 := hide h5
  have H6 := hide h6
  have H7 := hide (isinf_c 9218868437227405312 1 (.inl rfl) (by decide) w)
  have hom : FloatKind.f64.format.order 9218868437227405311 9218868437227405311 = some .eq := by decide +kernel
  clear h5 h6
  by_cases hneg : M < 0
  · have hbig : ∀ e : Int, 1200 ≤ e → Flt.mk M e = 18442240474082181120 := fun e he => by
      rw [mk_sign M hM0, if_pos hneg, near_inf _ e (by omega) he]
    have H8 := hide (isinf_c 18442240474082181120 (-1) (.inr rfl) (by decide) w)
    have h9 := wholeof_c 18442240474082181120 (by decide) (-7) 7 w
    rw [show Flt.clamp (Flt.wv (Flt.round 18442240474082181120)) (-7) 7 = -7 by decide +kernel] at h9
    have H9 := hide h9
    clear h9
    go_enter Tryd.func13, Tryd.ntmps13
    go_wp2_with fail
    refine H0.out.mono ?_
    rintro e w1 ⟨rfl, rfl⟩
    go_wp2_with fail
    refine H1.out.mono ?_
    rintro e w1 ⟨⟨k, hk, rfl⟩, rfl⟩
    have h2 := make_c M ((k : Int) + 100) (by omega) (by omega) w1
    have h3 := make_c M ((k : Int) + 100 + 1100) (by omega) (by omega) w1
    rw [hbig _ (by omega)] at h3
    obtain ⟨hx, hxr⟩ := round_great M hM0 (by omega) ((k : Int) + 100) (by omega) (by omega)
    have h4 := round_c (Flt.mk M ((k : Int) + 100)) hx w1
    rw [hxr] at h4
    have hsm := same_c (Flt.mk M ((k : Int) + 100)) (Flt.mk M ((k : Int) + 100)) w1
    rw [Flt.same_self] at hsm
    obtain ⟨X, hX⟩ : ∃ X, Hid (Flt.mk M ((k : Int) + 100) = X) := ⟨_, hide rfl⟩
    rw [hX.out] at h2 h4 hsm
    have H2 := hide h2
    have H3 := hide h3
    have H4 := hide h4
    have HS := hide hsm
    clear h2 h3 h4 hsm hx hxr hX hbig
    go_wp2_with fail
    refine H2.out.mono ?_
    rintro e w2 ⟨rfl, rfl⟩
    go_wp2_with fail
    refine H3.out.mono ?_
    rintro e w2 ⟨rfl, rfl⟩
    go_wp2_with fail
    refine H4.out.mono ?_
    rintro e w2 ⟨rfl, rfl⟩
    go_wp2_with fail
    refine HS.out.mono ?_
    rintro e w2 ⟨rfl, rfl⟩
    go_wp2_with fail
    refine H8.out.mono ?_
    rintro e w2 ⟨rfl, rfl⟩
    go_wp2_with fail
    refine H5.out.mono ?_
    rintro e w2 ⟨rfl, rfl⟩
    go_wp2_with fail
    refine H6.out.mono ?_
    rintro e w2 ⟨rfl, rfl⟩
    go_wp2_with fail
    refine H7.out.mono ?_
    rintro e w2 ⟨rfl, rfl⟩
    go_wp2_with fail
    refine H9.out.mono ?_
    rintro e w2 ⟨rfl, rfl⟩
    go_wp2_with fail
    go_ret
    exact ⟨rfl, rfl⟩
  · have hbig : ∀ e : Int, 1200 ≤ e → Flt.mk M e = 9218868437227405312 := fun e he => by
      rw [mk_sign M hM0, if_neg hneg, near_inf _ e (by omega) he]
    have H8 := hide (isinf_c 9218868437227405312 1 (.inl rfl) (by decide) w)
    have h9 := wholeof_c 9218868437227405312 (by decide) (-7) 7 w
    rw [show Flt.clamp (Flt.wv (Flt.round 9218868437227405312)) (-7) 7 = 7 by decide +kernel] at h9
    have H9 := hide h9
    clear h9
    go_enter Tryd.func13, Tryd.ntmps13
    go_wp2_with fail
    refine H0.out.mono ?_
    rintro e w1 ⟨rfl, rfl⟩
    go_wp2_with fail
    refine H1.out.mono ?_
    rintro e w1 ⟨⟨k, hk, rfl⟩, rfl⟩
    have h2 := make_c M ((k : Int) + 100) (by omega) (by omega) w1
    have h3 := make_c M ((k : Int) + 100 + 1100) (by omega) (by omega) w1
    rw [hbig _ (by omega)] at h3
    obtain ⟨hx, hxr⟩ := round_great M hM0 (by omega) ((k : Int) + 100) (by omega) (by omega)
    have h4 := round_c (Flt.mk M ((k : Int) + 100)) hx w1
    rw [hxr] at h4
    have hsm := same_c (Flt.mk M ((k : Int) + 100)) (Flt.mk M ((k : Int) + 100)) w1
    rw [Flt.same_self] at hsm
    obtain ⟨X, hX⟩ : ∃ X, Hid (Flt.mk M ((k : Int) + 100) = X) := ⟨_, hide rfl⟩
    rw [hX.out] at h2 h4 hsm
    have H2 := hide h2
    have H3 := hide h3
    have H4 := hide h4
    have HS := hide hsm
    clear h2 h3 h4 hsm hx hxr hX hbig
    go_wp2_with fail
    refine H2.out.mono ?_
    rintro e w2 ⟨rfl, rfl⟩
    go_wp2_with fail
    refine H3.out.mono ?_
    rintro e w2 ⟨rfl, rfl⟩
    go_wp2_with fail
    refine H4.out.mono ?_
    rintro e w2 ⟨rfl, rfl⟩
    go_wp2_with fail
    refine HS.out.mono ?_
    rintro e w2 ⟨rfl, rfl⟩
    go_wp2_with fail
    refine H8.out.mono ?_
    rintro e w2 ⟨rfl, rfl⟩
    go_wp2_with fail
    refine H5.out.mono ?_
    rintro e w2 ⟨rfl, rfl⟩
    go_wp2_with fail
    refine H6.out.mono ?_
    rintro e w2 ⟨rfl, rfl⟩
    go_wp2_with fail
    refine H7.out.mono ?_
    rintro e w2 ⟨rfl, rfl⟩
    go_wp2_with fail
    refine H9.out.mono ?_
    rintro e w2 ⟨rfl, rfl⟩
    go_wp2_with fail
    go_ret
    exact ⟨rfl, rfl⟩
end Go.Proofs.YteeiehaebiigfaaDoor
