/-
  Which numbers are finite and above nothing; a scale made. By an AI agent. No person has read it.
-/
import Derived.Test.YtboighnmgnjhdaaDoorQuaF
import Derived.Test.YtboighnmgnjhdaaDoorBasB
import Derived.Laws.ResultCell
namespace Go.Proofs.YtboighnmgnjhdaaDoor
open Go.RowKit
open Ieee

/-- Is it finite and above nothing? -/
def Qua.pos (b : Nat) : Bool := decide (0 < b ∧ b < 9218868437227405312)
theorem pos_cases (b : Nat) (hb : b < 18446744073709551616) :
    (Qua.pos b = true ∧ decide (3 ≤ Flt.kindNo b) = true ∧ FloatKind.f64.format.order b 0 = some .gt ∧ (FloatKind.f64.format.order b 9218868437227405311 = some .lt ∨ FloatKind.f64.format.order b 9218868437227405311 = some .eq)) ∨
    (Qua.pos b = false ∧ decide (3 ≤ Flt.kindNo b) = false ∧ FloatKind.f64.format.order b 0 = none) ∨
    (Qua.pos b = false ∧ (FloatKind.f64.format.order b 0 = some .eq ∨ FloatKind.f64.format.order b 0 = some .lt)) ∨
    (Qua.pos b = false ∧ decide (3 ≤ Flt.kindNo b) = false ∧ FloatKind.f64.format.order b 0 = some .gt ∧ FloatKind.f64.format.order b 9218868437227405311 = some .gt) := by
  have hz := key_zero.1
  by_cases hn : Flt.nanb b = true
  · refine .inr (.inl ⟨?_, ?_, order_none b _ hn⟩)
    · unfold Qua.pos
      unfold Flt.nanb at hn
      rw [decide_eq_true_eq] at hn
      rw [decide_eq_false_iff_not]
      omega
    · have := (Flt.nan_iff b).1 hn
      unfold Flt.kindNo
      rw [if_pos this]
      rfl
  · have hm : b % 9223372036854775808 ≤ 9218868437227405312 := by unfold Flt.nanb at hn; simp at hn; omega
    by_cases hi : b % 9223372036854775808 = 9218868437227405312
    · have he : Flt.expo b = 2047 := by unfold Flt.expo; omega
      have hf : Flt.frac b = 0 := by unfold Flt.frac; omega
      have hk : decide (3 ≤ Flt.kindNo b) = false := by
        unfold Flt.kindNo
        rw [if_neg (by omega), if_pos he]
        rfl
      have hp : Qua.pos b = false := by unfold Qua.pos; rw [decide_eq_false_iff_not]; omega
      have q1 := Flt.order_inf b 0 hb (by decide) he hf (by decide)
      have q2 := Flt.order_inf b 9218868437227405311 hb (by decide) he hf (by decide)
      cases hneg : Flt.neg b
      · rw [hneg] at q1 q2
        exact .inr (.inr (.inr ⟨hp, hk, q1, q2⟩))
      · rw [hneg] at q1
        exact .inr (.inr (.inl ⟨hp, .inr q1⟩))
    · have q := Flt.order_key b 0 hb (by decide) (by omega) (by decide)
      rw [hz] at q
      rcases Nat.lt_or_ge b 9223372036854775808 with hp | hp
      · have hk : Flt.key b = (Flt.mag b : Int) := if_neg (by omega)
        rcases Nat.eq_zero_or_pos b with h0 | h0
        · subst h0
          exact .inr (.inr (.inl ⟨by decide, .inl (by decide +kernel)⟩))
        · have hlt := mag_lt 0 b (by omega)
          rw [hk, Flt.cmp_gt (by omega)] at q
          refine .inl ⟨by unfold Qua.pos; rw [decide_eq_true_eq]; omega, ?_, q, ?_⟩
          · have he : Flt.expo b ≠ 2047 := by unfold Flt.expo; omega
            unfold Flt.kindNo
            rw [if_neg (by omega), if_neg he]
            split
            · rfl
            · split
              · rfl
              · rfl
          · rcases Nat.lt_or_ge b 9218868437227405311 with hl | hl
            · exact .inl (order_pos b 9218868437227405311 (by omega) (by decide) hl).1
            · obtain rfl : b = 9218868437227405311 := by omega
              exact .inr (by decide +kernel)
      · have hk : Flt.key b = -(Flt.mag b : Int) := if_pos hp
        have hpp : Qua.pos b = false := by unfold Qua.pos; rw [decide_eq_false_iff_not]; omega
        by_cases h0 : b % 9223372036854775808 = 0
        · obtain rfl : b = 9223372036854775808 := by omega
          exact .inr (.inr (.inl ⟨hpp, .inl (by decide +kernel)⟩))
        · have hlt := mag_lt 0 b (by omega)
          rw [hk, Flt.cmp_lt (by omega)] at q
          exact .inr (.inr (.inl ⟨hpp, .inr q⟩))
set_option maxRecDepth 100000 in
set_option maxHeartbeats 4000000 in
theorem positive_c (b : Nat) (hb : b < 18446744073709551616) (w : World) :
    Calls Tryd.prog 62 #[.float .f64 b] w fun e w' => e = .returned (.bool (Qua.pos b)) ∧ w' = w := by
  have hcs := pos_cases b hb
  obtain ⟨p, hp⟩ : ∃ p, Hid (Qua.pos b = p) := ⟨_, hide rfl⟩
  rw [hp.out] at hcs ⊢
  clear hp
  rcases hcs with ⟨rfl, -, o1, o2 | o2⟩ | ⟨rfl, -, o1⟩ | ⟨rfl, o1 | o1⟩ | ⟨rfl, -, o1, o2⟩
  all_goals
    go_enter Tryd.func62, Tryd.ntmps62
    go_wp2_with fail
    go_ret
    exact ⟨rfl, rfl⟩
/-- May they be a scale? -/
def Qua.good (b : Nat) (z : Int) : Bool := Qua.pos b && decide (-128 ≤ z) && decide (z ≤ 127)
set_option maxRecDepth 100000 in
set_option maxHeartbeats 4000000 in
theorem goodscale_c (b : Nat) (hb : b < 18446744073709551616) (z : Int) (w : World) :
    Calls Tryd.prog 24 #[.float .f64 b, .int .i64 z] w fun e w' => e = .returned (.bool (Qua.good b z)) ∧ w' = w := by
  have HF := hide (finite_c b hb)
  have hcs := pos_cases b hb
  unfold Qua.good
  obtain ⟨p, hp⟩ : ∃ p, Hid (Qua.pos b = p) := ⟨_, hide rfl⟩
  obtain ⟨f, hf⟩ : ∃ f, Hid (decide (3 ≤ Flt.kindNo b) = f) := ⟨_, hide rfl⟩
  rw [hp.out, hf.out] at hcs
  rw [hp.out]
  rw [hf.out] at HF
  clear hp hf
  rcases hcs with ⟨rfl, rfl, o1, -⟩ | ⟨rfl, rfl, o1⟩ | ⟨rfl, o1 | o1⟩ | ⟨rfl, rfl, o1, o2⟩
  all_goals
    go_enter Tryd.func24, Tryd.ntmps24
    go_wp2_with fail
    refine (HF.out _).mono ?_
    rintro e w1 ⟨rfl, rfl⟩
    go_wp2_with fail
    all_goals
      go_ret
      refine ⟨?_, rfl⟩
      first
        | rfl
        | (simp_all; done)
        | (simp; omega)
end Go.Proofs.YtboighnmgnjhdaaDoor
