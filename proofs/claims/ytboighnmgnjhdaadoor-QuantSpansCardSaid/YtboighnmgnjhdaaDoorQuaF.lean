/-
  Numbers out of their range: package quant's Fixed and the reference's, walked. By an AI agent. No person has read it.
-/
import Derived.Test.YtboighnmgnjhdaaDoorQuaE
import Derived.Test.YtboighnmgnjhdaaDoorErrA
import Derived.Deep.RegionHeld3
namespace Go.Proofs.YtboighnmgnjhdaaDoor
open Go.RowKit
open Ieee

/-- May it be a whole one and a shift? -/
def Qua.inr (a : Nat) : Bool := decide (4472074429978902528 ≤ a ∧ a ≤ 4742290407621132288)
theorem order_none (a c : Nat) (hn : Flt.nanb a = true) : double.order a c = none := by
  have h := Flt.order_self a
  rw [hn, if_pos rfl] at h
  unfold Format.order at h ⊢
  cases hr : double.read a with
  | number s m e => rw [hr] at h; simp [Datum.order] at h
  | infinity s => rw [hr] at h; simp [Datum.order] at h
  | nan s f => simp [Datum.order]
theorem out_cases (a : Nat) (ha : a < 18446744073709551616) (h : Qua.inr a = false) :
    (Flt.nanb a = true ∧ FloatKind.f64.format.order a 4472074429978902528 = none) ∨ (FloatKind.f64.format.order a 4472074429978902528 = some .lt) ∨
    (FloatKind.f64.format.order a 4472074429978902528 = some .gt ∧ FloatKind.f64.format.order a 4742290407621132288 = some .gt) := by
  unfold Qua.inr at h
  rw [decide_eq_false_iff_not] at h
  by_cases hn : Flt.nanb a = true
  · exact .inl ⟨hn, order_none a _ hn⟩
  · have hm : a % 9223372036854775808 ≤ 9218868437227405312 := by unfold Flt.nanb at hn; simp at hn; omega
    by_cases hi : a % 9223372036854775808 = 9218868437227405312
    · have he : Flt.expo a = 2047 := by unfold Flt.expo; omega
      have hf : Flt.frac a = 0 := by unfold Flt.frac; omega
      have q1 := Flt.order_inf a 4472074429978902528 ha (by decide) he hf (by decide)
      have q2 := Flt.order_inf a 4742290407621132288 ha (by decide) he hf (by decide)
      cases hneg : Flt.neg a
      · rw [hneg] at q1 q2
        exact .inr (.inr ⟨q1, q2⟩)
      · rw [hneg] at q1
        exact .inr (.inl q1)
    · rcases Nat.lt_or_ge a 9223372036854775808 with hp | hp
      · rcases Nat.lt_or_ge a 4472074429978902528 with hl | hl
        · exact .inr (.inl (order_pos a 4472074429978902528 (by omega) (by decide) hl).1)
        · exact .inr (.inr ⟨(order_pos 4472074429978902528 a (by decide) (by omega) (by omega)).2, (order_pos 4742290407621132288 a (by decide) (by omega) (by omega)).2⟩)
      · have q := Flt.order_key a 4472074429978902528 ha (by decide) (by omega) (by decide)
        have hk : Flt.key a = -(Flt.mag a : Int) := if_pos hp
        have hk2 : Flt.key 4472074429978902528 = (Flt.mag 4472074429978902528 : Int) := if_neg (by decide)
        have hpos := mag_lt 0 4472074429978902528 (by decide)
        rw [hk, hk2, Flt.cmp_lt (by omega)] at q
        exact .inr (.inl q)
set_option maxRecDepth 100000 in
theorem finite_c (b : Nat) (hb : b < 18446744073709551616) (w : World) :
    Calls Tryd.prog 63 #[.float .f64 b] w fun e w' => e = .returned (.bool (decide (3 ≤ Flt.kindNo b))) ∧ w' = w := by
  have H := hide (refkind_c b hb w)
  obtain ⟨k, hk⟩ : ∃ k, Hid (Flt.kindNo b = k) := ⟨_, hide rfl⟩
  obtain ⟨s, hs⟩ : ∃ k, Hid (Flt.kindNeg b = k) := ⟨_, hide rfl⟩
  rw [hk.out, hs.out] at H
  rw [hk.out]
  have hd : decide ((3 : Int) ≤ (k : Int)) = decide (3 ≤ k) := decide_eq_decide.2 (by omega)
  clear hk hs
  go_enter Tryd.func63, Tryd.ntmps63
  go_wp2_with fail
  refine H.out.mono ?_
  rintro e w1 ⟨rfl, rfl⟩
  go_wp2_with fail
  go_ret
  exact ⟨by first | rfl | rw [hd] | simp [hd], rfl⟩
set_option maxRecDepth 100000 in
set_option maxHeartbeats 4000000 in
theorem rfixed_out (a : Nat) (ha : a < 18446744073709551616) (h : Qua.inr a = false) (w : World) :
    Calls Tryd.prog 33 #[.float .f64 a] w fun e w' => e = .returned (.tuple #[.int .i64 0, .int .i64 0, .bool false]) ∧ w' = w := by
  have HF := hide (finite_c a ha)
  have hcs := out_cases a ha h
  have hk : Flt.nanb a = true → decide (3 ≤ Flt.kindNo a) = false := fun hn => by
    have := (Flt.nan_iff a).1 hn
    unfold Flt.kindNo
    rw [if_pos this]
    rfl
  obtain ⟨f, hf⟩ : ∃ f, Hid (decide (3 ≤ Flt.kindNo a) = f) := ⟨_, hide rfl⟩
  rw [hf.out] at HF hk
  clear hf h
  rcases hcs with ⟨hn, o1⟩ | o1 | ⟨o1, o2⟩
  case' inl => obtain rfl := hk hn
  case' inr.inl => cases f
  case' inr.inr => cases f
  all_goals
    clear hk
    go_enter Tryd.func33, Tryd.ntmps33
    go_wp2_with fail
    refine (HF.out _).mono ?_
    rintro e w1 ⟨rfl, rfl⟩
    go_wp2_with fail
    refine bodyPost_ret (results_three rfl _ _) rfl ?_
    exact ⟨rfl, rfl⟩
set_option maxRecDepth 100000 in
set_option maxHeartbeats 4000000 in
theorem qfixed_out (a : Nat) (ha : a < 18446744073709551616) (h : Qua.inr a = false) (ar : Addr) (w : World) (hE : ErrIs w 1 ar) :
    Calls Tryd.prog 32 #[.float .f64 a] w fun e w' => e = .returned (.tuple #[.int .i64 0, .int .i64 0, errv ar]) ∧ w' = w.drew := by
  have hcs := out_cases a ha h
  have hs5 : w.drew.cell? ⟨1, 0, none⟩ = some (errv ar) := hE.1
  clear hE h
  rcases hcs with ⟨hn, o1⟩ | o1 | ⟨o1, o2⟩
  all_goals
    go_enter Tryd.func32, Tryd.ntmps32
    go_wp2_with fail
    go_region_held3 (fun W => W.cell? ⟨1, 0, none⟩ = some (errv ar))
      (first | exact hs5 | assumption)
      (first | fail)
    go_wp2_with fail
    refine bodyPost_ret (results_three rfl _ _) rfl ?_
    exact ⟨rfl, rfl⟩
end Go.Proofs.YtboighnmgnjhdaaDoor
