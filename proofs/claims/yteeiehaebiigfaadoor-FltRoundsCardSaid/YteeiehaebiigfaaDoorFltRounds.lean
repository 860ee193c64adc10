/-
  The law FltRounds of package lodgelaw3, walked. By an AI agent. No person has read it.
-/
import Derived.Test.YteeiehaebiigfaaDoorFltX
namespace Go.Proofs.YteeiehaebiigfaaDoor
open Go.RowKit

set_option maxRecDepth 100000 in
theorem rounds_c (x : Nat) (hx : x < 18446744073709551616) (a b : Int) (ha : -9223372036854775808 ≤ a) (ha2 : a ≤ 9223372036854775807) (hb : b ≤ 9223372036854775807) (w : World) (hT : Tz w) :
    Calls Tryd.prog 5 #[.float .f64 x, .int .i64 a, .int .i64 b] w fun e w' => e = .returned (.bool true) ∧ w' = w := by
  have H0 := hide (first_c w hT)
  have H1 := hide (round_c x hx w)
  have H2 := hide (refround_c x hx w)
  have H4 := hide (wholeof_c x hx a b w)
  have H5 := hide (refwhole_c x hx a b ha ha2 hb w)
  rw [← Flt.clamp_cut] at H5
  rw [round_rround x hx] at H1 H4
  have h3 := same_c (Flt.rround x) (Flt.rround x) w
  rw [Flt.same_self] at h3
  have H3 := hide h3
  clear h3
  obtain ⟨r, hr⟩ : ∃ r, Hid (Flt.rround x = r) := ⟨_, hide rfl⟩
  rw [hr.out] at H1 H2 H3 H4 H5
  obtain ⟨v, hv⟩ : ∃ r', Hid (Flt.clamp (Flt.wv r) a b = r') := ⟨_, hide rfl⟩
  rw [hv.out] at H4 H5
  go_enter Tryd.func5, Tryd.ntmps5
  go_wp2_with fail
  refine H0.out.mono ?_
  rintro e w1 ⟨rfl, rfl⟩
  go_wp2_with fail
  refine H1.out.mono ?_
  rintro e w1 ⟨rfl, rfl⟩
  go_wp2_with fail
  refine H2.out.mono ?_
  rintro e w1 ⟨rfl, rfl⟩
  go_wp2_with fail
  refine H3.out.mono ?_
  rintro e w1 ⟨rfl, rfl⟩
  go_wp2_with fail
  refine H4.out.mono ?_
  rintro e w1 ⟨rfl, rfl⟩
  go_wp2_with fail
  refine H5.out.mono ?_
  rintro e w1 ⟨rfl, rfl⟩
  go_wp2_with fail
  go_ret
  exact ⟨rfl, rfl⟩
end Go.Proofs.YteeiehaebiigfaaDoor
