/-
  The law FltKinds of package lodgelaw3, walked. By an AI agent. No person has read it.
-/
import Derived.Test.YteeiehaebiigfaaDoorFltR
namespace Go.Proofs.YteeiehaebiigfaaDoor
open Go.RowKit

set_option maxRecDepth 100000 in
theorem kinds_c (a b : Nat) (ha : a < 18446744073709551616) (hb : b < 18446744073709551616) (w : World) (hT : Tz w) :
    Calls Tryd.prog 3 #[.float .f64 a, .float .f64 b] w fun e w' => e = .returned (.bool true) ∧ w' = w := by
  have h0 := hide (first_c w hT)
  have h1 := kind_c a ha w
  have h2 := refkind_c a ha w
  have h3 := same_c a b w
  have h4 := samefloat_c a b ha hb w
  have h5 := less_c a b ha hb w
  have h6 := lessfloat_c a b ha hb w
  have h7 := same_c a a w
  have h8 := less_c a a ha ha w
  rw [Flt.same_self] at h7
  rw [Flt.less_self] at h8
  obtain ⟨kn, hkn⟩ : ∃ x, Hid (Flt.kindNo a = x) := ⟨_, hide rfl⟩
  obtain ⟨kg, hkg⟩ : ∃ x, Hid (Flt.kindNeg a = x) := ⟨_, hide rfl⟩
  obtain ⟨sm, hsm⟩ : ∃ x, Hid (Flt.same a b = x) := ⟨_, hide rfl⟩
  obtain ⟨ls, hls⟩ : ∃ x, Hid (Flt.less a b = x) := ⟨_, hide rfl⟩
  rw [hkn.out, hkg.out] at h1 h2
  rw [hsm.out] at h3 h4
  rw [hls.out] at h5 h6
  have H1 := hide h1
  have H2 := hide h2
  have H3 := hide h3
  have H4 := hide h4
  have H5 := hide h5
  have H6 := hide h6
  have H7 := hide h7
  have H8 := hide h8
  clear h1 h2 h3 h4 h5 h6 h7 h8 hT
  go_enter Tryd.func3, Tryd.ntmps3
  go_wp2_with fail
  refine h0.out.mono ?_
  rintro e w1 ⟨rfl, rfl⟩
  go_wp2_with fail
  refine H1.out.mono ?_
  rintro e w1 ⟨rfl, rfl⟩
  go_wp2_with fail
  refine H2.out.mono ?_
  rintro e w1 ⟨rfl, rfl⟩
  go_wp2_with fail
  refine H3.out.mono ?_
  rintro e w1 ⟨rfl, rfl⟩
  go_wp2_with fail
  refine H4.out.mono ?_
  rintro e w1 ⟨rfl, rfl⟩
  go_wp2_with fail
  refine H5.out.mono ?_
  rintro e w1 ⟨rfl, rfl⟩
  go_wp2_with fail
  refine H6.out.mono ?_
  rintro e w1 ⟨rfl, rfl⟩
  go_wp2_with fail
  refine H7.out.mono ?_
  rintro e w1 ⟨rfl, rfl⟩
  go_wp2_with fail
  refine H8.out.mono ?_
  rintro e w1 ⟨rfl, rfl⟩
  go_wp2_with fail
  go_ret
  exact ⟨rfl, rfl⟩
end Go.Proofs.YteeiehaebiigfaaDoor
