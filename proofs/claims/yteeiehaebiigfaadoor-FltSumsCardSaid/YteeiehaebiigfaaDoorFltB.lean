/-
  lodgeworld.Number, walked. By an AI agent. No person has read it.
-/
import Derived.Test.YteeiehaebiigfaaDoorFltI
namespace Go.Proofs.YteeiehaebiigfaaDoor
open Go.RowKit

set_option maxRecDepth 100000 in
theorem number_c (n : Int) (m : Nat) (h0 : 0 < m) (hm : m ≤ 4611686018427387904) (M : Int) (hM : M = (m : Int)) (w : World) :
    Calls Tryd.prog 43 #[.int .i64 n, .int .i64 M] w fun e w' => (∃ k : Nat, k < m ∧ e = .returned (.int .i64 k)) ∧ w' = w := by
  subst hM
  have e1 : n.tmod (m : Int) < m := Int.tmod_lt_of_pos n (by omega)
  have e2 : -(m : Int) < n.tmod (m : Int) := by
    have := Int.tmod_lt_of_pos (-n) (b := (m : Int)) (by omega)
    rw [Int.neg_tmod] at this
    omega
  obtain ⟨a, ha⟩ : ∃ a, Hid (n.tmod (m : Int) + m = a) := ⟨_, hide rfl⟩
  have ha0 : 0 < a := by have := ha.out; omega
  have ha1 : a ≤ 9223372036854775807 := by have := ha.out; omega
  have e3 : a.tmod (m : Int) = a % m := Int.tmod_eq_emod_of_nonneg (by omega)
  have e4 : 0 ≤ a % (m : Int) := Int.emod_nonneg _ (by omega)
  have e5 : a % (m : Int) < m := Int.emod_lt_of_pos _ (by omega)
  obtain ⟨k, hk⟩ : ∃ k : Nat, a % (m : Int) = (k : Int) := ⟨(a % (m : Int)).toNat, by omega⟩
  have hx := ha.out
  have h0' : (m : Int) ≠ 0 := by omega
  go_enter Tryd.func43, Tryd.ntmps43
  go_wp2_with fail
  go_ret
  exact ⟨⟨k, by omega, rfl⟩, rfl⟩
end Go.Proofs.YteeiehaebiigfaaDoor
