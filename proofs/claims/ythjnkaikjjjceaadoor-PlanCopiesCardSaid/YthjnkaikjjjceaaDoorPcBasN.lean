/-
  lodgeworld.Number's value. By an AI agent. No person has read it.
-/
import Derived.Test.YthjnkaikjjjceaaDoorPcBasB
namespace Go.Proofs.YthjnkaikjjjceaaDoor
open Go.RowKit
theorem nv_tmod (n : Int) (m : Nat) : n.tmod (m : Int) % (m : Int) = n % (m : Int) := by
  have h := Int.mul_tdiv_add_tmod n (m : Int)
  have h2 : ((m : Int) * n.tdiv m + n.tmod m) % (m : Int) = n.tmod m % (m : Int) := by rw [Int.add_comm, Int.add_mul_emod_self_left]
  rw [h] at h2
  exact h2.symm
set_option maxRecDepth 100000 in
theorem number_v0 (n : Int) (m : Nat) (h0 : 0 < m) (hm : m ≤ 4611686018427387904) (M : Int) (hM : M = (m : Int)) (w : World) :
    Calls Tryd.prog 13 #[.int .i64 n, .int .i64 M] w fun e w' => e = .returned (.int .i64 (n % M)) ∧ w' = w := by
  subst hM
  have e1 : n.tmod (m : Int) < m := Int.tmod_lt_of_pos n (by omega)
  have e2 : -(m : Int) < n.tmod (m : Int) := by
    have := Int.tmod_lt_of_pos (-n) (b := (m : Int)) (by omega)
    rw [Int.neg_tmod] at this
    omega
  have e9 : n % (m : Int) = (n.tmod (m : Int) + m) % (m : Int) := by rw [Int.add_emod_right, nv_tmod]
  obtain ⟨a, ha⟩ : ∃ a, Hid (n.tmod (m : Int) + m = a) := ⟨_, hide rfl⟩
  have ha0 : 0 < a := by have := ha.out; omega
  have ha1 : a ≤ 9223372036854775807 := by have := ha.out; omega
  have e3 : a.tmod (m : Int) = a % m := Int.tmod_eq_emod_of_nonneg (by omega)
  have e4 : 0 ≤ a % (m : Int) := Int.emod_nonneg _ (by omega)
  have e5 : a % (m : Int) < m := Int.emod_lt_of_pos _ (by omega)
  rw [e9, ha.out]
  clear e9
  obtain ⟨k, hk⟩ : ∃ k : Int, a % (m : Int) = k := ⟨_, rfl⟩
  rw [hk] at e3 e4 e5 ⊢
  have hx := ha.out
  have h0' : (m : Int) ≠ 0 := by omega
  clear hk
  go_enter Tryd.func13, Tryd.ntmps13
  go_wp2_with fail
  go_ret
  exact ⟨rfl, rfl⟩
/-- The number below m that stands for z. -/
def numv (z : Int) (m : Nat) : Nat := (z % (m : Int)).toNat
theorem numv_lt (z : Int) (m : Nat) (h0 : 0 < m) : numv z m < m := by
  have e4 : 0 ≤ z % (m : Int) := Int.emod_nonneg _ (by omega)
  have e5 : z % (m : Int) < m := Int.emod_lt_of_pos _ (by omega)
  unfold numv
  omega
theorem number_v (n : Int) (m : Nat) (h0 : 0 < m) (hm : m ≤ 4611686018427387904) (M : Int) (hM : M = (m : Int)) (w : World) :
    Calls Tryd.prog 13 #[.int .i64 n, .int .i64 M] w fun e w' => e = .returned (.int .i64 (numv n m : Nat)) ∧ w' = w := by
  have h := number_v0 n m h0 hm M hM w
  rw [hM] at h ⊢
  have e : n % (m : Int) = ((numv n m : Nat) : Int) := by
    unfold numv
    rw [Int.toNat_of_nonneg (Int.emod_nonneg _ (by omega))]
  rw [e] at h
  exact h
end Go.Proofs.YthjnkaikjjjceaaDoor
