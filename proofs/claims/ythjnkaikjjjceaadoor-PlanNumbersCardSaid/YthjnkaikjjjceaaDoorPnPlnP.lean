/-
  Bytes that are read as a plan are just its bytes. By an AI agent. No person has read it.
-/
import Derived.Test.YthjnkaikjjjceaaDoorPnPlnO
import Derived.Test.YthjnkaikjjjceaaDoorPnTenJ
namespace Go.Proofs.YthjnkaikjjjceaaDoor
open Go.RowKit
/-- Behind a step without an error: just these bytes were read. -/
def Rs.Ok (bs : List Nat) (s s' : Rs) (ys : List Nat) : Prop := s'.e = none → s.e = none ∧ bs.take s'.at_ = bs.take s.at_ ++ ys
theorem Rs.Ok.refl (bs : List Nat) (s : Rs) : Rs.Ok bs s s [] := fun h => ⟨h, by simp⟩
theorem Rs.Ok.then_ {bs : List Nat} {s t u : Rs} {ys zs : List Nat} (h : Rs.Ok bs s t ys) (k : Rs.Ok bs t u zs) : Rs.Ok bs s u (ys ++ zs) := fun hu => by
  obtain ⟨h1, h2⟩ := k hu
  obtain ⟨h3, h4⟩ := h h1
  exact ⟨h3, by rw [h2, h4, List.append_assoc]⟩
theorem Pk.le_cons (k N : Nat) : Pk.le (k + 1) N = N % 256 :: Pk.le k (N / 256) := by
  unfold Pk.le
  rw [List.range_succ_eq_map, List.map_cons, List.map_map]
  congr 1
  · simp
  · refine List.map_congr_left fun j _ => ?_
    show N / 256 ^ (j + 1) % 256 = N / 256 / 256 ^ j % 256
    rw [Nat.pow_succ, Nat.mul_comm, Nat.div_div_eq_div_mul]
theorem Pk.le_mod (k : Nat) : ∀ N : Nat, Pk.le k (N % 256 ^ k) = Pk.le k N := by
  induction k with
  | zero => intro N; rfl
  | succ k ih =>
    intro N
    have hp : 256 ^ (k + 1) = 256 * 256 ^ k := by rw [Nat.pow_succ, Nat.mul_comm]
    rw [Pk.le_cons, Pk.le_cons, hp, Nat.mod_mul_right_mod, Nat.mod_mul_right_div_self, ih]
theorem Pk.num_nat (n : Nat) (h : n < 18446744073709551616) : Pk.num ((n : Nat) : Int) = n := by unfold Pk.num; omega
end Go.Proofs.YthjnkaikjjjceaaDoor
