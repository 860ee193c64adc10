/-
  What the law TensRows says of plain lists. By an AI agent. No person has read it.
-/
import Derived.Test.YtnbjcdmiehnceaaDoorTenI
import Derived.Test.YtnbjcdmiehnceaaDoorTenJ
namespace Go.Proofs.YtnbjcdmiehnceaaDoor
open Go.RowKit

/-- The numbers from -128 on. -/
def Rw.L (i : Nat) : List Int := (List.range i).map fun j : Nat => (j : Int) - 128
theorem Rw.L_succ (i : Nat) : Rw.L (i + 1) = Rw.L i ++ [(i : Int) - 128] := by simp [Rw.L, List.range_succ]
theorem Rw.L_length (i : Nat) : (Rw.L i).length = i := by simp [Rw.L]
theorem Rw.L_get (n i : Nat) (h : i < n) : (Rw.L n)[i]? = some ((i : Int) - 128) := by simp [Rw.L, h]
theorem Rw.L_wf (n : Nat) (h : n ≤ 216) : ∀ z ∈ Rw.L n, (Lit.int .i64 z).wf = true := by
  intro z hz
  obtain ⟨j, hj, rfl⟩ := List.mem_map.1 hz
  have := List.mem_range.1 hj
  exact wf_i64 _ (by omega)
theorem Rw.prod (A B C : Nat) : Shp.prod [(A : Int), (B : Int), (C : Int)] = ((A * B * C : Nat) : Int) := by
  simp only [Shp.prod, Int.mul_one]
  rw [Int.natCast_mul, Int.natCast_mul, Int.mul_assoc]
theorem Rw.le (A B C : Nat) (hA : A ≤ 6) (hB : B ≤ 6) (hC : C ≤ 6) : A * B ≤ 36 ∧ A * B * C ≤ 216 := by
  have h1 : A * B ≤ 6 * 6 := Nat.mul_le_mul hA hB
  have h2 : A * B * C ≤ 36 * 6 := Nat.mul_le_mul h1 hC
  omega
theorem Rw.pos (A B C : Nat) (hA : 1 ≤ A) (hB : 1 ≤ B) (hC : 1 ≤ C) : 1 ≤ A * B * C := Nat.mul_pos (Nat.mul_pos hA hB) hC
theorem Rw.ok (A B C : Nat) (hA : 1 ≤ A ∧ A ≤ 6) (hB : 1 ≤ B ∧ B ≤ 6) (hC : 1 ≤ C ∧ C ≤ 6) : Shp.ok [(A : Int), (B : Int), (C : Int)] = true := by
  rw [Shp.ok_iff]
  refine ⟨by simp, ?_, ?_⟩
  · simp only [List.all_cons, List.all_nil, Shp.okDim, Bool.and_true, Bool.and_eq_true, decide_eq_true_eq]
    omega
  · rw [Rw.prod]
    have := (Rw.le A B C hA.2 hB.2 hC.2).2
    omega
theorem Rw.fault (A B C : Nat) (u : Bool) (hA : 1 ≤ A ∧ A ≤ 6) (hB : 1 ≤ B ∧ B ≤ 6) (hC : 1 ≤ C ∧ C ≤ 6) : Tens.fault [(A : Int), (B : Int), (C : Int)] u (Rw.L (A * B * C)) = (0, none) := by
  have hok := Rw.ok A B C hA hB hC
  have h0 : Shp.code [(A : Int), (B : Int), (C : Int)] = 0 := by
    unfold Shp.ok at hok
    exact of_decide_eq_true hok
  refine Tens.fault_none _ _ _ h0 ?_ ?_
  · rw [Rw.L_length]
    unfold Shp.elems
    rw [if_pos hok, Rw.prod]
  · intro j y hj
    have hlt := (List.getElem?_eq_some_iff.1 hj).1
    rw [Rw.L_length] at hlt
    rw [Rw.L_get _ _ hlt] at hj
    have hj := Option.some.inj hj
    have := (Rw.le A B C hA.2 hB.2 hC.2).2
    unfold Tens.fit
    split <;> exact decide_eq_true (by omega)
theorem Rw.get (A B C x y z i : Nat) (u : Bool) (hA : 1 ≤ A ∧ A ≤ 6) (hB : 1 ≤ B ∧ B ≤ 6) (hC : 1 ≤ C ∧ C ≤ 6) (hx : x < A) (hy : y < B) (hz : z < C) (hi : i = (x * B + y) * C + z) :
    Tens.get [(A : Int), (B : Int), (C : Int)] u (Rw.L (A * B * C)) [(x : Int), (y : Int), (z : Int)] = some ((i : Int) - 128) ∧ i < A * B * C := by
  have hlt : i < A * B * C := by
    have h1 : x * B + y < A * B := by
      have : (x + 1) * B ≤ A * B := Nat.mul_le_mul_right B hx
      rw [Nat.succ_mul] at this
      omega
    have h2 : (x * B + y + 1) * C ≤ A * B * C := Nat.mul_le_mul_right C h1
    rw [Nat.succ_mul] at h2
    omega
  refine ⟨?_, hlt⟩
  have hix : Shp.index [(A : Int), (B : Int), (C : Int)] [(x : Int), (y : Int), (z : Int)] = some (i : Int) := by
    unfold Shp.index
    rw [if_pos ⟨Rw.ok A B C hA hB hC, rfl⟩]
    simp only [Shp.idx]
    rw [if_pos (by omega), if_pos (by omega), if_pos (by omega), hi]
    congr 1
    push_cast
    rw [Int.zero_mul, Int.zero_add]
  unfold Tens.get
  rw [if_pos (Rw.fault A B C u hA hB hC), hix, Option.bind_some, Int.toNat_natCast, Rw.L_get _ _ hlt]
theorem Rw.out (A B C : Nat) (u : Bool) : Tens.get [(A : Int), (B : Int), (C : Int)] u (Rw.L (A * B * C)) [(A : Int), 0, 0] = none := by
  have hix : Shp.index [(A : Int), (B : Int), (C : Int)] [(A : Int), 0, 0] = none := by
    unfold Shp.index
    split
    · simp only [Shp.idx]
      rw [if_neg (by omega)]
    · rfl
  unfold Tens.get
  rw [hix]
  split <;> rfl
theorem Rw.raw (A B C : Nat) (u : Bool) (hA : 1 ≤ A ∧ A ≤ 6) (hB : 1 ≤ B ∧ B ≤ 6) (hC : 1 ≤ C ∧ C ≤ 6) : (Tens.raw [(A : Int), (B : Int), (C : Int)] u (Rw.L (A * B * C))).length = A * B * C * Tens.each u := by
  unfold Tens.raw
  rw [if_pos (Rw.fault A B C u hA hB hC), Pk.all_length, Rw.L_length]
theorem Rw.bytes (A B C : Nat) (u : Bool) (hA : 1 ≤ A ∧ A ≤ 6) (hB : 1 ≤ B ∧ B ≤ 6) (hC : 1 ≤ C ∧ C ≤ 6) : (Tens.bytes [(A : Int), (B : Int), (C : Int)] u (Rw.L (A * B * C))).length = A * B * C * Tens.each u + 7 := by
  unfold Tens.bytes
  rw [if_pos (Rw.fault A B C u hA hB hC), List.length_append, Pk.desc_length, Pk.all_length, Rw.L_length]
  simp
  omega
end Go.Proofs.YtnbjcdmiehnceaaDoor
