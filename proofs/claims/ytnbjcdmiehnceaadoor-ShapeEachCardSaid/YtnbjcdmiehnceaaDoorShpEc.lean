/-
  The place of the i-th element is where it is; what the law ShapeEach holds in memory. By an AI agent. No person has read it.
-/
import Derived.Test.YtnbjcdmiehnceaaDoorShpEb
import Derived.Test.YtnbjcdmiehnceaaDoorShpE
namespace Go.Proofs.YtnbjcdmiehnceaaDoor
open Go.RowKit Go.Shelf

/-- The remainder of each dimension, and what the index makes of them. -/
theorem Shp.idx_at (zs : List Int) (hz : ∀ z ∈ zs, 1 ≤ z) (i : Int) (hi : 0 ≤ i) : (0 ≤ (Shp.at zs i).2 ∧ (Shp.at zs i).2 * Shp.prod zs ≤ i) ∧ ∀ v, Shp.idx v zs (Shp.at zs i).1 = some (v * Shp.prod zs + (i - (Shp.at zs i).2 * Shp.prod zs)) := by
  induction zs with
  | nil => exact ⟨⟨hi, by simp [Shp.at, Shp.prod]⟩, fun v => by simp [Shp.at, Shp.idx, Shp.prod]⟩
  | cons z zs ih =>
    obtain ⟨⟨h1, h2⟩, h3⟩ := ih (fun y hy => hz y (List.mem_cons_of_mem _ hy))
    have hz1 := hz z (List.mem_cons_self ..)
    obtain ⟨q, hq⟩ : ∃ q, (Shp.at zs i).2 = q := ⟨_, rfl⟩
    obtain ⟨p, hp⟩ : ∃ p, Shp.prod zs = p := ⟨_, rfl⟩
    rw [hq] at h1 h2 h3
    rw [hp] at h2 h3
    have e1 : (Shp.at (z :: zs) i).1 = q % z :: (Shp.at zs i).1 := by rw [Shp.at, hq, Int.tmod_eq_emod_of_nonneg h1]
    have e2 : (Shp.at (z :: zs) i).2 = q / z := by rw [Shp.at, hq, Int.tdiv_eq_ediv_of_nonneg h1]
    have e3 : Shp.prod (z :: zs) = z * p := by rw [Shp.prod, hp]
    have hd := Int.mul_ediv_add_emod q z
    have hm := Int.emod_nonneg q (show z ≠ 0 by omega)
    have hl := Int.emod_lt_of_pos q (show 0 < z by omega)
    have e4 : q / z * (z * p) = (q - q % z) * p := by
      rw [← Int.mul_assoc, Int.mul_comm (q / z) z, show z * (q / z) = q - q % z by omega]
    have hpn : 0 ≤ q % z * p ∨ p < 0 := by
      rcases Int.lt_or_le p 0 with h | h
      · exact .inr h
      · exact .inl (Int.mul_nonneg hm h)
    have hp0 : 1 ≤ p := by
      rw [← hp]
      clear ih h3 e1 e2 e3 e4 hp hq
      induction zs with
      | nil => decide
      | cons y ys ih2 =>
        have hy := hz y (by simp)
        have := ih2 (fun x hx => hz x (by
          rcases List.mem_cons.1 hx with rfl | hx
          · exact List.mem_cons_self ..
          · exact List.mem_cons_of_mem _ (List.mem_cons_of_mem _ hx)))
        rw [Shp.prod]
        have h5 : 1 * 1 ≤ y * Shp.prod ys := Int.mul_le_mul hy this (by decide) (by omega)
        omega
    rw [e2, e3, e4]
    refine ⟨⟨Int.ediv_nonneg h1 (by omega), ?_⟩, fun v => ?_⟩
    · rw [Int.sub_mul]
      omega
    · rw [e1, Shp.idx, if_pos ⟨hm, hl⟩, h3]
      congr 1
      rw [Int.add_mul, Int.mul_assoc, Int.sub_mul]
      omega
theorem Shp.index_where (zs : List Int) (i : Int) (hi : 0 ≤ i) (hl : i < Shp.elems zs) : Shp.index zs (Shp.at zs i).1 = some i := by
  have hok : Shp.ok zs = true := by
    unfold Shp.elems at hl
    split at hl
    · assumption
    · omega
  have hp : Shp.elems zs = Shp.prod zs := by unfold Shp.elems; rw [if_pos hok]
  rw [hp] at hl
  have hz : ∀ z ∈ zs, 1 ≤ z := fun z hz => by
    obtain ⟨j, hj⟩ := List.getElem?_of_mem hz
    exact (Shp.dims zs hok j z hj).1
  obtain ⟨⟨h1, h2⟩, h3⟩ := Shp.idx_at zs hz i hi
  have h0 : (Shp.at zs i).2 = 0 := by
    rcases Int.lt_or_le 0 (Shp.at zs i).2 with h | h
    · have h4 : 1 * Shp.prod zs ≤ (Shp.at zs i).2 * Shp.prod zs := Int.mul_le_mul_of_nonneg_right h (by omega)
      omega
    · omega
  unfold Shp.index
  rw [if_pos ⟨hok, Shp.at_length zs i⟩, h3, h0]
  simp
theorem each_runs (k : Nat) (hk : 1 ≤ k) (am ar : Addr) (m B G c n E : Nat) (A : Option Addr) (zs : List Int) (hn : Hid (zs.length = n)) (hnl : n ≤ 1000000) (hE : Hid (Shp.elems zs = (E : Int))) (w : World) (hB : Boxed w B 22 (.slice A n c)) (hA : Each.At w A G zs) (hm : m ≤ w.heap.size)
    (hGl : G < w.heap.size) (hE2 : ∀ W', Below m w W' → E2 W' am ar) : Each.Runs k E m B G 72 (fun i => (Shp.at zs (i : Int)).1) w := fun l J Jx W hW hJ _ hY h0 =>
  each1_in k hk am ar l m B G c n E A zs hn hnl hE J Jx W hJ hY ((hW.cell (p := ⟨B, 0, none⟩) hB.lt).trans hB.cell) (hA.same (hW.block G hGl)) (Nat.le_trans hm hW.size) (Nat.lt_of_lt_of_le hB.lt hW.size) (Nat.lt_of_lt_of_le hGl hW.size) (hide fun W' h => hE2 W' ((hW.mono hm).trans h)) h0
end Go.Proofs.YtnbjcdmiehnceaaDoor
