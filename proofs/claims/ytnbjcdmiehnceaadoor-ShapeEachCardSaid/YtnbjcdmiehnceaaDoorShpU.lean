/-
  Where a place is: the plain function, and what its loop makes. By an AI agent. No person has read it.
-/
import Derived.Test.YtnbjcdmiehnceaaDoorShpS
namespace Go.Proofs.YtnbjcdmiehnceaaDoor
open Go.RowKit

/-- What is left of a place behind so many dimensions, and where it is in them: from the last on. -/
def Shp.at : List Int → Int → List Int × Int
  | [], i => ([], i)
  | z :: zs, i => ((Shp.at zs i).2.tmod z :: (Shp.at zs i).1, (Shp.at zs i).2.tdiv z)
theorem Shp.at_length (zs : List Int) (i : Int) : (Shp.at zs i).1.length = zs.length := by
  induction zs with
  | nil => rfl
  | cons z zs ih => rw [Shp.at, List.length_cons, ih, List.length_cons]
/-- What the loop makes of what has come: the row, and what is left. -/
def Shp.fat (n : Nat) (i : Int) (pre : List (Nat × Int)) : List Int × Int := pre.foldl (fun s x => (s.1.set x.1 (s.2.tmod x.2), s.2.tdiv x.2)) (List.replicate n 0, i)
theorem Shp.fat_snoc (n : Nat) (i : Int) (pre : List (Nat × Int)) (x : Nat × Int) : Shp.fat n i (pre ++ [x]) = ((Shp.fat n i pre).1.set x.1 ((Shp.fat n i pre).2.tmod x.2), (Shp.fat n i pre).2.tdiv x.2) := by
  unfold Shp.fat
  rw [List.foldl_append]
  rfl
theorem Shp.fat_len (pre : List (Nat × Int)) : ∀ s : List Int × Int, (pre.foldl (fun s x => (s.1.set x.1 (s.2.tmod x.2), s.2.tdiv x.2)) s).1.length = s.1.length := by
  induction pre with
  | nil => intro s; rfl
  | cons x pre ih => intro s; rw [List.foldl_cons, ih, List.length_set]
theorem Shp.fat_length (n : Nat) (i : Int) (pre : List (Nat × Int)) : (Shp.fat n i pre).1.length = n := by
  unfold Shp.fat
  rw [Shp.fat_len, List.length_replicate]
/-- The row with its last ones laid. -/
def Shp.atRow (zs : List Int) (i : Int) (r : Nat) : List Int := List.replicate r 0 ++ (Shp.at (zs.drop r) i).1
theorem Shp.fat_upto (zs : List Int) (i : Int) : ∀ k, k ≤ zs.length → Shp.fat zs.length i (Rf.upto (Rf.back zs) k) = (Shp.atRow zs i (zs.length - k), (Shp.at (zs.drop (zs.length - k)) i).2)
  | 0, _ => by
    unfold Shp.atRow
    rw [Nat.sub_zero, List.drop_eq_nil_of_le (Nat.le_refl _)]
    simp [Rf.upto, Shp.fat, Shp.at]
  | k + 1, hk => by
    have ih := Shp.fat_upto zs i k (by omega)
    have hj : zs.length - (k + 1) < zs.length := by omega
    have e1 : zs.length - k = (zs.length - (k + 1)) + 1 := by omega
    rw [Rf.upto_succ, Shp.fat_snoc, ih]
    have hb : Rf.back zs k = (zs.length - (k + 1), zs[zs.length - (k + 1)]) := by
      unfold Rf.back
      rw [show zs.length - 1 - k = zs.length - (k + 1) by omega, List.getElem?_eq_getElem hj]
      rfl
    rw [hb, e1]
    obtain ⟨r, hr⟩ : ∃ r, zs.length - (k + 1) = r := ⟨_, rfl⟩
    rw [hr] at hj
    simp only [hr]
    have hd := List.drop_eq_getElem_cons hj
    refine Prod.ext ?_ ?_
    · show (Shp.atRow zs i (r + 1)).set r _ = _
      unfold Shp.atRow
      rw [hd, Shp.at, List.replicate_succ', List.append_assoc, List.set_append_right _ _ (by simp), List.length_replicate, Nat.sub_self]
      rfl
    · show (Shp.at (zs.drop (r + 1)) i).2.tdiv zs[r] = _
      rw [hd, Shp.at]
/-- All within the ints, where the place is. -/
theorem Shp.fat_bound (n : Nat) (i : Int) (hi : 0 ≤ i) (pre : List (Nat × Int)) (hp : ∀ x ∈ pre, 1 ≤ x.2) : 0 ≤ (Shp.fat n i pre).2 ∧ (Shp.fat n i pre).2 ≤ i := by
  unfold Shp.fat
  have : ∀ (pre : List (Nat × Int)) (s : List Int × Int), (∀ x ∈ pre, 1 ≤ x.2) → 0 ≤ s.2 → s.2 ≤ i → 0 ≤ (pre.foldl (fun s x => (s.1.set x.1 (s.2.tmod x.2), s.2.tdiv x.2)) s).2 ∧ (pre.foldl (fun s x => (s.1.set x.1 (s.2.tmod x.2), s.2.tdiv x.2)) s).2 ≤ i := by
    intro pre
    induction pre with
    | nil => intro s _ h1 h2; exact ⟨h1, h2⟩
    | cons x pre ih =>
      intro s hx h1 h2
      have hx1 := hx x (List.mem_cons_self ..)
      have a := Int.tdiv_nonneg h1 (show 0 ≤ x.2 by omega)
      have b : s.2.tdiv x.2 ≤ s.2 := by
        rw [Int.tdiv_eq_ediv_of_nonneg h1]
        exact Int.ediv_le_self _ h1
      exact ih _ (fun y hy => hx y (List.mem_cons_of_mem _ hy)) a (by show s.2.tdiv x.2 ≤ i; omega)
  exact this pre _ hp hi (Int.le_refl _)
end Go.Proofs.YtnbjcdmiehnceaaDoor
