/-
  Weights that are all the same; a capacity that suffices. By an AI agent. No person has read it.
-/
import Derived.Test.YtcgjnjchkachdaaDoorSftU
import Derived.Test.YtcgjnjchkachdaaDoorCelO
import Derived.Test.YtcgjnjchkachdaaDoorElmS
import Derived.Deep.RegionLaw
namespace Go.Proofs.YtcgjnjchkachdaaDoor
open Go.RowKit

theorem ri_drew {w : World} {A : Option Addr} {l : List Int} (h : Ri w A l) (n : Nat) : Ri (w.drewN n) A l := h.below (below_drewN (Below.refl _ _) n)
theorem own_cap {w : World} {base n c s : Nat} {e : TypeId} {A : Option Addr} {xs : List Value} (h : w.ownsRow base e s (.slice A n c) n xs) : n ≤ c := by
  rcases h.2 with ⟨h1, h2⟩ | ⟨g, c', cur, h1, -, -, h4, -⟩
  · omega
  · injection h1 with _ _ h5
    omega
theorem Pl.add_const (c : Int) (k : Nat) : Pl.add (fun _ => c) k = k * c := by
  induction k with
  | zero => simp [Pl.add]
  | succ k ih =>
    show Pl.add (fun _ => c) k + c = ((k + 1 : Nat) : Int) * c
    rw [ih, Int.natCast_add, Int.add_mul]
    simp
/-- Weights that are all the same. -/
theorem Sf.same_of {row ts : List Int} {n : Nat} {v : Int} (hr : ∀ z ∈ row, -128 ≤ z ∧ z ≤ 127) (hts : ts = List.replicate 256 v) (i : Nat) (hi : i < n) : Sf.of (Sf.all row ts n n) (Sf.wt ts (Sf.by_ row n i)) = Sf.of ((n : Int) * max 0 v) (max 0 v) := by
  have hg : ∀ j, -128 ≤ row.getD j 0 ∧ row.getD j 0 ≤ 127 := fun j => by
    rw [List.getD_eq_getElem?_getD]
    cases e : row[j]? with
    | none => exact ⟨by decide, by decide⟩
    | some q => exact hr q (List.mem_of_getElem? e)
  have hw : ∀ j, j < n → Sf.wt ts (Sf.by_ row n j) = max 0 v := fun j hj => by
    have h1 := (Sf.by_lt hg hj).1
    unfold Sf.wt
    rw [hts, List.getD_eq_getElem?_getD, List.getElem?_replicate, if_pos h1]
    rfl
  have ha : Sf.all row ts n n = (n : Int) * max 0 v := by
    unfold Sf.all
    rw [Pl.add_same _ (fun _ => max 0 v) n (fun j hj => hw j hj), Pl.add_const]
  rw [ha, hw i hi]
end Go.Proofs.YtcgjnjchkachdaaDoor
