/-
  What the law ShapeSays's great statement holds. By an AI agent. No person has read it.
-/
import Derived.Test.YtnbjcdmiehnceaaDoorShpE
import Derived.Test.YtnbjcdmiehnceaaDoorShpY
import Derived.Test.YtnbjcdmiehnceaaDoorShpTy
import Derived.Test.YtnbjcdmiehnceaaDoorShpCl
import Derived.Deep.RegionHeld3
namespace Go.Proofs.YtnbjcdmiehnceaaDoor
open Go.RowKit

/-- What is held through the great statement: the three blocks, and all that was there. -/
abbrev SaysS (B G : Nat) (wr : World) (x1 x2 y1 y2 z1 z2 : Value) (W : World) : Prop :=
  W.cell? ⟨B, 0, none⟩ = some x1 ∧ W.cell? ⟨B, 1, none⟩ = some x2 ∧ W.cell? ⟨B + 1, 0, none⟩ = some y1 ∧ W.cell? ⟨B + 1, 1, none⟩ = some y2 ∧ W.cell? ⟨G, 0, none⟩ = some z1 ∧ W.cell? ⟨G, 1, none⟩ = some z2 ∧ Hid (Below wr.heap.size wr W)
theorem cell_kept {W W' : World} {a : Addr} {v : Value} (h : W.cell? a = some v) (hb : Below W.heap.size W W') : W'.cell? a = some v :=
  (hb.cell (World.block_lt_of_cell? W a h)).trans h
theorem SaysS.keep {B G : Nat} {wr : World} {x1 x2 y1 y2 z1 z2 : Value} {W W' : World} (h : SaysS B G wr x1 x2 y1 y2 z1 z2 W) (hb : Below W.heap.size W W') : SaysS B G wr x1 x2 y1 y2 z1 z2 W' := by
  obtain ⟨h1, h2, h3, h4, h5, h6, h7⟩ := h
  exact ⟨cell_kept h1 hb, cell_kept h2 hb, cell_kept h3 hb, cell_kept h4 hb, cell_kept h5 hb, cell_kept h6 hb, hide (h7.out.trans (hb.mono h7.out.size))⟩
theorem SaysS.low {B G : Nat} {wr : World} {x1 x2 y1 y2 z1 z2 : Value} {W : World} (h : SaysS B G wr x1 x2 y1 y2 z1 z2 W) : Below wr.heap.size wr W := h.2.2.2.2.2.2.out
theorem text_k (zs : List Int) (P : Option Addr) (cap : Nat) (wide : Bool) (w : World) (hr : Ri w P zs) (hP : Pz w) (hok : Shp.ok zs = true) :
    Calls Tryd.prog 29 #[.agg (dcells P zs.length cap wide)] w fun e w' => e = .returned (.string ⟨(Shp.text zs wide).toArray⟩) ∧ Below w.heap.size w w' := by
  refine (text_c zs P cap wide w hr hP hok).mono ?_
  rintro e w' ⟨⟨s, rfl, hs⟩, hb⟩
  exact ⟨by unfold Sb at hs; rw [← hs], hb⟩
theorem desctext_k (zs : List Int) (P : Option Addr) (cap : Nat) (wide : Bool) (w : World) (hr : Ri w P zs) (hP : Pz w) (hok : Shp.ok zs = true) :
    Calls Tryd.prog 30 #[.agg (dcells P zs.length cap wide)] w fun e w' => e = .returned (.string ⟨(Shp.text zs wide).toArray⟩) ∧ Below w.heap.size w w' := by
  refine (desctext_c zs P cap wide w hr hP hok).mono ?_
  rintro e w' ⟨⟨s, rfl, hs⟩, hb⟩
  exact ⟨by unfold Sb at hs; rw [← hs], hb⟩
end Go.Proofs.YtnbjcdmiehnceaaDoor
