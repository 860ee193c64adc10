/-
  lodgeref3.ElemResult of any operation, walked. By an AI agent. No person has read it.
-/
import Derived.Test.YtgdcfjmpjhlndaaGreatDoorZFElmN
namespace Go.Proofs.YtgdcfjmpjhlndaaGreatDoor
open Go.RowKit
/-- What is held in a region: a box, two cells of a row, the call's own result. -/
abbrev RsS (w : World) (b : Nat) (ad : Addr) (x0 x1 y0 y1 : Value) (W : World) : Prop := W.cell? ⟨b, 0, none⟩ = some x0 ∧ W.cell? ⟨b, 1, none⟩ = some x1 ∧ W.cell? ⟨ad.block, ad.off + 2, none⟩ = some y0 ∧ W.cell? ⟨ad.block, ad.off + 3, none⟩ = some y1 ∧ b < W.heap.size ∧ ad.block < W.heap.size ∧
  Hid (Has W w.heap.size 24 [.slice none 0 0, .bool false]) ∧ Hid (Has W b 24 [x0, x1]) ∧ Hid (Below w.heap.size w W)
theorem RsS.keep {w : World} {b : Nat} {ad : Addr} {x0 x1 y0 y1 : Value} {W W' : World} (h : RsS w b ad x0 x1 y0 y1 W) (hb : Below W.heap.size W W') : RsS w b ad x0 x1 y0 y1 W' := by
  obtain ⟨h0, h1, h2, h3, h4, h5, h6, h7, h8⟩ := h
  exact ⟨(hb.cell (p := ⟨b, 0, none⟩) h4).trans h0, (hb.cell (p := ⟨b, 1, none⟩) h4).trans h1, (hb.cell (p := ⟨ad.block, ad.off + 2, none⟩) h5).trans h2, (hb.cell (p := ⟨ad.block, ad.off + 3, none⟩) h5).trans h3, Nat.lt_of_lt_of_le h4 hb.size, Nat.lt_of_lt_of_le h5 hb.size, hide (h6.out.below hb h6.out.lt), hide (h7.out.below hb h7.out.lt), hide (h8.out.trans (hb.mono h8.out.size))⟩
end Go.Proofs.YtgdcfjmpjhlndaaGreatDoor
