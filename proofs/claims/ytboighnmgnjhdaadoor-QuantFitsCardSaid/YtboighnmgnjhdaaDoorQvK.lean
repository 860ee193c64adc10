/-
  The law QuantFits of package lodgelaw4. By an AI agent. No person has read it.
-/
import Derived.Test.YtboighnmgnjhdaaDoorQvC
import Derived.Test.YtboighnmgnjhdaaDoorQvD
import Derived.Test.YtboighnmgnjhdaaDoorQvH
import Derived.Test.YtboighnmgnjhdaaDoorBasC
import Derived.Test.YtboighnmgnjhdaaDoorErrD
import Derived.Deep.RegionHeld3
namespace Go.Proofs.YtboighnmgnjhdaaDoor
open Go.RowKit
open Ieee

abbrev FitS (g G : Nat) (wr : World) (x1 x2 y1 y2 : Value) (W : World) : Prop :=
  W.cell? ⟨g, 0, none⟩ = some x1 ∧ W.cell? ⟨g, 1, none⟩ = some x2 ∧ W.cell? ⟨G, 0, none⟩ = some y1 ∧ W.cell? ⟨G, 1, none⟩ = some y2 ∧ Hid (Below wr.heap.size wr W)
theorem FitS.keep {g G : Nat} {wr : World} {x1 x2 y1 y2 : Value} {W W' : World} (h : FitS g G wr x1 x2 y1 y2 W) (hb : Below W.heap.size W W') : FitS g G wr x1 x2 y1 y2 W' := by
  obtain ⟨h1, h2, h3, h4, h⟩ := h
  exact ⟨byt_kept h1 hb, byt_kept h2 hb, byt_kept h3 hb, byt_kept h4 hb, hide (h.out.trans (hb.mono h.out.size))⟩
theorem FitS.low {g G : Nat} {wr : World} {x1 x2 y1 y2 : Value} {W : World} (h : FitS g G wr x1 x2 y1 y2 W) : Below wr.heap.size wr W := h.2.2.2.2.out
/-- What is read of any bytes: the scale, the error's number. -/
theorem sread_c (bs : List Nat) (A : Option Addr) (cap : Nat) (hcap : bs.length ≤ cap) (hcap2 : cap ≤ 9223372036854775807) (es : List Addr) (w : World) (hr : Rb w A bs) (hE : Ez w es) :
    Calls Tryd.prog 39 #[.slice A bs.length cap] w fun e w' => (∃ (x : Nat) (z : Int) (v : Value) (k : Nat), e = .returned (.tuple #[.agg #[.float .f64 x, .int .i64 z], v]) ∧
      ((bs.length < 9 ∧ k = 105 ∧ ∃ a, es[4]? = some a ∧ v = errv a) ∨ (9 < bs.length ∧ k = 104 ∧ ∃ a, es[3]? = some a ∧ v = errv a) ∨
       (bs.length = 9 ∧ Qua.good (Qua.rby bs) (Qua.rz bs) = false ∧ k = 102 ∧ ∃ a, es[1]? = some a ∧ v = errv a) ∨ (bs.length = 9 ∧ Qua.good (Qua.rby bs) (Qua.rz bs) = true ∧ k = 0 ∧ v = .nilIface ∧ x = Qua.rby bs ∧ z = Qua.rz bs))) ∧ Below w.heap.size w w' := by
  have hlen := hE.1
  rcases Nat.lt_trichotomy bs.length 9 with h | h | h
  · have ha : es[4]? = some es[4] := List.getElem?_eq_getElem (by omega)
    exact (sread_end A bs.length cap h es[4] w (hE.2.2 4 _ _ rfl ha)).mono fun e w' hh => ⟨⟨_, _, _, 105, hh.1, .inl ⟨h, rfl, _, ha, rfl⟩⟩, hh.2⟩
  · have ha : es[1]? = some es[1] := List.getElem?_eq_getElem (by omega)
    have hh := sread_nine bs A cap (by omega) hcap2 es[1] w hr h (hE.2.2 1 _ _ rfl ha)
    rw [← h] at hh
    cases hg : Qua.good (Qua.rby bs) (Qua.rz bs)
    · exact hh.mono fun e w' hx => ⟨⟨_, _, _, 102, hx.1.2 hg, .inr (.inr (.inl ⟨h, rfl, rfl, _, ha, rfl⟩))⟩, hx.2⟩
    · exact hh.mono fun e w' hx => ⟨⟨_, _, _, 0, hx.1.1 hg, .inr (.inr (.inr ⟨h, rfl, rfl, rfl, rfl, rfl⟩))⟩, hx.2⟩
  · have ha : es[3]? = some es[3] := List.getElem?_eq_getElem (by omega)
    exact (sread_many A bs.length cap h (by omega) es[3] w (hE.2.2 3 _ _ rfl ha)).mono fun e w' hh => ⟨⟨_, _, _, 104, hh.1, .inr (.inl ⟨h, rfl, _, ha, rfl⟩)⟩, hh.2⟩
set_option maxRecDepth 100000 in
set_option maxHeartbeats 8000000 in
theorem fits_great (xs : List Nat) (A : Option Addr) (cap : Nat) (bs : List Nat) (B : Option Addr) (capb : Nat) (w : World) (h : 40 < xs.length ∨ (xs.length ≤ 40 ∧ 20 < bs.length)) :
    Calls Tryd.prog 6 #[.slice A xs.length cap, .slice B bs.length capb] w fun e w' => e = .returned (.bool true) ∧ Below w.heap.size w w' := by
  have HF := hide qfirst_c
  generalize xs.length = n at *
  generalize bs.length = m at *
  have h' : Hid ((40 : Int) < n ∨ (¬ (40 : Int) < n ∧ (20 : Int) < m)) := hide (by omega)
  clear h
  rcases h'.out with h | ⟨h, h2⟩
  all_goals
    go_enter Tryd.func6, Tryd.ntmps6
    go_wp2_with fail
    refine (HF.out _).mono ?_
    rintro e w1 ⟨rfl, rfl⟩
    go_wp2_with fail
    go_ret
    exact ⟨rfl, (Below.refl _ _).drew⟩
end Go.Proofs.YtboighnmgnjhdaaDoor
