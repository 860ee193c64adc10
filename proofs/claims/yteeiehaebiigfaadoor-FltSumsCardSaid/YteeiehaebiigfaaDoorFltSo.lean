/-
  flt.Sort of fewer than 20 numbers. By an AI agent. No person has read it.
-/
import Derived.Test.YteeiehaebiigfaaDoorFltCl
import Derived.WalkSmall
namespace Go.Proofs.YteeiehaebiigfaaDoor
open Go.RowKit

theorem row_below {w w1 : World} {g off q : Nat} {d : Array W64} (h : Below w.heap.size w w1) (hg : w.heap.size ≤ g) : Below w.heap.size w ((Sort.putRow encF w1 g off d).drewN q) := by
  refine below_drewN ?_ q
  have hs : w1.heap.size = (Sort.putRow encF w1 g off d).heap.size := by simp
  exact ⟨h.os, h.tape, h.output, by rw [← hs]; exact h.size, fun k hk => by
    rw [← h.block k hk]
    simp [Sort.putRow, Sort.mapBlock, Array.getElem?_modify, show g ≠ k by omega]⟩
set_option maxRecDepth 100000 in
theorem sort_small (I : SortsF 77) (d : Array W64) (A : Option Addr) (cap : Nat) (w : World) (hr : Fl w A (vals d)) (h0 : 0 < d.size) (hn : d.size < 20) :
    Calls Tryd.prog 21 #[.slice A d.size cap] w fun e w' => ∃ g c, e = .returned (.slice (some ⟨g, 0, none⟩) d.size c) ∧ w.heap.size ≤ g ∧ Sort.Holds encF w' g 0 (Sort.insertionSort ltF d 0 d.size) ∧ (Sort.insertionSort ltF d 0 d.size).size = d.size ∧ Below w.heap.size w w' := by
  have H1 := hide (clone_c d A cap w hr h0 (by omega))
  have H2 := hide (fun g c w' h => sortstable_small I g 0 c d w' h hn)
  have hps := (Sort.insertionSort_holds (lt := ltF) swoF d 0 d.size (Nat.zero_le _) (Nat.le_refl _)).1.1
  have H3 := hide (fun (w1 : World) (g : Nat) (h : Sort.Holds encF w1 g 0 d) => Sort.holds_putRow encF w1 g 0 d (Sort.insertionSort ltF d 0 d.size) h hps)
  obtain ⟨n, hsz⟩ : ∃ n, Hid (d.size = n) := ⟨_, hide rfl⟩
  rw [hsz.out] at H1 H2 H3 hn h0 hps ⊢
  obtain ⟨r, hr'⟩ : ∃ r, Hid (Sort.insertionSort ltF d 0 n = r) := ⟨_, hide rfl⟩
  rw [hr'.out] at H2 H3 hps ⊢
  have HS := hide hps
  clear hr hps
  go_enter Tryd.func21, Tryd.ntmps21
  go_wp2_with fail
  refine H1.out.mono ?_
  rintro e' w2 ⟨g, c, rfl, hg, hh, hb⟩
  have HG := hide hg
  have HH := hide hh
  have HB := hide hb
  have H4 := hide (H2.out g c w2 hh)
  obtain ⟨W3, hW3⟩ : ∃ W3, Hid (Sort.putRow encF w2 g 0 r = W3) := ⟨_, hide rfl⟩
  rw [hW3.out] at H4
  clear hg hh hb
  go_wp2_with fail
  refine H4.out.mono ?_
  rintro e' w4 ⟨rfl, q, rfl⟩
  go_wp2_with fail
  go_ret
  refine ⟨g, c, rfl, HG.out, ?_, HS.out, ?_⟩
  · have := H3.out w2 g HH.out
    rw [hW3.out] at this
    exact this
  · have := row_below (off := 0) (q := q) (d := r) HB.out HG.out
    rw [hW3.out] at this
    exact this
end Go.Proofs.YteeiehaebiigfaaDoor
