/-
  Package pack's Reader: a piece that is not there, or behind an error; walked. By an AI agent. No person has read it.
-/
import Derived.Test.YthjnkaikjjjceaaDoorPcTenP
namespace Go.Proofs.YthjnkaikjjjceaaDoor
open Go.RowKit
set_option maxRecDepth 100000 in
set_option maxHeartbeats 4000000 in
/-- A piece that goes beyond the end: nothing, and the reader has ErrEnd. -/
theorem piece_end (g at_ len cap n : Nat) (A : Option Addr) (ae : Addr) (w : World) (h : Has w g 118 [.slice A len cap, .int .i64 (at_ : Int), .nilIface]) (hE : ErrIs w 3 ae) (hat : at_ ≤ len) (hn : len < at_ + n) (_hl : len ≤ 1000000000) (hn2 : n ≤ 1000000000) :
    Calls Tryd.prog 32 #[.pointer (some ⟨g, 0, none⟩), .int .i64 (n : Int)] w fun e w' => e = .returned (.slice none 0 0) ∧ Has w' g 118 [.slice A len cap, .int .i64 (at_ : Int), errv ae] ∧ w.grownBy w' (some g) := by
  have c0 : w.cell? ⟨g, 0, none⟩ = some (.slice A len cap) := by rw [h.cell]; rfl
  have c1 : w.cell? ⟨g, 1, none⟩ = some (.int .i64 (at_ : Int)) := by rw [h.cell]; rfl
  have c2 : w.cell? ⟨g, 2, none⟩ = some .nilIface := by rw [h.cell]; rfl
  have hs1 : IntKind.i64.wrap ((len : Int) - (at_ : Int)) = (len : Int) - (at_ : Int) := by rw [IntKind.wrap_i64]; omega
  have hS0 : RdS g (.slice A len cap) (.int .i64 (at_ : Int)) .nilIface w.drew := ⟨c0, c1, c2⟩
  have HF := hide (fail_first g (.slice A len cap) (.int .i64 (at_ : Int)) (errv ae) (.inl ⟨ae, rfl⟩) w.drew (h.drewN 1))
  have he : w.drew.cell? ⟨3, 0, none⟩ = some (errv ae) := hE.1
  have HH : Hid (Has (w.drew.setCell ⟨g, 2, none⟩ (errv ae)) g 118 [.slice A len cap, .int .i64 (at_ : Int), errv ae]) := hide ((h.drewN 1).set_ 2 (errv ae))
  have HG := hide (grown_set (grown_drew (World.grownBy.refl w (some g))) ⟨g, 2, none⟩ rfl (errv ae))
  have x2 : (w.drew.setCell ⟨g, 2, none⟩ (errv ae)).cell? ⟨g, 2, none⟩ = some (errv ae) := by rw [HH.out.cell]; rfl
  have HN := hide hn
  have HAT := hide hat
  clear h hE hn hat
  go_enter Tryd.func32, Tryd.ntmps32
  go_wp2_with fail
  go_region_held3 (fun W => W.cell? ⟨g, 0, none⟩ = some (.slice A len cap) ∧ W.cell? ⟨g, 1, none⟩ = some (.int .i64 (at_ : Int)) ∧ W.cell? ⟨g, 2, none⟩ = some .nilIface)
    (first | exact hS0 | assumption)
    (first | fail)
  have hcd : decide ((len : Int) - (at_ : Int) < (n : Int)) = true := decide_eq_true (by have h1 := HN.out; have h2 := HAT.out; omega)
  rw [hcd]
  clear hcd hs1 hS0 c0 c1 c2
  go_wp2_with fail
  refine HF.out.mono ?_
  rintro e w2 ⟨⟨r, rfl⟩, hw2⟩
  rw [← hw2] at x2 HH HG
  clear he hw2
  go_wp2_with fail
  go_ret
  exact ⟨rfl, HH.out, HG.out⟩
set_option maxRecDepth 100000 in
set_option maxHeartbeats 4000000 in
/-- Behind an error: nothing. -/
theorem piece_bad (g at_ len cap n : Nat) (A : Option Addr) (ae : Addr) (v : Value) (hv : IsErr v) (w : World) (h : Has w g 118 [.slice A len cap, .int .i64 (at_ : Int), v]) (hE : ErrIs w 3 ae) (hat : at_ ≤ len) (hl : len ≤ 1000000000) :
    Calls Tryd.prog 32 #[.pointer (some ⟨g, 0, none⟩), .int .i64 (n : Int)] w fun e w' => e = .returned (.slice none 0 0) ∧ Has w' g 118 [.slice A len cap, .int .i64 (at_ : Int), v] ∧ w.grownBy w' (some g) := by
  have c0 : w.cell? ⟨g, 0, none⟩ = some (.slice A len cap) := by rw [h.cell]; rfl
  have c1 : w.cell? ⟨g, 1, none⟩ = some (.int .i64 (at_ : Int)) := by rw [h.cell]; rfl
  have c2 : w.cell? ⟨g, 2, none⟩ = some v := by rw [h.cell]; rfl
  have hs1 : IntKind.i64.wrap ((len : Int) - (at_ : Int)) = (len : Int) - (at_ : Int) := by rw [IntKind.wrap_i64]; omega
  have hS0 : RdS g (.slice A len cap) (.int .i64 (at_ : Int)) v w.drew := ⟨c0, c1, c2⟩
  have HF := hide (fail_more g (.slice A len cap) (.int .i64 (at_ : Int)) v (errv ae) hv w.drew (h.drewN 1))
  have he : w.drew.cell? ⟨3, 0, none⟩ = some (errv ae) := hE.1
  have x2 : w.drew.cell? ⟨g, 2, none⟩ = some v := c2
  have HH : Hid (Has w.drew g 118 [.slice A len cap, .int .i64 (at_ : Int), v]) := hide (h.drewN 1)
  have HG := hide (grown_drew (World.grownBy.refl w (some g)))
  clear h hE hat
  rcases hv with ⟨a, rfl⟩ | ⟨k, rfl⟩
  · go_enter Tryd.func32, Tryd.ntmps32
    go_wp2_with fail
    go_region_held3 (fun W => W.cell? ⟨g, 0, none⟩ = some (.slice A len cap) ∧ W.cell? ⟨g, 1, none⟩ = some (.int .i64 (at_ : Int)) ∧ W.cell? ⟨g, 2, none⟩ = some (errv a))
      (first | exact hS0 | assumption)
      (first | fail)
    cases hcd : decide ((len : Int) - (at_ : Int) < (n : Int))
    · clear hs1 hS0 c0 c1 c2
      go_wp2_with fail
      go_ret
      exact ⟨rfl, HH.out, HG.out⟩
    · clear hs1 hS0 c0 c1 c2
      go_wp2_with fail
      refine HF.out.mono ?_
      rintro e w2 ⟨⟨r, rfl⟩, rfl⟩
      clear he
      go_wp2_with fail
      go_ret
      exact ⟨rfl, HH.out, HG.out⟩
  · go_enter Tryd.func32, Tryd.ntmps32
    go_wp2_with fail
    go_region_held3 (fun W => W.cell? ⟨g, 0, none⟩ = some (.slice A len cap) ∧ W.cell? ⟨g, 1, none⟩ = some (.int .i64 (at_ : Int)) ∧ W.cell? ⟨g, 2, none⟩ = some (.iface 119 (.pointer (some ⟨k, 0, none⟩))))
      (first | exact hS0 | assumption)
      (first | fail)
    cases hcd : decide ((len : Int) - (at_ : Int) < (n : Int))
    · clear hs1 hS0 c0 c1 c2
      go_wp2_with fail
      go_ret
      exact ⟨rfl, HH.out, HG.out⟩
    · clear hs1 hS0 c0 c1 c2
      go_wp2_with fail
      refine HF.out.mono ?_
      rintro e w2 ⟨⟨r, rfl⟩, rfl⟩
      clear he
      go_wp2_with fail
      go_ret
      exact ⟨rfl, HH.out, HG.out⟩
end Go.Proofs.YthjnkaikjjjceaaDoor
