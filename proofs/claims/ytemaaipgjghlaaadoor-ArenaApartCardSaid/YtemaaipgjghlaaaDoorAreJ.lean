/-
  Arena.Add of a part that may not be, walked. By an AI agent. No person has read it.
-/
import Derived.Test.YtemaaipgjghlaaaDoorAreI
import Derived.Deep.RegionHeld3
namespace Go.Proofs.YtemaaipgjghlaaaDoor
open Go.RowKit

abbrev part0 : List Value := [.int .i64 0, .int .i64 0, .int .i64 0]
/-- The call's own part, written anew behind a draw. -/
theorem part_twod {w W : World} {b base : Nat} (hz : Has W b 30 part0) (hB : Below base w W) (hb : base ≤ b) : W.cell? ⟨b, 0, none⟩ = some (.int .i64 0) ∧ W.cell? ⟨b, 1, none⟩ = some (.int .i64 0) ∧ W.cell? ⟨b, 2, none⟩ = some (.int .i64 0) ∧ W.frozen? ⟨b, 0, none⟩ = false ∧ W.frozen? ⟨b, 1, none⟩ = false ∧ W.frozen? ⟨b, 2, none⟩ = false ∧
    Hid (Has (((W.drew.setCell ⟨b, 0, none⟩ (.int .i64 0)).setCell ⟨b, 1, none⟩ (.int .i64 0)).setCell ⟨b, 2, none⟩ (.int .i64 0)) b 30 part0) ∧ Hid (Below base w (((W.drew.setCell ⟨b, 0, none⟩ (.int .i64 0)).setCell ⟨b, 1, none⟩ (.int .i64 0)).setCell ⟨b, 2, none⟩ (.int .i64 0))) :=
  ⟨hz.cell 0, hz.cell 1, hz.cell 2, hz.frozen 0, hz.frozen 1, hz.frozen 2, (((hz.drewN 1).set_ 0 _).set_ 1 _).set_ 2 _, ((hB.drew.setCell (p := ⟨b, 0, none⟩) hb _).setCell (p := ⟨b, 1, none⟩) hb _).setCell (p := ⟨b, 2, none⟩) hb _⟩
/-- An answer that is an error. -/
def Ar.Bad (ar : Addr) (w : World) (e : Ending) (w' : World) : Prop := e = .returned (.tuple #[.agg #[.int .i64 0, .int .i64 0, .int .i64 0], errv ar]) ∧ Below w.heap.size w w'

set_option maxRecDepth 100000 in
set_option maxHeartbeats 8000000 in
theorem add_small (id size : Int) (P : Value) (ar : Addr) (w : World) (hs : size < 1) (hE : ErrIs w 0 ar) :
    Calls Tryd.prog 9 #[P, .int .i64 id, .int .i64 size] w (Ar.Bad ar w) := by
  have HE := hide hE
  have HZ : Hid (Has (w.alloc (.cells #[.int .i64 0, .int .i64 0, .int .i64 0] 30)) w.heap.size 30 part0) := hide (Has.new w 30 part0)
  have HB : Hid (Below w.heap.size w (w.alloc (.cells #[.int .i64 0, .int .i64 0, .int .i64 0] 30))) := hide ((Below.refl w.heap.size w).alloc (Nat.le_refl _) _)
  have hs1 : ¬ (1 ≤ size) := by omega
  clear hE
  go_enter Tryd.func9, Tryd.ntmps9
  go_wp2_with fail
  generalize (w.alloc (.cells #[.int .i64 0, .int .i64 0, .int .i64 0] 30)) = W0 at *
  obtain ⟨z0, z1, z2, zf0, zf1, zf2, HZf, HFf⟩ := part_twod HZ.out HB.out (Nat.le_refl _)
  have hs5 : W0.drew.cell? ⟨0, 0, none⟩ = some (errv ar) := (HE.out.below HB.out).1
  have hglt : 0 < w.heap.size := HE.out.2.1
  have hS9 := hide (HE.out.below HFf.out).1
  go_wp2_with fail
  go_region_held3 (fun W => W.cell? ⟨0, 0, none⟩ = some (errv ar))
    (first | exact hs5 | assumption | exact hS9.out)
    (first | fail)
  go_wp2_with fail
  refine bodyPost_ret (results_part rfl _ _ w.heap.size _ _ _ rfl HZf.out) rfl ?_
  exact ⟨rfl, HFf.out⟩

set_option maxRecDepth 100000 in
set_option maxHeartbeats 8000000 in
theorem add_there (id size : Int) (base a m : Nat) (v : Value) (mem : List Nat) (l : List Hd) (ar : Addr) (w : World) (hA : ArIn base w a m v mem l) (hl : l.length ≤ 1000) (hs : 1 ≤ size) (hf : 0 ≤ Ar.find id 0 l) (hE : ErrIs w 0 ar) :
    Calls Tryd.prog 9 #[.pointer (some ⟨a, 0, none⟩), .int .i64 id, .int .i64 size] w (Ar.Bad ar w) := by
  obtain ⟨A, c, rfl, hnc, hlie, -, -⟩ := own_lie hA.row
  have HE := hide hE
  have HZ0 := hide (Has.new w 30 part0)
  have HB0 := hide ((Below.refl w.heap.size w).alloc (Nat.le_refl _) (.cells part0.toArray 30))
  have VF := hide (fun W (hb : Below w.heap.size w W) => find_c l A c a _ id W (hlie.below hb) (by omega) (hA.below hb).box)
  obtain ⟨F, hF⟩ : ∃ F, Hid (Ar.find id 0 l = F) := ⟨_, hide rfl⟩
  rw [hF.out] at VF hf
  have hs1 : ¬ (size < 1) := by omega
  clear hE hlie hA
  go_enter Tryd.func9, Tryd.ntmps9
  go_wp2_with fail
  refine (VF.out _ HB0.out).mono ?_
  rintro e w1 ⟨rfl, hb⟩
  have HB := hide (HB0.out.trans (hb.mono HB0.out.size))
  have HZ := hide (HZ0.out.below hb HZ0.out.lt)
  clear HB0 HZ0 VF hb
  obtain ⟨z0, z1, z2, zf0, zf1, zf2, HZf, HFf⟩ := part_twod HZ.out HB.out (Nat.le_refl _)
  have hs5 : w1.drew.cell? ⟨0, 0, none⟩ = some (errv ar) := (HE.out.below HB.out).1
  have hglt : 0 < w.heap.size := HE.out.2.1
  have hS9 := hide (HE.out.below HFf.out).1
  go_wp2_with fail
  go_region_held3 (fun W => W.cell? ⟨0, 0, none⟩ = some (errv ar))
    (first | exact hs5 | assumption | exact hS9.out)
    (first | fail)
  go_wp2_with fail
  refine bodyPost_ret (results_part rfl _ _ w.heap.size _ _ _ rfl HZf.out) rfl ?_
  exact ⟨rfl, HFf.out⟩
end Go.Proofs.YtemaaipgjghlaaaDoor
