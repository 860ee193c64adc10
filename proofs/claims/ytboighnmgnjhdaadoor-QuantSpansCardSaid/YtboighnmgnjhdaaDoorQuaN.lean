/-
  A scale made. By an AI agent. No person has read it.
-/
import Derived.Test.YtboighnmgnjhdaaDoorQuaL
import Derived.RegionTactic
import Derived.Deep.RegionHeld3
namespace Go.Proofs.YtboighnmgnjhdaaDoor
open Go.RowKit
open Ieee

theorem results_scale {fn : Func} {p u : Tmp} (h : fn.results = #[.cell p 33, .tmp u]) (tmps : Array Value) (w : World) (g : Nat) (x y : Value)
    (hp : tmps.getD p undef = .pointer (some ⟨g, 0, none⟩)) (hg : Has w g 33 [x, y]) : (results fn tmps).run Tryd.prog w = .ok (.tuple #[.agg #[x, y], tmps.getD u undef]) w := by
  rw [results_cell_tmp h, hp]
  have h1 := run_loadVar_row (P := Tryd.prog) w g 33 33 #[x, y] (0, 0) _ hg Tryd.underlying33 rfl (by kernel_rfl)
  simp [asAddr, h1, Result.andThen]
theorem store_f (x : Nat) (a : Addr) (w : World) : (store a (.float .f64 x)).run Tryd.prog w = stored Tryd.prog w a (.float .f64 x) .plain := run_store _ w a _ _ rfl
set_option maxRecDepth 100000 in
set_option maxHeartbeats 4000000 in
theorem new_good (b : Nat) (hb : b < 18446744073709551616) (z : Int) (hg : Qua.good b z = true) (w : World) :
    Calls Tryd.prog 23 #[.float .f64 b, .int .i64 z] w fun e w' => e = .returned (.tuple #[.agg #[.float .f64 b, .int .i64 z], .nilIface]) ∧ Below w.heap.size w w' := by
  have hg' : Qua.pos b = true ∧ -128 ≤ z ∧ z ≤ 127 := by
    unfold Qua.good at hg
    simp only [Bool.and_eq_true, decide_eq_true_eq] at hg
    exact ⟨hg.1.1, hg.1.2, hg.2⟩
  have HP := hide (positive_c b hb)
  rw [hg'.1] at HP
  obtain ⟨-, z1, z2⟩ := hg'
  have hsf := store_f b
  clear hg hb
  go_enter Tryd.func23, Tryd.ntmps23
  go_wp2_with fail
  refine (HP.out _).mono ?_
  rintro e w1 ⟨rfl, hw1⟩
  have hz : Has w1 w.heap.size 33 [.float .f64 0, .int .i64 0] := by rw [hw1]; exact Has.new w _ _
  have hB : Below w.heap.size w w1 := by rw [hw1]; exact (Below.refl w.heap.size w).alloc (Nat.le_refl _) _
  clear hw1
  have d0 : w1.cell? ⟨w.heap.size, 0, none⟩ = some (.float .f64 0) := by rw [hz.cell]; rfl
  have d1 : w1.cell? ⟨w.heap.size, 1, none⟩ = some (.int .i64 0) := by rw [hz.cell]; rfl
  have f0 := hz.frozen 0
  have f1 := hz.frozen 1
  have HZ' := hide ((hz.set_ 0 (.float .f64 b)).set_ 1 (.int .i64 z))
  have HB := hide ((hB.setCell (p := ⟨w.heap.size, 0, none⟩) (Nat.le_refl _) (.float .f64 b)).setCell (p := ⟨w.heap.size, 1, none⟩) (Nat.le_refl _) (.int .i64 z))
  clear hz hB
  go_wp2_with fail
  refine bodyPost_ret (results_scale rfl _ _ w.heap.size _ _ rfl HZ'.out) rfl ?_
  exact ⟨rfl, HB.out⟩
set_option maxRecDepth 100000 in
set_option maxHeartbeats 4000000 in
theorem new_bad (b : Nat) (hb : b < 18446744073709551616) (z : Int) (hg : Qua.good b z = false) (ar : Addr) (w : World) (hE : ErrIs w 1 ar) :
    Calls Tryd.prog 23 #[.float .f64 b, .int .i64 z] w fun e w' => e = .returned (.tuple #[.agg #[.float .f64 0, .int .i64 0], errv ar]) ∧ Below w.heap.size w w' := by
  have HP := hide (positive_c b hb)
  have hg' : Qua.pos b = false ∨ Qua.pos b = true ∧ (z < -128 ∨ ¬ z < -128 ∧ 127 < z) := by
    unfold Qua.good at hg
    cases hp : Qua.pos b
    · exact .inl rfl
    · rw [hp] at hg
      simp at hg
      refine .inr ⟨rfl, ?_⟩
      omega
  obtain ⟨p, hp⟩ : ∃ p, Hid (Qua.pos b = p) := ⟨_, hide rfl⟩
  rw [hp.out] at hg' HP
  have hsf := store_f 0
  obtain ⟨hE1, hE2, -, -⟩ := hE
  clear hg hb hp
  rcases hg' with rfl | ⟨rfl, z1 | ⟨z1, z2⟩⟩
  all_goals
    go_enter Tryd.func23, Tryd.ntmps23
    go_wp2_with fail
    refine (HP.out _).mono ?_
    rintro e w1 ⟨rfl, hw1⟩
    have hz : Has w1 w.heap.size 33 [.float .f64 0, .int .i64 0] := by rw [hw1]; exact Has.new w _ _
    have hB : Below w.heap.size w w1 := by rw [hw1]; exact (Below.refl w.heap.size w).alloc (Nat.le_refl _) _
    clear hw1
    have d0 : w1.cell? ⟨w.heap.size, 0, none⟩ = some (.float .f64 0) := by rw [hz.cell]; rfl
    have d1 : w1.cell? ⟨w.heap.size, 1, none⟩ = some (.int .i64 0) := by rw [hz.cell]; rfl
    have f0 := hz.frozen 0
    have f1 := hz.frozen 1
    have HZ' := hide ((hz.set_ 0 (.float .f64 0)).set_ 1 (.int .i64 0))
    have HB := hide ((hB.setCell (p := ⟨w.heap.size, 0, none⟩) (Nat.le_refl _) (.float .f64 0)).setCell (p := ⟨w.heap.size, 1, none⟩) (Nat.le_refl _) (.int .i64 0))
    have hs5 : w1.drew.cell? ⟨1, 0, none⟩ = some (errv ar) := (hB.drew.cell (p := ⟨1, 0, none⟩) hE2).trans hE1
    have hs6 : ((w1.drew.setCell ⟨w.heap.size, 0, none⟩ (.float .f64 0)).setCell ⟨w.heap.size, 1, none⟩ (.int .i64 0)).cell? ⟨1, 0, none⟩ = some (errv ar) := (((hB.drew.setCell (p := ⟨w.heap.size, 0, none⟩) (Nat.le_refl _) (.float .f64 0)).setCell (p := ⟨w.heap.size, 1, none⟩) (Nat.le_refl _) (.int .i64 0)).cell (p := ⟨1, 0, none⟩) hE2).trans hE1
    clear hz hB
    go_wp2_with fail
    go_region_held3 (fun W => W.cell? ⟨1, 0, none⟩ = some (errv ar))
      (first | exact hs5 | assumption | exact hs6)
      (first | fail)
    go_wp2_with fail
    refine bodyPost_ret (results_scale rfl _ _ w.heap.size _ _ rfl HZ'.out) rfl ?_
    exact ⟨rfl, HB.out.drew⟩
end Go.Proofs.YtboighnmgnjhdaaDoor
