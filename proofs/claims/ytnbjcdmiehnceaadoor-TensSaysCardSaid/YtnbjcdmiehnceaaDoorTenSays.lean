/-
  The law TensSays, of any tensor. By an AI agent. No person has read it.
-/
import Derived.Test.YtnbjcdmiehnceaaDoorTenSaya
import Derived.Test.YtnbjcdmiehnceaaDoorTenSayb
namespace Go.Proofs.YtnbjcdmiehnceaaDoor
open Go.RowKit

set_option maxRecDepth 100000 in
set_option maxHeartbeats 4000000 in
theorem tsays_long (P D Q : Option Addr) (n cap m dcap l capq : Nat) (u : Bool) (q : Int) (ah am ar : Addr) (w : World) (hlong : ¬ (n ≤ 8 ∧ m ≤ 300 ∧ l ≤ 8)) (hE : E3 w ah am ar) :
    Calls Tryd.prog 8 #[.agg (tcells P n cap u D m dcap), .slice Q l capq, .int .i64 q] w fun e w' => e = .returned (.bool true) ∧ Below w.heap.size w w' := by
  have hb0 := (Below.refl _ w).alloc (Nat.le_refl _) (Obj.cells (tcells P n cap u D m dcap) 53)
  have HF := hide (first6_c ah am ar _ (hE.below hb0))
  have HT0 := hide (tens_row w P n cap u D m dcap)
  have HB0 := hide hb0
  have HWT := hide (fun W => worldtensor_c P D n cap m dcap u W)
  clear hb0 hE
  go_enter Tryd.func8, Tryd.ntmps8
  go_wp2_with fail
  refine HF.out.mono ?_
  rintro e w1 ⟨rfl, hb⟩
  have hT := HT0.out.below hb HT0.out.lt
  have hB := HB0.out.trans (hb.mono HB0.out.size)
  have c0 : w1.cell? ⟨w.heap.size, 0, none⟩ = some (.slice P n cap) := by rw [hT.cell]; rfl
  have c1 : w1.cell? ⟨w.heap.size, 1, none⟩ = some (.bool u) := by rw [hT.cell]; rfl
  have c2 : w1.cell? ⟨w.heap.size, 2, none⟩ = some (.slice D m dcap) := by rw [hT.cell]; rfl
  have HB := hide hB
  clear hb hT hB HT0 HB0 HF
  by_cases hnm : n ≤ 8 ∧ m ≤ 300
  · have hl : (8 : Int) < l := by omega
    have e2 : (decide (n ≤ 8) && decide (m ≤ 300)) = true := by simp [hnm]
    rw [e2] at HWT
    clear e2 hlong hnm
    go_wp2_with fail
    refine (HWT.out w1).mono ?_
    rintro e w2 ⟨rfl, hb⟩
    have HFin := hide (HB.out.trans (hb.mono HB.out.size))
    clear hb HB
    go_wp2_with fail
    go_ret
    exact ⟨rfl, HFin.out⟩
  · have e2 : (decide (n ≤ 8) && decide (m ≤ 300)) = false := by
      rw [← Bool.decide_and]
      exact decide_eq_false hnm
    rw [e2] at HWT
    clear e2 hlong hnm
    go_wp2_with fail
    refine (HWT.out w1).mono ?_
    rintro e w2 ⟨rfl, hb⟩
    have HFin := hide (HB.out.trans (hb.mono HB.out.size))
    clear hb HB
    go_wp2_with fail
    go_ret
    exact ⟨rfl, HFin.out⟩
theorem tsays_any (es : List Addr) (zs ds ys : List Int) (P D Q : Option Addr) (cap dcap capq : Nat) (u : Bool) (q : Int) (w : World) (hr : Ri w P zs) (hd : Ri w D ds) (hq : Ri w Q ys) (hZ : Ez w es) :
    Calls Tryd.prog 8 #[.agg (tcells P zs.length cap u D ds.length dcap), .slice Q ys.length capq, .int .i64 q] w fun e w' => e = .returned (.bool true) ∧ Below w.heap.size w w' := by
  obtain ⟨ah, am, ar, hah, ham, har, hE⟩ := e3_of hZ
  by_cases h : zs.length ≤ 8 ∧ ds.length ≤ 300 ∧ ys.length ≤ 8
  · by_cases hA : Tens.fault zs u ds = (0, none)
    · exact tsays_A es ah am ar hah ham har zs ds ys P D Q cap dcap capq u q w hr hd hq h.1 h.2.1 h.2.2 hZ hE hA
    · exact tsays_B es ah am ar hah ham har zs ds ys P D Q cap dcap capq u q w hr hd hq h.1 h.2.1 h.2.2 hZ hE hA
  · exact tsays_long P D Q _ cap _ dcap _ capq u q ah am ar w h hE
end Go.Proofs.YtnbjcdmiehnceaaDoor
