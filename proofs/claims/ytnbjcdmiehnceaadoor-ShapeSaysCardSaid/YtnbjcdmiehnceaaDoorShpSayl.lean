/-
  The law ShapeSays, walked. By an AI agent. No person has read it.
-/
import Derived.Test.YtnbjcdmiehnceaaDoorShpSay0
namespace Go.Proofs.YtnbjcdmiehnceaaDoor
open Go.RowKit

set_option maxRecDepth 100000 in
set_option maxHeartbeats 4000000 in
theorem says_long (am ar : Addr) (zs ys : List Int) (P Q : Option Addr) (cap capq : Nat) (u v : Bool) (w : World) (hE : E2 w am ar) (hlong : 8 < zs.length ∨ 8 < ys.length) :
    Calls Tryd.prog 3 #[.agg (dcells P zs.length cap u), .agg (dcells Q ys.length capq v)] w fun e w' => e = .returned (.bool true) ∧ Below w.heap.size w w' := by
  have hb0 := ((Below.refl _ w).alloc (Nat.le_refl _) (Obj.cells (dcells P zs.length cap u) 24)).alloc (by simp) (Obj.cells (dcells Q ys.length capq v) 24)
  have hd1 := (desc_row w P zs.length cap u).alloc (Obj.cells (dcells Q ys.length capq v) 24)
  have hd2 : Has ((w.alloc (Obj.cells (dcells P zs.length cap u) 24)).alloc (Obj.cells (dcells Q ys.length capq v) 24)) (w.heap.size + 1) 24 [.slice Q ys.length capq, .bool v] := by
    simpa using desc_row (w.alloc (Obj.cells (dcells P zs.length cap u) 24)) Q ys.length capq v
  obtain ⟨w0, hw0⟩ : ∃ w0, Hid ((w.alloc (Obj.cells (dcells P zs.length cap u) 24)).alloc (Obj.cells (dcells Q ys.length capq v) 24) = w0) := ⟨_, hide rfl⟩
  rw [hw0.out] at hb0 hd1 hd2
  have H0 := hide (first_c am ar w0 (hE.below hb0))
  have HB0 := hide hb0
  have HD1 := hide hd1
  have HD2 := hide hd2
  clear hb0 hd1 hd2
  obtain ⟨n, hn'⟩ : ∃ n, Hid (zs.length = n) := ⟨_, hide rfl⟩
  obtain ⟨m, hm'⟩ : ∃ m, Hid (ys.length = m) := ⟨_, hide rfl⟩
  have HW1 := hide (fun w1 => worlddesc_c P n cap u w1)
  have HW2 := hide (fun w1 => worlddesc_c Q m capq v w1)
  rw [hn'.out] at hlong hw0 HD1 ⊢
  rw [hm'.out] at hlong hw0 HD2 ⊢
  clear hE
  go_enter Tryd.func3, Tryd.ntmps3
  go_wp2_with fail
  have hw0' := hw0.out
  rw [hw0']
  clear hw0 hw0'
  refine H0.out.mono ?_
  rintro e w1 ⟨rfl, hb1⟩
  have h1 := HD1.out.below hb1 HD1.out.lt
  have h2 := HD2.out.below hb1 HD2.out.lt
  have HB1 := hide (HB0.out.trans (hb1.mono HB0.out.size))
  have c1 : w1.cell? ⟨w.heap.size, 0, none⟩ = some (.slice P n cap) := by rw [h1.cell]; rfl
  have c2 : w1.cell? ⟨w.heap.size, 1, none⟩ = some (.bool u) := by rw [h1.cell]; rfl
  have e1 : w1.cell? ⟨w.heap.size + 1, 0, none⟩ = some (.slice Q m capq) := by rw [h2.cell]; rfl
  have e2 : w1.cell? ⟨w.heap.size + 1, 1, none⟩ = some (.bool v) := by rw [h2.cell]; rfl
  clear hb1 h1 h2 H0 HB0 HD1 HD2
  by_cases hn8 : n ≤ 8
  · have hm8 : ¬ m ≤ 8 := by omega
    have hwn : decide (n ≤ 8) = true := decide_eq_true hn8
    have hwm : decide (m ≤ 8) = false := decide_eq_false hm8
    rw [hwn] at HW1
    rw [hwm] at HW2
    clear hlong hn8 hm8 hwn hwm
    go_wp2_with fail
    refine (HW1.out w1).mono ?_
    rintro e w2 ⟨rfl, hb2⟩
    replace e1 := cell_kept e1 hb2
    replace e2 := cell_kept e2 hb2
    have HB2 := hide (HB1.out.trans (hb2.mono HB1.out.size))
    clear hb2
    go_wp2_with fail
    refine (HW2.out w2).mono ?_
    rintro e w3 ⟨rfl, hb3⟩
    have hfin := HB2.out.trans (hb3.mono HB2.out.size)
    clear hb3
    go_wp2_with fail
    go_ret
    exact ⟨rfl, hfin⟩
  · have hwn : decide (n ≤ 8) = false := decide_eq_false hn8
    rw [hwn] at HW1
    clear hlong hn8 hwn
    go_wp2_with fail
    refine (HW1.out w1).mono ?_
    rintro e w2 ⟨rfl, hb2⟩
    have hfin := HB1.out.trans (hb2.mono HB1.out.size)
    clear hb2
    go_wp2_with fail
    go_ret
    exact ⟨rfl, hfin⟩
end Go.Proofs.YtnbjcdmiehnceaaDoor
