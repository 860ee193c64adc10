/-
  The law TensBack, of any tensor. By an AI agent. No person has read it.
-/
import Derived.Test.YtnbjcdmiehnceaaDoorTenBackA
namespace Go.Proofs.YtnbjcdmiehnceaaDoor
open Go.RowKit

set_option maxRecDepth 100000 in
set_option maxHeartbeats 4000000 in
theorem tback_long (P D Q : Option Addr) (n cap m dcap l capq : Nat) (u : Bool) (q : Int) (ah am ar : Addr) (w : World) (hlong : ¬ (n ≤ 8 ∧ m ≤ 300 ∧ l ≤ 50)) (hE : E3 w ah am ar) :
    Calls Tryd.prog 10 #[.agg (tcells P n cap u D m dcap), .slice Q l capq, .int .i64 q] w fun e w' => e = .returned (.bool true) ∧ Below w.heap.size w w' := by
  have hb0 := (Below.refl _ w).alloc (Nat.le_refl _) (Obj.cells (tcells P n cap u D m dcap) 53)
  have HF := hide (first6_c ah am ar _ (hE.below hb0))
  have HT0 := hide (tens_row w P n cap u D m dcap)
  have HB0 := hide hb0
  have HWT := hide (fun W => worldtensor_c P D n cap m dcap u W)
  clear hb0 hE
  go_enter Tryd.func10, Tryd.ntmps10
  go_wp2_with fail
  refine HF.out.mono ?_
  rintro e w1 ⟨rfl, hb⟩
  have hT := HT0.out.below hb HT0.out.lt
  have hB := HB0.out.trans (hb.mono HB0.out.size)
  have c0 : w1.cell? ⟨w.heap.size, 0, none⟩ = some (.slice P n cap) := by rw [hT.cell]; rfl
  have c1 : w1.cell? ⟨w.heap.size, 1, none⟩ = some (.bool u) := by rw [hT.cell]; rfl
  have c2 : w1.cell? ⟨w.heap.size, 2, none⟩ = some (.slice D m dcap) := by rw [hT.cell]; rfl
  have HB := hide hB
  clear hb hT hB HT0 HB0 HF
  by_cases hnm : n ≤ 8 ∧ m ≤ 300
  · have hl : (50 : Int) < l := by omega
    have e2 : (decide (n ≤ 8) && decide (m ≤ 300)) = true := by simp [hnm]
    rw [e2] at HWT
    clear e2 hlong hnm
    go_wp2_with fail
    refine (HWT.out w1).mono ?_
    rintro e w2 ⟨rfl, hb⟩
    have HFin := hide (HB.out.trans (hb.mono HB.out.size))
    clear hb HB
    go_wp2_with fail
    go_ret
    exact ⟨rfl, HFin.out⟩
  · have e2 : (decide (n ≤ 8) && decide (m ≤ 300)) = false := by
      rw [← Bool.decide_and]
      exact decide_eq_false hnm
    rw [e2] at HWT
    clear e2 hlong hnm
    go_wp2_with fail
    refine (HWT.out w1).mono ?_
    rintro e w2 ⟨rfl, hb⟩
    have HFin := hide (HB.out.trans (hb.mono HB.out.size))
    clear hb HB
    go_wp2_with fail
    go_ret
    exact ⟨rfl, HFin.out⟩
set_option maxRecDepth 100000 in
set_option maxHeartbeats 4000000 in
theorem tback_B (ah am ar : Addr) (zs ds : List Int) (P D Q : Option Addr) (cap dcap l capq : Nat) (u : Bool) (q : Int) (w : World) (hr : Ri w P zs) (hd : Ri w D ds) (hm : zs.length ≤ 8) (hdm : ds.length ≤ 300) (hym : l ≤ 50) (hE : E3 w ah am ar) (hA : Tens.fault zs u ds ≠ (0, none)) :
    Calls Tryd.prog 10 #[.agg (tcells P zs.length cap u D ds.length dcap), .slice Q l capq, .int .i64 q] w fun e w' => e = .returned (.bool true) ∧ Below w.heap.size w w' := by
  have hb0 := (Below.refl _ w).alloc (Nat.le_refl _) (Obj.cells (tcells P zs.length cap u D ds.length dcap) 53)
  have HF := hide (first6_c ah am ar _ (hE.below hb0))
  have hT := tens_row w P zs.length cap u D ds.length dcap
  have hB := hb0
  have hE0 := hE
  have HWT := hide (fun W => worldtensor_c P D zs.length cap ds.length dcap u W)
  have e2 : (decide (zs.length ≤ 8) && decide (ds.length ≤ 300)) = true := by simp [hm, hdm]
  rw [e2] at HWT
  have hby : Tens.bytes zs u ds = [] := by unfold Tens.bytes; rw [if_neg hA]
  have hra : Tens.raw zs u ds = [] := by unfold Tens.raw; rw [if_neg hA]
  have HBt : Hid (∀ W, Below w.heap.size w W → Calls Tryd.prog 61 #[.agg (tcells P zs.length cap u D ds.length dcap)] W fun e w' => (∃ A c, e = .returned (.slice A 0 c)) ∧ Below W.heap.size W w') := hide fun W hb => by
    refine (tbytes_c zs ds P D cap dcap u ah am ar W (hr.below hb) (hd.below hb) (by omega) (by omega) (hE0.below hb)).mono ?_
    rintro e w' ⟨⟨v, rfl, ho⟩, hb2⟩
    rw [hby] at ho
    obtain ⟨A, c, rfl, -, -⟩ := own_rbs ho (by simp)
    exact ⟨⟨A, c, rfl⟩, hb2⟩
  have HRaw : Hid (∀ W, Below w.heap.size w W → Calls Tryd.prog 60 #[.agg (tcells P zs.length cap u D ds.length dcap)] W fun e w' => (∃ A c, e = .returned (.slice A 0 c)) ∧ Below W.heap.size W w') := hide fun W hb => by
    refine (traw_c zs ds P D cap dcap u ah am ar W (hr.below hb) (hd.below hb) (by omega) (by omega) (hE0.below hb)).mono ?_
    rintro e w' ⟨⟨v, rfl, ho⟩, hb2⟩
    rw [hra] at ho
    obtain ⟨A, c, rfl, -, -⟩ := own_rbs ho (by simp)
    exact ⟨⟨A, c, rfl⟩, hb2⟩
  have HVal : Hid (∀ W, Below w.heap.size w W → Calls Tryd.prog 44 #[.agg (tcells P zs.length cap u D ds.length dcap)] W fun e w' => (∃ v, e = .returned v ∧ ((∃ a, v = errv a) ∨ ∃ g, v = .iface 99 (.pointer (some ⟨g, 0, none⟩)))) ∧ Below W.heap.size W w') := hide fun W hb => by
    refine (tvalid_c zs ds P D cap dcap u ah am ar W (hr.below hb) (hd.below hb) (by omega) (by omega) (hE0.below hb)).mono ?_
    rintro e w' ⟨⟨v, rfl, hv⟩, hb2⟩
    rcases hv.cases (Tens.fault_cases zs u ds) with ⟨h, -⟩ | ⟨-, h | ⟨g, i, h, -⟩⟩
    · exact absurd h hA
    · exact ⟨⟨v, rfl, .inl h⟩, hb2⟩
    · exact ⟨⟨v, rfl, .inr ⟨g, h⟩⟩, hb2⟩
  clear hb0 hE e2 hby hra hr hd hE0 hA
  obtain ⟨n, hn⟩ : ∃ n, Hid (zs.length = n) := ⟨_, hide rfl⟩
  obtain ⟨m, hm'⟩ : ∃ m, Hid (ds.length = m) := ⟨_, hide rfl⟩
  rw [hn.out] at HWT HBt HVal HRaw hm
  rw [hm'.out] at HWT HBt HVal HRaw hdm
  rw [hn.out, hm'.out] at hB
  rw [hn.out, hm'.out] at hT
  rw [hn.out, hm'.out] at HF
  rw [hn.out, hm'.out]
  have hl8 : (l : Int) ≤ 50 := by omega
  obtain ⟨w0, hw0⟩ : ∃ w0, Hid (w.alloc (Obj.cells (tcells P n cap u D m dcap) 53) = w0) := ⟨_, hide rfl⟩
  rw [hw0.out] at hB hT HF
  go_enter Tryd.func10, Tryd.ntmps10
  go_wp2_with fail
  have hw0' := hw0.out
  rw [hw0']
  clear hw0 hw0'
  refine HF.out.mono ?_
  rintro e w1 ⟨rfl, hb⟩
  replace hT := hT.below hb hT.lt
  replace hB := hB.trans (hb.mono hB.size)
  clear hb HF
  have c0 : w1.cell? ⟨w.heap.size, 0, none⟩ = some (.slice P n cap) := by rw [hT.cell]; rfl
  have c1 : w1.cell? ⟨w.heap.size, 1, none⟩ = some (.bool u) := by rw [hT.cell]; rfl
  have c2 : w1.cell? ⟨w.heap.size, 2, none⟩ = some (.slice D m dcap) := by rw [hT.cell]; rfl
  go_wp2_with fail
  refine (HWT.out w1).mono ?_
  rintro e w2 ⟨rfl, hb⟩
  replace hT := hT.below hb hT.lt
  replace hB := hB.trans (hb.mono hB.size)
  clear hb HWT c0 c1 c2
  have c0 : w2.cell? ⟨w.heap.size, 0, none⟩ = some (.slice P n cap) := by rw [hT.cell]; rfl
  have c1 : w2.cell? ⟨w.heap.size, 1, none⟩ = some (.bool u) := by rw [hT.cell]; rfl
  have c2 : w2.cell? ⟨w.heap.size, 2, none⟩ = some (.slice D m dcap) := by rw [hT.cell]; rfl
  go_wp2_with fail
  refine (HBt.out w2 hB).mono ?_
  rintro e w3 ⟨⟨A, cb, rfl⟩, hb⟩
  replace hT := hT.below hb hT.lt
  replace hB := hB.trans (hb.mono hB.size)
  clear hb HBt c0 c1 c2
  have c0 : w3.cell? ⟨w.heap.size, 0, none⟩ = some (.slice P n cap) := by rw [hT.cell]; rfl
  have c1 : w3.cell? ⟨w.heap.size, 1, none⟩ = some (.bool u) := by rw [hT.cell]; rfl
  have c2 : w3.cell? ⟨w.heap.size, 2, none⟩ = some (.slice D m dcap) := by rw [hT.cell]; rfl
  go_wp2_with fail
  refine (HVal.out w3 hB).mono ?_
  rintro e w4 ⟨⟨v, rfl, hv⟩, hb⟩
  replace hT := hT.below hb hT.lt
  replace hB := hB.trans (hb.mono hB.size)
  clear hb HVal c0 c1 c2
  have c0 : w4.cell? ⟨w.heap.size, 0, none⟩ = some (.slice P n cap) := by rw [hT.cell]; rfl
  have c1 : w4.cell? ⟨w.heap.size, 1, none⟩ = some (.bool u) := by rw [hT.cell]; rfl
  have c2 : w4.cell? ⟨w.heap.size, 2, none⟩ = some (.slice D m dcap) := by rw [hT.cell]; rfl
  rcases hv with ⟨a, rfl⟩ | ⟨g, rfl⟩
  · go_wp2_with fail
    refine (HRaw.out w4 hB).mono ?_
    rintro e w5 ⟨⟨A5, c5, rfl⟩, hb⟩
    have HFin := hide (hB.trans (hb.mono hB.size))
    clear hb hB hT c0 c1 c2 HRaw
    go_wp2_with fail
    go_ret
    exact ⟨rfl, HFin.out⟩
  · go_wp2_with fail
    refine (HRaw.out w4 hB).mono ?_
    rintro e w5 ⟨⟨A5, c5, rfl⟩, hb⟩
    have HFin := hide (hB.trans (hb.mono hB.size))
    clear hb hB hT c0 c1 c2 HRaw
    go_wp2_with fail
    go_ret
    exact ⟨rfl, HFin.out⟩
theorem tback_any (es : List Addr) (zs ds : List Int) (beh : List Nat) (P D Q : Option Addr) (cap dcap capq : Nat) (u : Bool) (q : Int) (w : World) (hr : Ri w P zs) (hd : Ri w D ds) (hq : Rb w Q beh) (hZ : Ez w es) :
    Calls Tryd.prog 10 #[.agg (tcells P zs.length cap u D ds.length dcap), .slice Q beh.length capq, .int .i64 q] w fun e w' => e = .returned (.bool true) ∧ Below w.heap.size w w' := by
  obtain ⟨ah, am, ar, ae, ak, hes⟩ := terrs_of hZ
  by_cases h : zs.length ≤ 8 ∧ ds.length ≤ 300 ∧ beh.length ≤ 50
  · by_cases hA : Tens.fault zs u ds = (0, none)
    · exact tback_A es ah am ar ae ak hes zs ds beh P D Q cap dcap capq u q w hr hd hq h.1 h.2.1 h.2.2 hZ hA
    · exact tback_B ah am ar zs ds P D Q cap dcap _ capq u q w hr hd h.1 h.2.1 h.2.2 (hes.e3 hZ) hA
  · exact tback_long P D Q _ cap _ dcap _ capq u q ah am ar w h (hes.e3 hZ)
end Go.Proofs.YtnbjcdmiehnceaaDoor
