/-
  Package tens's Zero, walked. By an AI agent. No person has read it.
-/
import Derived.Test.YtnbjcdmiehnceaaDoorTenM
import Derived.Test.YtnbjcdmiehnceaaDoorTenC
import Derived.Deep.RegionHeld3
namespace Go.Proofs.YtnbjcdmiehnceaaDoor
open Go.RowKit

set_option maxRecDepth 100000 in
set_option maxHeartbeats 4000000 in
theorem tzero_c (zs : List Int) (P : Option Addr) (cap : Nat) (u : Bool) (am ar : Addr) (w : World) (hr : Ri w P zs) (hl : zs.length ≤ 1000000) (hE : E2 w am ar) :
    Calls Tryd.prog 47 #[.agg (dcells P zs.length cap u)] w fun e w' =>
      (Shp.code zs = 0 → ∃ g c rest gd, e = .returned (.tuple #[.agg (tcells (some ⟨g, 0, none⟩) zs.length c u (some ⟨gd, 0, none⟩) (Shp.elems zs).toNat (Shp.elems zs).toNat), .nilIface]) ∧ Has w' g 3 (i64s zs ++ rest) ∧ Has w' gd 3 (i64s (List.replicate (Shp.elems zs).toNat 0))) ∧
      (Shp.code zs ≠ 0 → e = .returned (.tuple #[.agg (tcells none 0 0 false none 0 0), Shp.err am ar (Shp.code zs)])) ∧ Below w.heap.size w w' := by
  obtain ⟨hb1, hT, hZ⟩ : Below w.heap.size w ((w.alloc (Obj.cells (dcells P zs.length cap u) 24)).alloc (Obj.cells #[.slice none 0 0, .bool false, .slice none 0 0] 53)) ∧ Has ((w.alloc (Obj.cells (dcells P zs.length cap u) 24)).alloc (Obj.cells #[.slice none 0 0, .bool false, .slice none 0 0] 53)) w.heap.size 24 [.slice P zs.length cap, .bool u] ∧
      Has ((w.alloc (Obj.cells (dcells P zs.length cap u) 24)).alloc (Obj.cells #[.slice none 0 0, .bool false, .slice none 0 0] 53)) (w.heap.size + 1) 53 [.slice none 0 0, .bool false, .slice none 0 0] := by
    refine ⟨((Below.refl _ w).alloc (Nat.le_refl _) _).alloc (by simp) _, (desc_row w P zs.length cap u).alloc _, ?_⟩
    have h := Has.new (w.alloc (Obj.cells (dcells P zs.length cap u) 24)) 53 [.slice none 0 0, .bool false, .slice none 0 0]
    simpa using h
  have HV := hide (valid_c zs P cap u am ar _ (hr.below hb1) (by omega) (hE.below hb1))
  have HI := hide (fun W (hb : Below w.heap.size w W) => clone_own zs P cap u W (hr.below hb) hl)
  have HJ := hide (fun W (hb : Below w.heap.size w W) => elems_c zs P cap am ar W (hr.below hb) (by omega) (hE.below hb))
  have hEb := Shp.elems_le zs
  obtain ⟨m, hm⟩ : ∃ m : Nat, Hid (Shp.elems zs = (m : Int)) := ⟨(Shp.elems zs).toNat, hide (by omega)⟩
  have hm16 : m ≤ 16384 := by have := hm.out; omega
  obtain ⟨Y, hY, hmk⟩ := made_ints m (by omega)
  obtain ⟨n, hn⟩ : ∃ n, Hid (zs.length = n) := ⟨_, hide rfl⟩
  have hk := Shp.code_is zs
  obtain ⟨k, hkk⟩ : ∃ k, Hid (Shp.code zs = k) := ⟨_, hide rfl⟩
  rw [hkk.out] at HV hk ⊢
  rw [hm.out, Int.toNat_natCast]
  rw [hm.out] at HJ
  rw [hn.out] at HV HI HJ hb1 hT hZ ⊢
  clear hr hl hn hm hEb hkk hE
  have HB1 := hide hb1
  have HT1 := hide hT
  have HZ1 := hide hZ
  clear hb1 hT hZ
  go_enter Tryd.func47, Tryd.ntmps47
  go_wp2_with fail
  refine HV.out.mono ?_
  rintro e w1 ⟨rfl, hb⟩
  have hB1 := HB1.out.trans (hb.mono HB1.out.size)
  have hz := HZ1.out.below hb HZ1.out.lt
  have hT := HT1.out.below hb HT1.out.lt
  clear hb HB1 HZ1 HT1 HV
  by_cases hk0 : k = 0
  · subst hk0
    rw [show Shp.err am ar 0 = .nilIface from rfl]
    have hS0 := DesS.of (hT.drewN 1) hB1.drew
    have HB2 : Hid (Below w.heap.size w w1.drew) := hide hB1.drew
    have HT2 : Hid (Has w1.drew w.heap.size 24 [.slice P n cap, .bool u]) := hide (hT.drewN 1)
    have HZ2 : Hid (Has w1.drew (w.heap.size + 1) 53 [.slice none 0 0, .bool false, .slice none 0 0]) := hide (hz.drewN 1)
    clear hB1 hz hT hk
    go_wp2_with fail
    go_region_held3 (fun W => W.cell? ⟨w.heap.size, 0, none⟩ = some (.slice P n cap) ∧ W.cell? ⟨w.heap.size, 1, none⟩ = some (.bool u) ∧ Hid (Below w.heap.size w W))
      (first | exact hS0 | assumption | exact hS9.out | exact hS8.out | exact DesS.keep (by assumption) hb)
      (first
        | (go_at_call 16; refine (HI.out _ HB2.out).mono ?_; rintro e W2 ⟨⟨g, c, rest, rfl, hg, hc1, hc2, hC, hcl⟩, hb⟩; have hz2 := HZ2.out.below hb HZ2.out.lt; have ht2 := HT2.out.below hb HT2.out.lt; have hB2 := HB2.out.trans (hb.mono HB2.out.size); have hlt := HZ2.out.lt; have hgn : g ≠ w.heap.size + 1 := (by omega); have hsz := hb.size)
        | (go_at_call 20; refine (HJ.out _ hB2).mono ?_; rintro e W3 ⟨rfl, hb⟩; have hz := (hz2.below hb hz2.lt).alloc (Obj.cells Y 3); have ht := (ht2.below hb ht2.lt).alloc (Obj.cells Y 3); have hC3 := (hC.below hb hC.lt).alloc (Obj.cells Y 3); have hBq := hB2.trans (hb.mono hB2.size); have hB := hBq.alloc hBq.size (Obj.cells Y 3); have hsz2 := hb.size; have hD : Has (W3.alloc (Obj.cells Y 3)) W3.heap.size 3 (i64s (List.replicate m 0)) := (by rw [hY.out]; exact Has.new W3 _ _); have d0 : (W3.alloc (Obj.cells Y 3)).cell? ⟨w.heap.size + 1, 0, none⟩ = some (.slice none 0 0) := (by rw [hz.cell]; rfl); have d1 : (W3.alloc (Obj.cells Y 3)).cell? ⟨w.heap.size + 1, 1, none⟩ = some (.bool false) := (by rw [hz.cell]; rfl); have d2 : (W3.alloc (Obj.cells Y 3)).cell? ⟨w.heap.size + 1, 2, none⟩ = some (.slice none 0 0) := (by rw [hz.cell]; rfl); have f0 := hz.frozen 0; have f1 := hz.frozen 1; have f2 := hz.frozen 2; have HO := hide (tstore (.slice (some ⟨g, 0, none⟩) n c) (.bool u) (.slice (some ⟨W3.heap.size, 0, none⟩) m m) hz ht hC3 hD hB hgn (by omega)); have hS8 := hide (DesS.of ht hB); have hS9 := hide (DesS.of HO.out.2.1 HO.out.2.2.2.2)))
    go_wp2_with fail
    refine bodyPost_ret (results_tens rfl _ _ (w.heap.size + 1) _ _ _ rfl HO.out.1) rfl ?_
    exact ⟨⟨g, c, rest, W3.heap.size, rfl, HO.out.2.2.1, by simpa [i64s] using HO.out.2.2.2.1⟩, HO.out.2.2.2.2⟩
  · have d0 : w1.cell? ⟨w.heap.size + 1, 0, none⟩ = some (.slice none 0 0) := by rw [hz.cell]; rfl
    have d1 : w1.cell? ⟨w.heap.size + 1, 1, none⟩ = some (.bool false) := by rw [hz.cell]; rfl
    have d2 : w1.cell? ⟨w.heap.size + 1, 2, none⟩ = some (.slice none 0 0) := by rw [hz.cell]; rfl
    have f0 := hz.frozen 0
    have f1 := hz.frozen 1
    have f2 := hz.frozen 2
    have hz' := ((hz.set_ 0 (.slice none 0 0)).set_ 1 (.bool false)).set_ 2 (.slice none 0 0)
    have hfin' := ((hB1.setCell (p := ⟨w.heap.size + 1, 0, none⟩) (Nat.le_succ _) (.slice none 0 0)).setCell (p := ⟨w.heap.size + 1, 1, none⟩) (Nat.le_succ _) (.bool false)).setCell (p := ⟨w.heap.size + 1, 2, none⟩) (Nat.le_succ _) (.slice none 0 0)
    have HZ' := hide hz'
    have HF' := hide hfin'
    clear hz hT hB1 hz' hfin' HI HJ
    rcases hk with rfl | rfl | rfl
    · rw [show Shp.err am ar 104 = errv am from rfl]
      go_wp2_with fail
      refine bodyPost_ret (results_tens rfl _ _ (w.heap.size + 1) _ _ _ rfl HZ'.out) rfl ?_
      exact ⟨fun h => absurd h hk0, fun _ => rfl, HF'.out⟩
    · rw [show Shp.err am ar 102 = errv ar from rfl]
      go_wp2_with fail
      refine bodyPost_ret (results_tens rfl _ _ (w.heap.size + 1) _ _ _ rfl HZ'.out) rfl ?_
      exact ⟨fun h => absurd h hk0, fun _ => rfl, HF'.out⟩
    · exact absurd rfl hk0
end Go.Proofs.YtnbjcdmiehnceaaDoor
