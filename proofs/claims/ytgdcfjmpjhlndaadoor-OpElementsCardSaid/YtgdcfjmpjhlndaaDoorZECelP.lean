/-
  A copy of a tensor in blocks of its own. By an AI agent. No person has read it.
-/
import Derived.Test.YtgdcfjmpjhlndaaDoorZEElmN
namespace Go.Proofs.YtgdcfjmpjhlndaaDoor
open Go.RowKit
theorem ten_of2 {B : Nat} {w W : World} {x1 x2 x3 : Value} (hT : Has W B 26 [x1, x2, x3]) (hb : Below w.heap.size w W) : TenS B w x1 x2 x3 W :=
  ⟨by rw [hT.cell]; rfl, by rw [hT.cell]; rfl, by rw [hT.cell]; rfl, hide hb⟩
set_option maxRecDepth 100000 in
set_option maxHeartbeats 4000000 in
theorem rcopy_c (t : Ten) (w : World) (ht : t.In w) :
    Calls Tryd.prog 70 #[.agg (tcells t.P t.zs.length t.cap t.u t.D t.ds.length t.dcap)] w fun e w' => (∃ g c rest gd cd rd, e = .returned (.agg (tcells (some ⟨g, 0, none⟩) t.zs.length c t.u (some ⟨gd, 0, none⟩) t.ds.length cd)) ∧ Has w' g 3 (i64s t.zs ++ rest) ∧ Has w' gd 3 (i64s t.ds ++ rd) ∧ w.heap.size ≤ g ∧ w.heap.size ≤ gd ∧ g ≠ gd) ∧ Below w.heap.size w w' := by
  obtain ⟨hb1, hT, hZ⟩ := box_two w 26 26 [.slice t.P t.zs.length t.cap, .bool t.u, .slice t.D t.ds.length t.dcap] [.slice none 0 0, .bool false, .slice none 0 0]
  have HI := hide (fun W (hb : Below w.heap.size w W) => rdesc_c t.zs t.P t.cap t.u W (ht.shp.below hb) ht.ls)
  have HJ := hide (fun W (hb : Below w.heap.size w W) => refints_c t.ds t.D t.dcap W (ht.dat.below hb) ht.ld)
  obtain ⟨n, hn⟩ : ∃ n, Hid (t.zs.length = n) := ⟨_, hide rfl⟩
  obtain ⟨m, hm⟩ : ∃ m, Hid (t.ds.length = m) := ⟨_, hide rfl⟩
  rw [hn.out] at HI hb1 hT hZ ⊢
  rw [hm.out] at HJ hb1 hT hZ ⊢
  clear ht hn hm
  have HB1 := hide hb1
  have HT1 := hide hT
  have HZ1 := hide hZ
  have hS0 := ten_of2 hT hb1
  clear hb1 hT hZ
  go_enter Tryd.func70, Tryd.ntmps70
  go_wp2_with fail
  go_region_held3 (fun W => W.cell? ⟨w.heap.size, 0, none⟩ = some (.slice t.P n t.cap) ∧ W.cell? ⟨w.heap.size, 1, none⟩ = some (.bool t.u) ∧ W.cell? ⟨w.heap.size, 2, none⟩ = some (.slice t.D m t.dcap) ∧ Hid (Below w.heap.size w W))
    (first | exact hS0 | assumption | exact hS9.out | exact TenS.keep (by assumption) hb)
    (first
      | (go_at_call 78; refine (HI.out _ HB1.out).mono ?_; rintro e W2 ⟨⟨g, c, rest, rfl, hg, hC⟩, hb⟩; have hz2 := HZ1.out.below hb HZ1.out.lt; have ht2 := HT1.out.below hb HT1.out.lt; have hB2 := HB1.out.trans (hb.mono HB1.out.size); have hlt := HZ1.out.lt; have hgn : g ≠ w.heap.size + 1 := (by omega); have hsz := hb.size; have hgl := hC.lt; have hgw : w.heap.size ≤ g := (by omega))
      | (go_at_call 67; refine (HJ.out _ hB2).mono ?_; rintro e W3 ⟨⟨gd, cd, rd, rfl, hgd, hc1, hc2, hD⟩, hb⟩; have hz := hz2.below hb hz2.lt; have ht := ht2.below hb ht2.lt; have hC3 := hC.below hb hC.lt; have hB := hB2.trans (hb.mono hB2.size); have d0 : W3.cell? ⟨w.heap.size + 1, 0, none⟩ = some (.slice none 0 0) := (by rw [hz.cell]; rfl); have d1 : W3.cell? ⟨w.heap.size + 1, 1, none⟩ = some (.bool false) := (by rw [hz.cell]; rfl); have d2 : W3.cell? ⟨w.heap.size + 1, 2, none⟩ = some (.slice none 0 0) := (by rw [hz.cell]; rfl); have f0 := hz.frozen 0; have f1 := hz.frozen 1; have f2 := hz.frozen 2; have HO := hide (tstore (.slice (some ⟨g, 0, none⟩) n c) (.bool t.u) (.slice (some ⟨gd, 0, none⟩) m cd) hz ht hC3 hD hB hgn (by omega)); have hS9 := hide (ten_of2 HO.out.2.1 HO.out.2.2.2.2); have hgdw : w.heap.size ≤ gd := (by omega); have hne : g ≠ gd := (by omega)))
  go_wp2_with fail
  refine bodyPost_ret (results_cell_row rfl _ _ (w.heap.size + 1) 26 (tcells (some ⟨g, 0, none⟩) n c t.u (some ⟨gd, 0, none⟩) m cd) (0, 0) _ rfl HO.out.1 Tryd.underlying26 rfl (by kernel_rfl)) rfl ?_
  exact ⟨⟨g, c, rest, gd, cd, rd, rfl, HO.out.2.2.1, HO.out.2.2.2.1, hgw, hgdw, hne⟩, HO.out.2.2.2.2⟩
end Go.Proofs.YtgdcfjmpjhlndaaDoor
