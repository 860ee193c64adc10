/-
  lodgeref.Desc and lodgeref3.Zero, walked (ten M for a seat without package tens's other functions). By an AI agent. No person has read it.
-/
import Derived.Test.YtkehdgjdieemkaaDoorTenA
import Derived.Test.YtkehdgjdieemkaaDoorBasE
import Derived.Test.YtkehdgjdieemkaaDoorShpC
import Derived.Deep.RegionHeld3
namespace Go.Proofs.YtkehdgjdieemkaaDoor
open Go.RowKit

/-- What a desc stored into the call's own result leaves. -/
theorem dstore {w W : World} {g : Nat} {cs ts : List Value} {t : TypeId} {x y : Value} (v1 v2 : Value) (hz : Has W (w.heap.size + 1) 24 [x, y]) (hT : Has W w.heap.size t ts) (hC : Has W g 3 cs) (hB : Below w.heap.size w W) (hg : g ≠ w.heap.size + 1) :
    Has ((W.setCell ⟨w.heap.size + 1, 0, none⟩ v1).setCell ⟨w.heap.size + 1, 1, none⟩ v2) (w.heap.size + 1) 24 [v1, v2] ∧ Has ((W.setCell ⟨w.heap.size + 1, 0, none⟩ v1).setCell ⟨w.heap.size + 1, 1, none⟩ v2) w.heap.size t ts ∧
    Has ((W.setCell ⟨w.heap.size + 1, 0, none⟩ v1).setCell ⟨w.heap.size + 1, 1, none⟩ v2) g 3 cs ∧ Below w.heap.size w ((W.setCell ⟨w.heap.size + 1, 0, none⟩ v1).setCell ⟨w.heap.size + 1, 1, none⟩ v2) :=
  ⟨(hz.set_ 0 v1).set_ 1 v2, (hT.far (p := ⟨w.heap.size + 1, 0, none⟩) (by simp) v1).far (p := ⟨w.heap.size + 1, 1, none⟩) (by simp) v2,
    (hC.far (p := ⟨w.heap.size + 1, 0, none⟩) hg v1).far (p := ⟨w.heap.size + 1, 1, none⟩) hg v2, (hB.setCell (p := ⟨w.heap.size + 1, 0, none⟩) (Nat.le_succ _) v1).setCell (p := ⟨w.heap.size + 1, 1, none⟩) (Nat.le_succ _) v2⟩
/-- .. a tensor. -/
theorem tstore {w W : World} {g gd : Nat} {cs cd ts : List Value} {t : TypeId} {x y z : Value} (v1 v2 v3 : Value) (hz : Has W (w.heap.size + 1) 26 [x, y, z]) (hT : Has W w.heap.size t ts) (hC : Has W g 3 cs) (hD : Has W gd 3 cd) (hB : Below w.heap.size w W) (hg : g ≠ w.heap.size + 1) (hgd : gd ≠ w.heap.size + 1) :
    Has (((W.setCell ⟨w.heap.size + 1, 0, none⟩ v1).setCell ⟨w.heap.size + 1, 1, none⟩ v2).setCell ⟨w.heap.size + 1, 2, none⟩ v3) (w.heap.size + 1) 26 [v1, v2, v3] ∧ Has (((W.setCell ⟨w.heap.size + 1, 0, none⟩ v1).setCell ⟨w.heap.size + 1, 1, none⟩ v2).setCell ⟨w.heap.size + 1, 2, none⟩ v3) w.heap.size t ts ∧
    Has (((W.setCell ⟨w.heap.size + 1, 0, none⟩ v1).setCell ⟨w.heap.size + 1, 1, none⟩ v2).setCell ⟨w.heap.size + 1, 2, none⟩ v3) g 3 cs ∧ Has (((W.setCell ⟨w.heap.size + 1, 0, none⟩ v1).setCell ⟨w.heap.size + 1, 1, none⟩ v2).setCell ⟨w.heap.size + 1, 2, none⟩ v3) gd 3 cd ∧
    Below w.heap.size w (((W.setCell ⟨w.heap.size + 1, 0, none⟩ v1).setCell ⟨w.heap.size + 1, 1, none⟩ v2).setCell ⟨w.heap.size + 1, 2, none⟩ v3) :=
  ⟨((hz.set_ 0 v1).set_ 1 v2).set_ 2 v3, ((hT.far (p := ⟨w.heap.size + 1, 0, none⟩) (by simp) v1).far (p := ⟨w.heap.size + 1, 1, none⟩) (by simp) v2).far (p := ⟨w.heap.size + 1, 2, none⟩) (by simp) v3,
    ((hC.far (p := ⟨w.heap.size + 1, 0, none⟩) hg v1).far (p := ⟨w.heap.size + 1, 1, none⟩) hg v2).far (p := ⟨w.heap.size + 1, 2, none⟩) hg v3, ((hD.far (p := ⟨w.heap.size + 1, 0, none⟩) hgd v1).far (p := ⟨w.heap.size + 1, 1, none⟩) hgd v2).far (p := ⟨w.heap.size + 1, 2, none⟩) hgd v3,
    ((hB.setCell (p := ⟨w.heap.size + 1, 0, none⟩) (Nat.le_succ _) v1).setCell (p := ⟨w.heap.size + 1, 1, none⟩) (Nat.le_succ _) v2).setCell (p := ⟨w.heap.size + 1, 2, none⟩) (Nat.le_succ _) v3⟩
abbrev DesS (w : World) (x y : Value) (W : World) : Prop := W.cell? ⟨w.heap.size, 0, none⟩ = some x ∧ W.cell? ⟨w.heap.size, 1, none⟩ = some y ∧ Hid (Below w.heap.size w W)
theorem DesS.keep {w : World} {x y : Value} {W W' : World} (h : DesS w x y W) (hb : Below W.heap.size W W') : DesS w x y W' :=
  ⟨ten_kept h.1 hb, ten_kept h.2.1 hb, hide (h.2.2.out.trans (hb.mono h.2.2.out.size))⟩
theorem DesS.of {w W : World} {x y : Value} {t : TypeId} (h : Has W w.heap.size t [x, y]) (hb : Below w.heap.size w W) : DesS w x y W :=
  ⟨by rw [h.cell]; rfl, by rw [h.cell]; rfl, hide hb⟩
/-- A box, and the call's own result, behind the draw. -/
theorem box_two (w : World) (t t2 : TypeId) (xs ys : List Value) : Below w.heap.size w ((w.alloc (Obj.cells xs.toArray t)).alloc (Obj.cells ys.toArray t2)).drew ∧ Has ((w.alloc (Obj.cells xs.toArray t)).alloc (Obj.cells ys.toArray t2)).drew w.heap.size t xs ∧
    Has ((w.alloc (Obj.cells xs.toArray t)).alloc (Obj.cells ys.toArray t2)).drew (w.heap.size + 1) t2 ys := by
  refine ⟨(((Below.refl _ w).alloc (Nat.le_refl _) _).alloc (by simp) _).drew, ((Has.new w _ _).alloc _).drewN 1, ?_⟩
  have h := Has.new (w.alloc (Obj.cells xs.toArray t)) t2 ys
  have h2 : Has ((w.alloc (Obj.cells xs.toArray t)).alloc (Obj.cells ys.toArray t2)) (w.heap.size + 1) t2 ys := by simpa using h
  exact h2.drewN 1

set_option maxRecDepth 100000 in
set_option maxHeartbeats 4000000 in
theorem rdesc_c (zs : List Int) (P : Option Addr) (cap : Nat) (u : Bool) (w : World) (hr : Ri w P zs) (hl : zs.length ≤ 1000000) :
    Calls Tryd.prog 78 #[.agg (dcells P zs.length cap u)] w fun e w' => (∃ g c rest, e = .returned (.agg (dcells (some ⟨g, 0, none⟩) zs.length c u)) ∧ w.heap.size ≤ g ∧ Has w' g 3 (i64s zs ++ rest)) ∧ Below w.heap.size w w' := by
  obtain ⟨hb1, hT, hZ⟩ := box_two w 24 24 [.slice P zs.length cap, .bool u] [.slice none 0 0, .bool false]
  have HI := hide (fun W (hb : Below w.heap.size w W) => refints_c zs P cap W (hr.below hb) hl)
  obtain ⟨n, hn⟩ : ∃ n, Hid (zs.length = n) := ⟨_, hide rfl⟩
  rw [hn.out] at HI hb1 hT hZ ⊢
  clear hr hl hn
  have HB1 := hide hb1
  have HT1 := hide hT
  have HZ1 := hide hZ
  have hS0 := DesS.of hT hb1
  clear hb1 hT hZ
  go_enter Tryd.func78, Tryd.ntmps78
  go_wp2_with fail
  go_region_held3 (fun W => W.cell? ⟨w.heap.size, 0, none⟩ = some (.slice P n cap) ∧ W.cell? ⟨w.heap.size, 1, none⟩ = some (.bool u) ∧ Hid (Below w.heap.size w W))
    (first | exact hS0 | assumption | exact hS9.out | exact DesS.keep (by assumption) hb)
    (first
      | (go_at_call 28; refine (HI.out _ HB1.out).mono ?_; rintro e W2 ⟨⟨g, c, rest, rfl, hg, hc1, hc2, hC⟩, hb⟩; have hz := HZ1.out.below hb HZ1.out.lt; have ht := HT1.out.below hb HT1.out.lt; have hB := HB1.out.trans (hb.mono HB1.out.size); have hlt := HZ1.out.lt; have d0 : W2.cell? ⟨w.heap.size + 1, 0, none⟩ = some (.slice none 0 0) := (by rw [hz.cell]; rfl); have d1 : W2.cell? ⟨w.heap.size + 1, 1, none⟩ = some (.bool false) := (by rw [hz.cell]; rfl); have f0 := hz.frozen 0; have f1 := hz.frozen 1; have HO := hide (dstore (.slice (some ⟨g, 0, none⟩) n c) (.bool u) hz ht hC hB (by omega)); have hS9 := hide (DesS.of HO.out.2.1 HO.out.2.2.2); have hg' : w.heap.size ≤ g := (by have := HB1.out.size; omega)))
  go_wp2_with fail
  refine bodyPost_ret (results_cell_row rfl _ _ (w.heap.size + 1) 24 (dcells (some ⟨g, 0, none⟩) n c u) (0, 0) _ rfl HO.out.1 Tryd.underlying24 rfl (by kernel_rfl)) rfl ?_
  exact ⟨⟨g, c, rest, rfl, hg', HO.out.2.2.1⟩, HO.out.2.2.2⟩
set_option maxRecDepth 100000 in
set_option maxHeartbeats 4000000 in
theorem rzero_c (zs : List Int) (P : Option Addr) (cap : Nat) (u : Bool) (w : World) (hr : Ri w P zs) (hl : zs.length ≤ 1000000) :
    Calls Tryd.prog 46 #[.agg (dcells P zs.length cap u)] w fun e w' => (∃ g c rest gd, e = .returned (.agg (tcells (some ⟨g, 0, none⟩) zs.length c u (some ⟨gd, 0, none⟩) (Shp.elems zs).toNat (Shp.elems zs).toNat)) ∧ Has w' g 3 (i64s zs ++ rest) ∧ Has w' gd 3 (i64s (List.replicate (Shp.elems zs).toNat 0)) ∧ w.heap.size ≤ g ∧ w.heap.size ≤ gd ∧ g ≠ gd) ∧ Below w.heap.size w w' := by
  obtain ⟨hb1, hT, hZ⟩ := box_two w 24 26 [.slice P zs.length cap, .bool u] [.slice none 0 0, .bool false, .slice none 0 0]
  have HI := hide (fun W (hb : Below w.heap.size w W) => rdesc_c zs P cap u W (hr.below hb) hl)
  have HJ := hide (fun W (hb : Below w.heap.size w W) => refelems_c zs P cap W (hr.below hb) (by omega))
  have hEb := Shp.elems_le zs
  obtain ⟨m, hm⟩ : ∃ m : Nat, Hid (Shp.elems zs = (m : Int)) := ⟨(Shp.elems zs).toNat, hide (by omega)⟩
  have hm16 : m ≤ 16384 := by have := hm.out; omega
  obtain ⟨Y, hY, hmk⟩ := made_ints m (by omega)
  obtain ⟨n, hn⟩ : ∃ n, Hid (zs.length = n) := ⟨_, hide rfl⟩
  rw [hm.out, Int.toNat_natCast]
  rw [hm.out] at HJ
  rw [hn.out] at HI HJ hb1 hT hZ ⊢
  clear hr hl hn hm hEb
  have HB1 := hide hb1
  have HT1 := hide hT
  have HZ1 := hide hZ
  have hS0 := DesS.of hT hb1
  clear hb1 hT hZ
  go_enter Tryd.func46, Tryd.ntmps46
  go_wp2_with fail
  go_region_held3 (fun W => W.cell? ⟨w.heap.size, 0, none⟩ = some (.slice P n cap) ∧ W.cell? ⟨w.heap.size, 1, none⟩ = some (.bool u) ∧ Hid (Below w.heap.size w W))
    (first | exact hS0 | assumption | exact hS9.out | exact hS8.out | exact DesS.keep (by assumption) hb)
    (first
      | (go_at_call 78; refine (HI.out _ HB1.out).mono ?_; rintro e W2 ⟨⟨g, c, rest, rfl, hg, hC⟩, hb⟩; have hz2 := HZ1.out.below hb HZ1.out.lt; have ht2 := HT1.out.below hb HT1.out.lt; have hB2 := HB1.out.trans (hb.mono HB1.out.size); have hlt := HZ1.out.lt; have hgn : g ≠ w.heap.size + 1 := (by omega); have hsz := hb.size)
      | (go_at_call 59; refine (HJ.out _ hB2).mono ?_; rintro e W3 ⟨rfl, hb⟩; have hz := (hz2.below hb hz2.lt).alloc (Obj.cells Y 3); have ht := (ht2.below hb ht2.lt).alloc (Obj.cells Y 3); have hC3 := (hC.below hb hC.lt).alloc (Obj.cells Y 3); have hBq := hB2.trans (hb.mono hB2.size); have hB := hBq.alloc hBq.size (Obj.cells Y 3); have hsz2 := hb.size; have hD : Has (W3.alloc (Obj.cells Y 3)) W3.heap.size 3 (i64s (List.replicate m 0)) := (by rw [hY.out]; exact Has.new W3 _ _); have d0 : (W3.alloc (Obj.cells Y 3)).cell? ⟨w.heap.size + 1, 0, none⟩ = some (.slice none 0 0) := (by rw [hz.cell]; rfl); have d1 : (W3.alloc (Obj.cells Y 3)).cell? ⟨w.heap.size + 1, 1, none⟩ = some (.bool false) := (by rw [hz.cell]; rfl); have d2 : (W3.alloc (Obj.cells Y 3)).cell? ⟨w.heap.size + 1, 2, none⟩ = some (.slice none 0 0) := (by rw [hz.cell]; rfl); have f0 := hz.frozen 0; have f1 := hz.frozen 1; have f2 := hz.frozen 2; have HO := hide (tstore (.slice (some ⟨g, 0, none⟩) n c) (.bool u) (.slice (some ⟨W3.heap.size, 0, none⟩) m m) hz ht hC3 hD hB hgn (by omega)); have hS8 := hide (DesS.of ht hB); have hS9 := hide (DesS.of HO.out.2.1 HO.out.2.2.2.2)))
  go_wp2_with fail
  refine bodyPost_ret (results_cell_row rfl _ _ (w.heap.size + 1) 26 (tcells (some ⟨g, 0, none⟩) n c u (some ⟨W3.heap.size, 0, none⟩) m m) (0, 0) _ rfl HO.out.1 Tryd.underlying26 rfl (by kernel_rfl)) rfl ?_
  have hz1 := HB1.out.size
  have hz3 := hBq.size
  have hgl := hC.lt
  exact ⟨⟨g, c, rest, W3.heap.size, rfl, HO.out.2.2.1, HO.out.2.2.2.1, by omega, hz3, by omega⟩, HO.out.2.2.2.2⟩
end Go.Proofs.YtkehdgjdieemkaaDoor
