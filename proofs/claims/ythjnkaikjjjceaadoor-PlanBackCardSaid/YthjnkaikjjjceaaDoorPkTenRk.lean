/-
  lodgeref3.Zero, walked, with where its numbers lie. lodgeref3.OfRaw, walked. By an AI agent. No person has read it.
-/
import Derived.Test.YthjnkaikjjjceaaDoorPkTenJ
import Derived.Test.YthjnkaikjjjceaaDoorPkErrD
import Derived.Test.YthjnkaikjjjceaaDoorPkElmV
import Derived.Test.YthjnkaikjjjceaaDoorPkTenF
import Derived.Test.YthjnkaikjjjceaaDoorPkBasA
import Derived.Test.YthjnkaikjjjceaaDoorPkShpC
import Derived.Test.YthjnkaikjjjceaaDoorPkTenA
import Derived.Deep.RegionHeld3
import Derived.Laws.BitsAllLaws
namespace Go.Proofs.YthjnkaikjjjceaaDoor
open Go.RowKit
/-- The blocks that a call has laid, while it fills in its numbers. -/
structure OfI (w : World) (V g gd : Nat) (tv dv rv xs ys : List Value) (W : World) : Prop where
  low : Below w.heap.size w W
  vec : Has W V 70 tv
  des : Has W w.heap.size 59 dv
  res : Has W (w.heap.size + 1) 70 rv
  shp : Has W g 3 xs
  dat : Has W gd 3 ys
  gdl : w.heap.size ≤ gd
  ne : g ≠ gd
  nv : w.heap.size + 1 ≠ V
theorem OfI.below {w W W' : World} {V g gd : Nat} {tv dv rv xs ys : List Value} (h : OfI w V g gd tv dv rv xs ys W) (hb : Below W.heap.size W W') : OfI w V g gd tv dv rv xs ys W' :=
  ⟨h.low.trans (hb.mono h.low.size), h.vec.below hb h.vec.lt, h.des.below hb h.des.lt, h.res.below hb h.res.lt, h.shp.below hb h.shp.lt, h.dat.below hb h.dat.lt, h.gdl, h.ne, h.nv⟩
theorem OfI.drew {w W : World} {V g gd : Nat} {tv dv rv xs ys : List Value} (h : OfI w V g gd tv dv rv xs ys W) : OfI w V g gd tv dv rv xs ys W.drew :=
  ⟨h.low.drew, h.vec.drewN 1, h.des.drewN 1, h.res.drewN 1, h.shp.drewN 1, h.dat.drewN 1, h.gdl, h.ne, h.nv⟩
theorem OfI.set {w W : World} {V g gd : Nat} {tv dv rv xs ys : List Value} (h : OfI w V g gd tv dv rv xs ys W) (i : Nat) (v : Value) : OfI w V g gd tv dv rv xs (ys.set i v) (W.setCell ⟨gd, i, none⟩ v) :=
  ⟨h.low.setCell (p := ⟨gd, i, none⟩) h.gdl v, h.vec.far (p := ⟨gd, i, none⟩) (h.vec.apart h.dat (by decide)) v, h.des.far (p := ⟨gd, i, none⟩) (h.des.apart h.dat (by decide)) v, h.res.far (p := ⟨gd, i, none⟩) (h.res.apart h.dat (by decide)) v,
    h.shp.far (p := ⟨gd, i, none⟩) h.ne v, h.dat.set_ i v, h.gdl, h.ne, h.nv⟩
theorem OfI.done {w W : World} {V g gd : Nat} {tv dv xs ys : List Value} {x y z : Value} (v1 v2 v3 : Value) (h : OfI w V g gd tv dv [x, y, z] xs ys W) :
    Has (((W.setCell ⟨w.heap.size + 1, 0, none⟩ v1).setCell ⟨w.heap.size + 1, 1, none⟩ v2).setCell ⟨w.heap.size + 1, 2, none⟩ v3) (w.heap.size + 1) 70 [v1, v2, v3] ∧
    Has (((W.setCell ⟨w.heap.size + 1, 0, none⟩ v1).setCell ⟨w.heap.size + 1, 1, none⟩ v2).setCell ⟨w.heap.size + 1, 2, none⟩ v3) g 3 xs ∧ Has (((W.setCell ⟨w.heap.size + 1, 0, none⟩ v1).setCell ⟨w.heap.size + 1, 1, none⟩ v2).setCell ⟨w.heap.size + 1, 2, none⟩ v3) gd 3 ys ∧
    Below w.heap.size w (((W.setCell ⟨w.heap.size + 1, 0, none⟩ v1).setCell ⟨w.heap.size + 1, 1, none⟩ v2).setCell ⟨w.heap.size + 1, 2, none⟩ v3) :=
  have k := tstore v1 v2 v3 h.res h.des h.shp h.dat h.low (h.shp.apart h.res (by decide)) (h.dat.apart h.res (by decide))
  ⟨k.1, k.2.2.1, k.2.2.2.1, k.2.2.2.2⟩
theorem Tens.nums_length (u : Bool) (bs : List Nat) : (Tens.nums u bs).length = if u = true then bs.length / 4 else bs.length := by
  unfold Tens.nums
  cases u
  · simp [Tens.nums1]
  · simp [Tens.nums4]
end Go.Proofs.YthjnkaikjjjceaaDoor
namespace Go.Proofs.YthjnkaikjjjceaaDoor
open Go.RowKit
/-- Two tensors in two blocks. -/
theorem two_rows (w : World) (ta tb : List Value) : Below w.heap.size w ((w.alloc (Obj.cells ta.toArray 70)).alloc (Obj.cells tb.toArray 70)) ∧
    Has ((w.alloc (Obj.cells ta.toArray 70)).alloc (Obj.cells tb.toArray 70)) w.heap.size 70 ta ∧ Has ((w.alloc (Obj.cells ta.toArray 70)).alloc (Obj.cells tb.toArray 70)) (w.heap.size + 1) 70 tb := by
  refine ⟨((Below.refl _ w).alloc (Nat.le_refl _) _).alloc (by simp) _, (Has.new w _ _).alloc _, ?_⟩
  have h := Has.new (w.alloc (Obj.cells ta.toArray 70)) 70 tb
  simpa using h
set_option maxRecDepth 100000 in
set_option maxHeartbeats 4000000 in
theorem worldtensor_c (P D : Option Addr) (n cap m dcap : Nat) (u : Bool) (w : World) :
    Calls Tryd.prog 70 #[.agg (tcells P n cap u D m dcap), .int .i64 300] w fun e w' => e = .returned (.bool (decide (n ≤ 8) && decide (m ≤ 300))) ∧ Below w.heap.size w w' := by
  have hb1 := (Below.refl _ w).alloc (Nat.le_refl _) (Obj.cells (tcells P n cap u D m dcap) 70)
  have hrow := tens_row w P n cap u D m dcap
  have HV := hide (worlddesc_c P n cap u (w.alloc (Obj.cells (tcells P n cap u D m dcap) 70)))
  have HB1 := hide hb1
  have HR := hide hrow
  obtain ⟨b, hb⟩ : ∃ b, decide (n ≤ 8) = b := ⟨_, rfl⟩
  have hd : decide ((m : Int) ≤ 300) = decide (m ≤ 300) := by rw [decide_eq_decide]; omega
  rw [hb] at HV ⊢
  clear hb hb1 hrow
  go_enter Tryd.func70, Tryd.ntmps70
  go_wp2_with fail
  refine HV.out.mono ?_
  rintro e w1 ⟨rfl, hb⟩
  have hfin := HB1.out.trans (hb.mono HB1.out.size)
  have hr := HR.out.below hb HR.out.lt
  have c2 : w1.cell? ⟨w.heap.size, 2, none⟩ = some (.slice D m dcap) := by rw [hr.cell]; rfl
  clear hb hr
  cases b
  · go_wp2_with fail
    go_ret
    exact ⟨rfl, hfin⟩
  · go_wp2_with fail
    go_ret
    exact ⟨by rw [Bool.true_and]; first | rw [hd] | rfl, hfin⟩
set_option maxRecDepth 100000 in
set_option maxHeartbeats 4000000 in
theorem tsame_c (a b ds es : List Int) (P Q D E : Option Addr) (ca cb cd ce : Nat) (u v : Bool) (w : World) (ha : Ri w P a) (hb : Ri w Q b) (hd : Ri w D ds) (he : Ri w E es) (hl : a.length ≤ 1000000) (hl2 : b.length ≤ 1000000) (hl3 : ds.length ≤ 1000000) (hl4 : es.length ≤ 1000000) :
    Calls Tryd.prog 47 #[.agg (tcells P a.length ca u D ds.length cd), .agg (tcells Q b.length cb v E es.length ce)] w fun e w' => e = .returned (.bool ((decide (a = b) && (u == v)) && decide (ds = es))) ∧ Below w.heap.size w w' := by
  obtain ⟨hb0, hr1, hr2⟩ := two_rows w [.slice P a.length ca, .bool u, .slice D ds.length cd] [.slice Q b.length cb, .bool v, .slice E es.length ce]
  have HS := hide (same_c a b P Q ca cb u v _ (ha.below hb0) (hb.below hb0) hl hl2)
  have HE := hide (fun W (h : Below w.heap.size w W) => equal_c ds es D E cd ce W (hd.below h) (he.below h) hl3 hl4)
  have HB0 := hide hb0
  have HR1 := hide hr1
  have HR2 := hide hr2
  clear hb0 hr1 hr2 ha hb hd he hl hl2 hl3 hl4
  obtain ⟨n1, h1⟩ : ∃ n, Hid (a.length = n) := ⟨_, hide rfl⟩
  obtain ⟨n2, h2⟩ : ∃ n, Hid (b.length = n) := ⟨_, hide rfl⟩
  obtain ⟨n3, h3⟩ : ∃ n, Hid (ds.length = n) := ⟨_, hide rfl⟩
  obtain ⟨n4, h4⟩ : ∃ n, Hid (es.length = n) := ⟨_, hide rfl⟩
  rw [h1.out, h2.out] at HS
  rw [h3.out, h4.out] at HE
  rw [h1.out, h2.out, h3.out, h4.out] at HB0
  rw [h1.out, h2.out, h3.out, h4.out] at HR1 HR2 ⊢
  rw [h3.out, h4.out] at HS
  obtain ⟨x, hx⟩ : ∃ x, Hid ((decide (a = b) && (u == v)) = x) := ⟨_, hide rfl⟩
  obtain ⟨y, hy⟩ : ∃ y, Hid (decide (ds = es) = y) := ⟨_, hide rfl⟩
  rw [hx.out] at HS ⊢
  rw [hy.out] at HE ⊢
  clear h1 h2 h3 h4 hx hy
  go_enter Tryd.func47, Tryd.ntmps47
  go_wp2_with fail
  refine HS.out.mono ?_
  rintro e w1 ⟨rfl, hb⟩
  have hF := HB0.out.trans (hb.mono HB0.out.size)
  have r1 := HR1.out.below hb HR1.out.lt
  have r2 := HR2.out.below hb HR2.out.lt
  have c1 : w1.cell? ⟨w.heap.size, 2, none⟩ = some (.slice D n3 cd) := by rw [r1.cell]; rfl
  have c2 : w1.cell? ⟨w.heap.size + 1, 2, none⟩ = some (.slice E n4 ce) := by rw [r2.cell]; rfl
  clear hb r1 r2 HB0 HR1 HR2 HS
  cases x
  · have HF := hide hF
    clear hF HE
    go_wp2_with fail
    go_ret
    exact ⟨rfl, HF.out⟩
  · have HE1 := hide (HE.out w1 hF)
    have HF := hide hF
    clear hF HE
    go_wp2_with fail
    refine HE1.out.mono ?_
    rintro e w2 ⟨rfl, hb⟩
    have hfin := HF.out.trans (hb.mono HF.out.size)
    clear hb
    go_wp2_with fail
    go_ret
    exact ⟨by first | rfl | simp, hfin⟩
end Go.Proofs.YthjnkaikjjjceaaDoor
