/-
  Two tensors held against each other: tens.Same, lodgeref.SameTensor; lodgeworld.Tensor; walked. By an AI agent. No person has read it.
-/
import Derived.Test.YthjnkaikjjjceaaDoorPcTenA
import Derived.Test.YthjnkaikjjjceaaDoorPcShpC
namespace Go.Proofs.YthjnkaikjjjceaaDoor
open Go.RowKit
/-- Two tensors in two blocks. -/
theorem two_rows (w : World) (ta tb : List Value) : Below w.heap.size w ((w.alloc (Obj.cells ta.toArray 70)).alloc (Obj.cells tb.toArray 70)) ∧
    Has ((w.alloc (Obj.cells ta.toArray 70)).alloc (Obj.cells tb.toArray 70)) w.heap.size 70 ta ∧ Has ((w.alloc (Obj.cells ta.toArray 70)).alloc (Obj.cells tb.toArray 70)) (w.heap.size + 1) 70 tb := by
  refine ⟨((Below.refl _ w).alloc (Nat.le_refl _) _).alloc (by simp) _, (Has.new w _ _).alloc _, ?_⟩
  have h := Has.new (w.alloc (Obj.cells ta.toArray 70)) 70 tb
  simpa using h
set_option maxRecDepth 100000 in
set_option maxHeartbeats 4000000 in
theorem worldtensor_c (P D : Option Addr) (n cap m dcap : Nat) (u : Bool) (w : World) :
    Calls Tryd.prog 70 #[.agg (tcells P n cap u D m dcap), .int .i64 300] w fun e w' => e = .returned (.bool (decide (n ≤ 8) && decide (m ≤ 300))) ∧ Below w.heap.size w w' := by
  have hb1 := (Below.refl _ w).alloc (Nat.le_refl _) (Obj.cells (tcells P n cap u D m dcap) 70)
  have hrow := tens_row w P n cap u D m dcap
  have HV := hide (worlddesc_c P n cap u (w.alloc (Obj.cells (tcells P n cap u D m dcap) 70)))
  have HB1 := hide hb1
  have HR := hide hrow
  obtain ⟨b, hb⟩ : ∃ b, decide (n ≤ 8) = b := ⟨_, rfl⟩
  have hd : decide ((m : Int) ≤ 300) = decide (m ≤ 300) := by rw [decide_eq_decide]; omega
  rw [hb] at HV ⊢
  clear hb hb1 hrow
  go_enter Tryd.func70, Tryd.ntmps70
  go_wp2_with fail
  refine HV.out.mono ?_
  rintro e w1 ⟨rfl, hb⟩
  have hfin := HB1.out.trans (hb.mono HB1.out.size)
  have hr := HR.out.below hb HR.out.lt
  have c2 : w1.cell? ⟨w.heap.size, 2, none⟩ = some (.slice D m dcap) := by rw [hr.cell]; rfl
  clear hb hr
  cases b
  · go_wp2_with fail
    go_ret
    exact ⟨rfl, hfin⟩
  · go_wp2_with fail
    go_ret
    exact ⟨by rw [Bool.true_and]; first | rw [hd] | rfl, hfin⟩
set_option maxRecDepth 100000 in
set_option maxHeartbeats 4000000 in
theorem tsame_c (a b ds es : List Int) (P Q D E : Option Addr) (ca cb cd ce : Nat) (u v : Bool) (w : World) (ha : Ri w P a) (hb : Ri w Q b) (hd : Ri w D ds) (he : Ri w E es) (hl : a.length ≤ 1000000) (hl2 : b.length ≤ 1000000) (hl3 : ds.length ≤ 1000000) (hl4 : es.length ≤ 1000000) :
    Calls Tryd.prog 47 #[.agg (tcells P a.length ca u D ds.length cd), .agg (tcells Q b.length cb v E es.length ce)] w fun e w' => e = .returned (.bool ((decide (a = b) && (u == v)) && decide (ds = es))) ∧ Below w.heap.size w w' := by
  obtain ⟨hb0, hr1, hr2⟩ := two_rows w [.slice P a.length ca, .bool u, .slice D ds.length cd] [.slice Q b.length cb, .bool v, .slice E es.length ce]
  have HS := hide (same_c a b P Q ca cb u v _ (ha.below hb0) (hb.below hb0) hl hl2)
  have HE := hide (fun W (h : Below w.heap.size w W) => equal_c ds es D E cd ce W (hd.below h) (he.below h) hl3 hl4)
  have HB0 := hide hb0
  have HR1 := hide hr1
  have HR2 := hide hr2
  clear hb0 hr1 hr2 ha hb hd he hl hl2 hl3 hl4
  obtain ⟨n1, h1⟩ : ∃ n, Hid (a.length = n) := ⟨_, hide rfl⟩
  obtain ⟨n2, h2⟩ : ∃ n, Hid (b.length = n) := ⟨_, hide rfl⟩
  obtain ⟨n3, h3⟩ : ∃ n, Hid (ds.length = n) := ⟨_, hide rfl⟩
  obtain ⟨n4, h4⟩ : ∃ n, Hid (es.length = n) := ⟨_, hide rfl⟩
  rw [h1.out, h2.out] at HS
  rw [h3.out, h4.out] at HE
  rw [h1.out, h2.out, h3.out, h4.out] at HB0
  rw [h1.out, h2.out, h3.out, h4.out] at HR1 HR2 ⊢
  rw [h3.out, h4.out] at HS
  obtain ⟨x, hx⟩ : ∃ x, Hid ((decide (a = b) && (u == v)) = x) := ⟨_, hide rfl⟩
  obtain ⟨y, hy⟩ : ∃ y, Hid (decide (ds = es) = y) := ⟨_, hide rfl⟩
  rw [hx.out] at HS ⊢
  rw [hy.out] at HE ⊢
  clear h1 h2 h3 h4 hx hy
  go_enter Tryd.func47, Tryd.ntmps47
  go_wp2_with fail
  refine HS.out.mono ?_
  rintro e w1 ⟨rfl, hb⟩
  have hF := HB0.out.trans (hb.mono HB0.out.size)
  have r1 := HR1.out.below hb HR1.out.lt
  have r2 := HR2.out.below hb HR2.out.lt
  have c1 : w1.cell? ⟨w.heap.size, 2, none⟩ = some (.slice D n3 cd) := by rw [r1.cell]; rfl
  have c2 : w1.cell? ⟨w.heap.size + 1, 2, none⟩ = some (.slice E n4 ce) := by rw [r2.cell]; rfl
  clear hb r1 r2 HB0 HR1 HR2 HS
  cases x
  · have HF := hide hF
    clear hF HE
    go_wp2_with fail
    go_ret
    exact ⟨rfl, HF.out⟩
  · have HE1 := hide (HE.out w1 hF)
    have HF := hide hF
    clear hF HE
    go_wp2_with fail
    refine HE1.out.mono ?_
    rintro e w2 ⟨rfl, hb⟩
    have hfin := HF.out.trans (hb.mono HF.out.size)
    clear hb
    go_wp2_with fail
    go_ret
    exact ⟨by first | rfl | simp, hfin⟩
set_option maxRecDepth 100000 in
set_option maxHeartbeats 4000000 in
theorem sametensor_c (a b ds es : List Int) (P Q D E : Option Addr) (ca cb cd ce : Nat) (u v : Bool) (w : World) (ha : Ri w P a) (hb : Ri w Q b) (hd : Ri w D ds) (he : Ri w E es) (hl : a.length ≤ 1000000) (hl2 : b.length ≤ 1000000) (hl3 : ds.length ≤ 1000000) (hl4 : es.length ≤ 1000000) :
    Calls Tryd.prog 86 #[.agg (tcells P a.length ca u D ds.length cd), .agg (tcells Q b.length cb v E es.length ce)] w fun e w' => e = .returned (.bool ((decide (a = b) && (u == v)) && decide (ds = es))) ∧ Below w.heap.size w w' := by
  obtain ⟨hb0, hr1, hr2⟩ := two_rows w [.slice P a.length ca, .bool u, .slice D ds.length cd] [.slice Q b.length cb, .bool v, .slice E es.length ce]
  have HS := hide (samedesc_c a b P Q ca cb u v _ (ha.below hb0) (hb.below hb0) hl hl2)
  have HE := hide (fun W (h : Below w.heap.size w W) => sameints_c ds es D E cd ce W (hd.below h) (he.below h) hl3 hl4)
  have HB0 := hide hb0
  have HR1 := hide hr1
  have HR2 := hide hr2
  clear hb0 hr1 hr2 ha hb hd he hl hl2 hl3 hl4
  obtain ⟨n1, h1⟩ : ∃ n, Hid (a.length = n) := ⟨_, hide rfl⟩
  obtain ⟨n2, h2⟩ : ∃ n, Hid (b.length = n) := ⟨_, hide rfl⟩
  obtain ⟨n3, h3⟩ : ∃ n, Hid (ds.length = n) := ⟨_, hide rfl⟩
  obtain ⟨n4, h4⟩ : ∃ n, Hid (es.length = n) := ⟨_, hide rfl⟩
  rw [h1.out, h2.out] at HS
  rw [h3.out, h4.out] at HE
  rw [h1.out, h2.out, h3.out, h4.out] at HB0
  rw [h1.out, h2.out, h3.out, h4.out] at HR1 HR2 ⊢
  rw [h3.out, h4.out] at HS
  obtain ⟨x, hx⟩ : ∃ x, Hid ((decide (a = b) && (u == v)) = x) := ⟨_, hide rfl⟩
  obtain ⟨y, hy⟩ : ∃ y, Hid (decide (ds = es) = y) := ⟨_, hide rfl⟩
  rw [hx.out] at HS ⊢
  rw [hy.out] at HE ⊢
  clear h1 h2 h3 h4 hx hy
  go_enter Tryd.func86, Tryd.ntmps86
  go_wp2_with fail
  refine HS.out.mono ?_
  rintro e w1 ⟨rfl, hb⟩
  have hF := HB0.out.trans (hb.mono HB0.out.size)
  have r1 := HR1.out.below hb HR1.out.lt
  have r2 := HR2.out.below hb HR2.out.lt
  have c1 : w1.cell? ⟨w.heap.size, 2, none⟩ = some (.slice D n3 cd) := by rw [r1.cell]; rfl
  have c2 : w1.cell? ⟨w.heap.size + 1, 2, none⟩ = some (.slice E n4 ce) := by rw [r2.cell]; rfl
  have HE1 := hide (HE.out w1 hF)
  have HF := hide hF
  clear hb r1 r2 HB0 HR1 HR2 HS hF HE
  go_wp2_with fail
  refine HE1.out.mono ?_
  rintro e w2 ⟨rfl, hb⟩
  have HFin := hide (HF.out.trans (hb.mono HF.out.size))
  clear hb
  cases x
  · go_wp2_with fail
    go_ret
    exact ⟨by first | rfl | simp, HFin.out⟩
  · go_wp2_with fail
    go_ret
    exact ⟨by first | rfl | simp, HFin.out⟩
end Go.Proofs.YthjnkaikjjjceaaDoor
