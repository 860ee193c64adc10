/-
  soft.Softmax, Gather, ArgMax, Sum, Cell, walked. By an AI agent. No person has read it.
-/
import Derived.Test.YtcgjnjchkachdaaDoorSftK
namespace Go.Proofs.YtcgjnjchkachdaaDoor
open Go.RowKit

set_option maxRecDepth 100000 in
set_option maxHeartbeats 8000000 in
theorem sfsoftmax_c (a b : Ten) (ah am ar : Addr) (w : World) (ha : a.In w) (hb : b.In w) (hd : ∀ t ∈ [a, b], t.ds.length ≤ t.dcap) (hE : E3 w ah am ar) :
    Calls Tryd.prog 39 #[.agg (tcells a.P a.zs.length a.cap a.u a.D a.ds.length a.dcap), .agg (tcells b.P b.zs.length b.cap b.u b.D b.ds.length b.dcap)] w
      (TenE w ah am ar (Cel.fault [a, b] (Sf.code 16 ([a, b].map Ten.look))) (Sf.shape 16 ([a, b].map Ten.look)) (Sf.kind 16 ([a, b].map Ten.look)) (Sf.ds 16 [a, b])) := by
  obtain ⟨W0, hW0⟩ : ∃ W, W = ((((w.alloc (.cells a.vals.toArray 26)).alloc (.cells b.vals.toArray 26)).alloc (.cells #[.slice none 0 0, .bool false, .slice none 0 0] 26)).alloc (.cells ([a, b].flatMap Ten.vals).toArray 26)) := ⟨_, rfl⟩
  have Ha : Hid (Has W0 w.heap.size 26 a.vals) := hide (by rw [hW0]; exact ((((Has.new w 26 a.vals).alloc _).alloc _).alloc _))
  have Hb : Hid (Has W0 (w.heap.size + 1) 26 b.vals) := hide (by rw [hW0]; exact (((box_at _ 26 b.vals _ (by simp)).alloc _).alloc _))
  have HZ : Hid (Has W0 (w.heap.size + 1 + 1) 26 [.slice none 0 0, .bool false, .slice none 0 0]) := hide (by rw [hW0]; exact ((box_at _ 26 [.slice none 0 0, .bool false, .slice none 0 0] _ (by simp)).alloc _))
  have HT : Has W0 (w.heap.size + 1 + 1 + 1) 26 ([a, b].flatMap Ten.vals) := by rw [hW0]; exact (box_at _ 26 ([a, b].flatMap Ten.vals) _ (by simp))
  have HB0 : Hid (Below w.heap.size w W0) := hide (by rw [hW0]; exact ((((Below.refl _ _).alloc (Nat.le_refl _) _).alloc (by simp; try omega) _).alloc (by simp; try omega) _).alloc (by simp; try omega) _)
  have HV := hide (sdo_c 16 (by unfold Sf.isOp; omega) [a, b] (some ⟨(w.heap.size + 1 + 1 + 1), 0, none⟩) 2 ah am ar W0 HT.row (fun t ht => by
    simp only [List.mem_cons, List.not_mem_nil, or_false] at ht
    rcases ht with rfl | rfl
    · exact ha.below HB0.out
    · exact hb.below HB0.out) hd (by show 2 ≤ 1000000; omega) (hE.below HB0.out))
  have HW := hide hW0
  have hz9 := HT.lt
  unfold Ten.vals at HW Ha Hb
  simp only [List.flatMap_cons, List.flatMap_nil, List.append_nil, List.cons_append, List.nil_append] at HW
  have a0 := Ha.out.cell 0
  have a1 := Ha.out.cell 1
  have a2 := Ha.out.cell 2
  have b0 := Hb.out.cell 0
  have b1 := Hb.out.cell 1
  have b2 := Hb.out.cell 2
  clear ha hb hE hW0 HT hd
  obtain ⟨F, hF⟩ : ∃ k, Hid (Cel.fault [a, b] (Sf.code 16 ([a, b].map Ten.look)) = k) := ⟨_, hide rfl⟩
  rw [hF.out] at HV ⊢
  go_enter Tryd.func39, Tryd.ntmps39
  go_wp2_with fail
  rw [← HW.out]
  clear HW a0 a1 a2 b0 b1 b2
  refine HV.out.mono ?_
  rintro e w1 ⟨⟨t, x, rfl, ht, htf, htz, htu, htd, hx, ho⟩, hb⟩
  have hZ1 := HZ.out.below hb HZ.out.lt
  have hzq := HZ.out.lt
  obtain ⟨z0, z1, z2, zf0, zf1, zf2, HZf, -⟩ := elm_three hZ1 (HB0.out.trans (hb.mono HB0.out.size)) (by omega) (.slice t.P t.zs.length t.cap) (.bool t.u) (.slice t.D t.ds.length t.dcap)
  have HFin := hide (TenE.wrap HZ.out HB0.out (by omega) (by omega) ht htf htz htu htd hx ho hb rfl)
  clear ht htf htz htu htd hx ho hb hZ1 HV
  go_wp2_with fail
  refine bodyPost_ret (results_tn rfl _ _ (w.heap.size + 1 + 1) _ _ _ rfl HZf.out) rfl ?_
  exact HFin.out
set_option maxRecDepth 100000 in
set_option maxHeartbeats 8000000 in
theorem sfgather_c (a b : Ten) (ah am ar : Addr) (w : World) (ha : a.In w) (hb : b.In w) (hd : ∀ t ∈ [a, b], t.ds.length ≤ t.dcap) (hE : E3 w ah am ar) :
    Calls Tryd.prog 41 #[.agg (tcells a.P a.zs.length a.cap a.u a.D a.ds.length a.dcap), .agg (tcells b.P b.zs.length b.cap b.u b.D b.ds.length b.dcap)] w
      (TenE w ah am ar (Cel.fault [a, b] (Sf.code 17 ([a, b].map Ten.look))) (Sf.shape 17 ([a, b].map Ten.look)) (Sf.kind 17 ([a, b].map Ten.look)) (Sf.ds 17 [a, b])) := by
  obtain ⟨W0, hW0⟩ : ∃ W, W = ((((w.alloc (.cells a.vals.toArray 26)).alloc (.cells b.vals.toArray 26)).alloc (.cells #[.slice none 0 0, .bool false, .slice none 0 0] 26)).alloc (.cells ([a, b].flatMap Ten.vals).toArray 26)) := ⟨_, rfl⟩
  have Ha : Hid (Has W0 w.heap.size 26 a.vals) := hide (by rw [hW0]; exact ((((Has.new w 26 a.vals).alloc _).alloc _).alloc _))
  have Hb : Hid (Has W0 (w.heap.size + 1) 26 b.vals) := hide (by rw [hW0]; exact (((box_at _ 26 b.vals _ (by simp)).alloc _).alloc _))
  have HZ : Hid (Has W0 (w.heap.size + 1 + 1) 26 [.slice none 0 0, .bool false, .slice none 0 0]) := hide (by rw [hW0]; exact ((box_at _ 26 [.slice none 0 0, .bool false, .slice none 0 0] _ (by simp)).alloc _))
  have HT : Has W0 (w.heap.size + 1 + 1 + 1) 26 ([a, b].flatMap Ten.vals) := by rw [hW0]; exact (box_at _ 26 ([a, b].flatMap Ten.vals) _ (by simp))
  have HB0 : Hid (Below w.heap.size w W0) := hide (by rw [hW0]; exact ((((Below.refl _ _).alloc (Nat.le_refl _) _).alloc (by simp; try omega) _).alloc (by simp; try omega) _).alloc (by simp; try omega) _)
  have HV := hide (sdo_c 17 (by unfold Sf.isOp; omega) [a, b] (some ⟨(w.heap.size + 1 + 1 + 1), 0, none⟩) 2 ah am ar W0 HT.row (fun t ht => by
    simp only [List.mem_cons, List.not_mem_nil, or_false] at ht
    rcases ht with rfl | rfl
    · exact ha.below HB0.out
    · exact hb.below HB0.out) hd (by show 2 ≤ 1000000; omega) (hE.below HB0.out))
  have HW := hide hW0
  have hz9 := HT.lt
  unfold Ten.vals at HW Ha Hb
  simp only [List.flatMap_cons, List.flatMap_nil, List.append_nil, List.cons_append, List.nil_append] at HW
  have a0 := Ha.out.cell 0
  have a1 := Ha.out.cell 1
  have a2 := Ha.out.cell 2
  have b0 := Hb.out.cell 0
  have b1 := Hb.out.cell 1
  have b2 := Hb.out.cell 2
  clear ha hb hE hW0 HT hd
  obtain ⟨F, hF⟩ : ∃ k, Hid (Cel.fault [a, b] (Sf.code 17 ([a, b].map Ten.look)) = k) := ⟨_, hide rfl⟩
  rw [hF.out] at HV ⊢
  go_enter Tryd.func41, Tryd.ntmps41
  go_wp2_with fail
  rw [← HW.out]
  clear HW a0 a1 a2 b0 b1 b2
  refine HV.out.mono ?_
  rintro e w1 ⟨⟨t, x, rfl, ht, htf, htz, htu, htd, hx, ho⟩, hb⟩
  have hZ1 := HZ.out.below hb HZ.out.lt
  have hzq := HZ.out.lt
  obtain ⟨z0, z1, z2, zf0, zf1, zf2, HZf, -⟩ := elm_three hZ1 (HB0.out.trans (hb.mono HB0.out.size)) (by omega) (.slice t.P t.zs.length t.cap) (.bool t.u) (.slice t.D t.ds.length t.dcap)
  have HFin := hide (TenE.wrap HZ.out HB0.out (by omega) (by omega) ht htf htz htu htd hx ho hb rfl)
  clear ht htf htz htu htd hx ho hb hZ1 HV
  go_wp2_with fail
  refine bodyPost_ret (results_tn rfl _ _ (w.heap.size + 1 + 1) _ _ _ rfl HZf.out) rfl ?_
  exact HFin.out
set_option maxRecDepth 100000 in
set_option maxHeartbeats 8000000 in
theorem sfargmax_c (a : Ten) (ah am ar : Addr) (w : World) (ha : a.In w) (hd : ∀ t ∈ [a], t.ds.length ≤ t.dcap) (hE : E3 w ah am ar) :
    Calls Tryd.prog 40 #[.agg (tcells a.P a.zs.length a.cap a.u a.D a.ds.length a.dcap)] w
      (TenE w ah am ar (Cel.fault [a] (Sf.code 19 ([a].map Ten.look))) (Sf.shape 19 ([a].map Ten.look)) (Sf.kind 19 ([a].map Ten.look)) (Sf.ds 19 [a])) := by
  obtain ⟨W0, hW0⟩ : ∃ W, W = (((w.alloc (.cells a.vals.toArray 26)).alloc (.cells #[.slice none 0 0, .bool false, .slice none 0 0] 26)).alloc (.cells ([a].flatMap Ten.vals).toArray 26)) := ⟨_, rfl⟩
  have Ha : Hid (Has W0 w.heap.size 26 a.vals) := hide (by rw [hW0]; exact (((Has.new w 26 a.vals).alloc _).alloc _))
  have HZ : Hid (Has W0 (w.heap.size + 1) 26 [.slice none 0 0, .bool false, .slice none 0 0]) := hide (by rw [hW0]; exact ((box_at _ 26 [.slice none 0 0, .bool false, .slice none 0 0] _ (by simp)).alloc _))
  have HT : Has W0 (w.heap.size + 1 + 1) 26 ([a].flatMap Ten.vals) := by rw [hW0]; exact (box_at _ 26 ([a].flatMap Ten.vals) _ (by simp))
  have HB0 : Hid (Below w.heap.size w W0) := hide (by rw [hW0]; exact (((Below.refl _ _).alloc (Nat.le_refl _) _).alloc (by simp; try omega) _).alloc (by simp; try omega) _)
  have HV := hide (sdo_c 19 (by unfold Sf.isOp; omega) [a] (some ⟨(w.heap.size + 1 + 1), 0, none⟩) 1 ah am ar W0 HT.row (fun t ht => by
    simp only [List.mem_cons, List.not_mem_nil, or_false] at ht
    subst ht
    exact ha.below HB0.out
) hd (by show 1 ≤ 1000000; omega) (hE.below HB0.out))
  have HW := hide hW0
  have hz9 := HT.lt
  unfold Ten.vals at HW Ha
  simp only [List.flatMap_cons, List.flatMap_nil, List.append_nil] at HW
  have a0 := Ha.out.cell 0
  have a1 := Ha.out.cell 1
  have a2 := Ha.out.cell 2
  clear ha hE hW0 HT hd
  obtain ⟨F, hF⟩ : ∃ k, Hid (Cel.fault [a] (Sf.code 19 ([a].map Ten.look)) = k) := ⟨_, hide rfl⟩
  rw [hF.out] at HV ⊢
  go_enter Tryd.func40, Tryd.ntmps40
  go_wp2_with fail
  rw [← HW.out]
  clear HW a0 a1 a2
  refine HV.out.mono ?_
  rintro e w1 ⟨⟨t, x, rfl, ht, htf, htz, htu, htd, hx, ho⟩, hb⟩
  have hZ1 := HZ.out.below hb HZ.out.lt
  have hzq := HZ.out.lt
  obtain ⟨z0, z1, z2, zf0, zf1, zf2, HZf, -⟩ := elm_three hZ1 (HB0.out.trans (hb.mono HB0.out.size)) (by omega) (.slice t.P t.zs.length t.cap) (.bool t.u) (.slice t.D t.ds.length t.dcap)
  have HFin := hide (TenE.wrap HZ.out HB0.out (by omega) (by omega) ht htf htz htu htd hx ho hb rfl)
  clear ht htf htz htu htd hx ho hb hZ1 HV
  go_wp2_with fail
  refine bodyPost_ret (results_tn rfl _ _ (w.heap.size + 1) _ _ _ rfl HZf.out) rfl ?_
  exact HFin.out
set_option maxRecDepth 100000 in
set_option maxHeartbeats 8000000 in
theorem sfsum_c (a : Ten) (ah am ar : Addr) (w : World) (ha : a.In w) (hd : ∀ t ∈ [a], t.ds.length ≤ t.dcap) (hE : E3 w ah am ar) :
    Calls Tryd.prog 43 #[.agg (tcells a.P a.zs.length a.cap a.u a.D a.ds.length a.dcap)] w
      (TenE w ah am ar (Cel.fault [a] (Sf.code 20 ([a].map Ten.look))) (Sf.shape 20 ([a].map Ten.look)) (Sf.kind 20 ([a].map Ten.look)) (Sf.ds 20 [a])) := by
  obtain ⟨W0, hW0⟩ : ∃ W, W = (((w.alloc (.cells a.vals.toArray 26)).alloc (.cells #[.slice none 0 0, .bool false, .slice none 0 0] 26)).alloc (.cells ([a].flatMap Ten.vals).toArray 26)) := ⟨_, rfl⟩
  have Ha : Hid (Has W0 w.heap.size 26 a.vals) := hide (by rw [hW0]; exact (((Has.new w 26 a.vals).alloc _).alloc _))
  have HZ : Hid (Has W0 (w.heap.size + 1) 26 [.slice none 0 0, .bool false, .slice none 0 0]) := hide (by rw [hW0]; exact ((box_at _ 26 [.slice none 0 0, .bool false, .slice none 0 0] _ (by simp)).alloc _))
  have HT : Has W0 (w.heap.size + 1 + 1) 26 ([a].flatMap Ten.vals) := by rw [hW0]; exact (box_at _ 26 ([a].flatMap Ten.vals) _ (by simp))
  have HB0 : Hid (Below w.heap.size w W0) := hide (by rw [hW0]; exact (((Below.refl _ _).alloc (Nat.le_refl _) _).alloc (by simp; try omega) _).alloc (by simp; try omega) _)
  have HV := hide (sdo_c 20 (by unfold Sf.isOp; omega) [a] (some ⟨(w.heap.size + 1 + 1), 0, none⟩) 1 ah am ar W0 HT.row (fun t ht => by
    simp only [List.mem_cons, List.not_mem_nil, or_false] at ht
    subst ht
    exact ha.below HB0.out
) hd (by show 1 ≤ 1000000; omega) (hE.below HB0.out))
  have HW := hide hW0
  have hz9 := HT.lt
  unfold Ten.vals at HW Ha
  simp only [List.flatMap_cons, List.flatMap_nil, List.append_nil] at HW
  have a0 := Ha.out.cell 0
  have a1 := Ha.out.cell 1
  have a2 := Ha.out.cell 2
  clear ha hE hW0 HT hd
  obtain ⟨F, hF⟩ : ∃ k, Hid (Cel.fault [a] (Sf.code 20 ([a].map Ten.look)) = k) := ⟨_, hide rfl⟩
  rw [hF.out] at HV ⊢
  go_enter Tryd.func43, Tryd.ntmps43
  go_wp2_with fail
  rw [← HW.out]
  clear HW a0 a1 a2
  refine HV.out.mono ?_
  rintro e w1 ⟨⟨t, x, rfl, ht, htf, htz, htu, htd, hx, ho⟩, hb⟩
  have hZ1 := HZ.out.below hb HZ.out.lt
  have hzq := HZ.out.lt
  obtain ⟨z0, z1, z2, zf0, zf1, zf2, HZf, -⟩ := elm_three hZ1 (HB0.out.trans (hb.mono HB0.out.size)) (by omega) (.slice t.P t.zs.length t.cap) (.bool t.u) (.slice t.D t.ds.length t.dcap)
  have HFin := hide (TenE.wrap HZ.out HB0.out (by omega) (by omega) ht htf htz htu htd hx ho hb rfl)
  clear ht htf htz htu htd hx ho hb hZ1 HV
  go_wp2_with fail
  refine bodyPost_ret (results_tn rfl _ _ (w.heap.size + 1) _ _ _ rfl HZf.out) rfl ?_
  exact HFin.out
set_option maxRecDepth 100000 in
set_option maxHeartbeats 8000000 in
theorem scell_c (op : Int) (hop : Sf.isOp op) (ts : List Ten) (i : Int) (B : Option Addr) (cap : Nat) (ah am ar : Addr) (w : World) (hR : Row w B (ts.flatMap Ten.vals)) (hI : ∀ t ∈ ts, t.In w) (hd : ∀ t ∈ ts, t.ds.length ≤ t.dcap) (hl : ts.length ≤ 1000000) (hi : -9223372036854775808 ≤ i ∧ i ≤ 9223372036854775807) (hE : E3 w ah am ar) :
    Calls Tryd.prog 42 #[.int .i64 op, .int .i64 i, .slice B ts.length cap] w fun e w' => e = .returned (.int .i64 (Sf.cell op ts i)) ∧ Below w.heap.size w w' := by
  have HV := hide (slookof_c op hop ts B cap ah am ar w hR hI hl hE)
  have HFi : Hid (Cel.fault ts (Sf.code op (ts.map Ten.look)) = (0, none) → ∀ (P : Option Addr) (c : Nat) (u : Bool) W, Below w.heap.size w W → Ri W P (Sf.shape op (ts.map Ten.look)) → Calls Tryd.prog 69 #[.agg (dcells P (Sf.shape op (ts.map Ten.look)).length c u), .int .i64 i, .int .i64 op, .slice none 0 0, .slice B ts.length cap] W fun e w' => e = .returned (.int .i64 (if 0 ≤ i then (Sf.ds op ts).getD i.toNat 0 else 0)) ∧ Below W.heap.size W w') := hide (fun h P c u W hb hr => sfone_c op ts (Sf.fine hop hd h) P _ rfl c u i none B 0 0 cap am ar W hr (hE.2.below hb) (hR.below hb) (fun t ht => (hI t ht).below hb) hi)
  have hfc := Cel.fault_cases (ts := ts) (Sf.code_known op (ts.map Ten.look))
  have HCE : Hid (Sf.cell op ts i = if Cel.fault ts (Sf.code op (ts.map Ten.look)) = (0, none) then (if 0 ≤ i then (Sf.ds op ts).getD i.toNat 0 else 0) else 0) := hide rfl
  obtain ⟨v, hv⟩ : ∃ k, Hid (Sf.cell op ts i = k) := ⟨_, hide rfl⟩
  obtain ⟨u, hu⟩ : ∃ k, Hid ((if 0 ≤ i then (Sf.ds op ts).getD i.toNat 0 else 0) = k) := ⟨_, hide rfl⟩
  obtain ⟨K, hK⟩ : ∃ k, Hid (Sf.code op (ts.map Ten.look) = k) := ⟨_, hide rfl⟩
  obtain ⟨sh, hsh⟩ : ∃ k, Hid (Sf.shape op (ts.map Ten.look) = k) := ⟨_, hide rfl⟩
  obtain ⟨kd, hkd⟩ : ∃ k, Hid (Sf.kind op (ts.map Ten.look) = k) := ⟨_, hide rfl⟩
  obtain ⟨F, hF⟩ : ∃ k, Hid (Cel.fault ts (Sf.code op (ts.map Ten.look)) = k) := ⟨_, hide rfl⟩
  obtain ⟨nt, hnt⟩ : ∃ n, Hid (ts.length = n) := ⟨_, hide rfl⟩
  have hor : ∀ {α : Type} (p q : α), Cel.or ts K p q = if F = (0, none) then p else q := fun p q => by
    unfold Cel.or
    rw [← hK.out, hF.out]
  unfold LookE at HV
  rw [hF.out, hK.out, hsh.out, hkd.out, hor, hor] at HV
  rw [hF.out, hsh.out, hu.out] at HFi
  rw [hF.out, hv.out, hu.out] at HCE
  rw [hF.out] at hfc
  rw [hnt.out] at HV HFi ⊢
  rw [hv.out]
  clear hR hI hd hl hE hK hsh hkd hop hor hF hnt hu hv
  go_enter Tryd.func42, Tryd.ntmps42
  go_wp2_with fail
  refine HV.out.mono ?_
  rintro e w1 ⟨⟨d, x, rfl, hdi, hdf, hdz, hdu, hx⟩, hb⟩
  have HB1 := hide hb
  clear hb HV hdf
  by_cases hf : F = (0, none)
  case neg =>
    have hE := hx.errv hfc hf
    have HBf := hide (HB1.out.alloc HB1.out.size (.cells #[.slice d.P d.zs.length d.cap, .bool d.u] 24))
    have HV0 : Hid (v = 0) := hide (by rw [HCE.out, if_neg hf])
    have r1 := run_neqerr hE
    have r2 := run_neqguard hE
    clear hdi hdz hdu hx hf hfc hE HFi HCE
    go_wp2_with fail
    go_ret
    exact ⟨by rw [HV0.out]; rfl, HBf.out⟩
  case pos =>
    subst hf
    have hOne := HFi.out rfl
    rw [if_pos rfl] at hdz hdu
    obtain rfl : x = .nilIface := hx
    have hri := hdi.shp
    rw [hdz] at hri
    have hdzl : d.zs.length = sh.length := by rw [hdz]
    rw [hdzl, hdu]
    obtain ⟨W2, hW2⟩ : ∃ W, W = w1.alloc (.cells #[.slice d.P sh.length d.cap, .bool kd] 24) := ⟨_, rfl⟩
    have hb2 : Below w1.heap.size w1 W2 := by rw [hW2]; exact (Below.refl _ _).alloc (Nat.le_refl _) _
    have hB2 := HB1.out.trans (hb2.mono HB1.out.size)
    have HO := hide (hOne d.P d.cap kd W2 hB2 (hri.below hb2))
    have HB2 := hide hB2
    have HW2 := hide hW2
    have HVU : Hid (u = v) := hide (by rw [HCE.out, if_pos rfl])
    obtain ⟨nz, hnz⟩ : ∃ n, Hid (sh.length = n) := ⟨_, hide rfl⟩
    rw [hnz.out] at HO HW2 ⊢
    clear hdi hdz hfc hri hW2 hb2 hB2 HFi hdzl HB1 hOne hdu HCE
    go_wp2_with fail
    rw [← HW2.out]
    clear HW2
    refine HO.out.mono ?_
    rintro e w3 ⟨rfl, hb⟩
    have HBf := hide (HB2.out.trans (hb.mono HB2.out.size))
    clear HO hb
    go_wp2_with fail
    go_ret
    exact ⟨by rw [HVU.out]; rfl, HBf.out⟩
/-- What a lawful operation answers. -/
theorem sf_good (op : Int) (_ : Sf.isOp op) (ts : List Ten) (ah am ar : Addr) (w : World) {e : Ending} {w' : World} (hf : Cel.fault ts (Sf.code op (ts.map Ten.look)) = (0, none))
    (h : TenE w ah am ar (Cel.fault ts (Sf.code op (ts.map Ten.look))) (Sf.shape op (ts.map Ten.look)) (Sf.kind op (ts.map Ten.look)) (Sf.ds op ts) e w') :
    (∃ t : Ten, e = .returned (.tuple #[.agg (tcells t.P t.zs.length t.cap t.u t.D t.ds.length t.dcap), .nilIface]) ∧ t.In w' ∧ t.zs = Sf.shape op (ts.map Ten.look) ∧ t.u = Sf.kind op (ts.map Ten.look) ∧ t.ds = Sf.ds op ts ∧ OwnData w' t) ∧ Below w.heap.size w w' := by
  obtain ⟨⟨t, x, rfl, hIn, -, hz, hu, hd, hx, ho⟩, hB⟩ := h
  rw [if_pos hf] at hz hu hd
  rw [hf] at hx
  obtain rfl : x = .nilIface := hx
  exact ⟨⟨t, rfl, hIn, hz, hu, hd, ho hf⟩, hB⟩
end Go.Proofs.YtcgjnjchkachdaaDoor
