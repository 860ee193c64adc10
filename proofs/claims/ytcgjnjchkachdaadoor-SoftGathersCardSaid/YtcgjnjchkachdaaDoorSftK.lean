/-
  soft.lookOf, soft.do, Softmax, Gather, ArgMax, Sum, Cell, walked. By an AI agent. No person has read it.
-/
import Derived.Test.YtcgjnjchkachdaaDoorSftJ
namespace Go.Proofs.YtcgjnjchkachdaaDoor
open Go.RowKit

set_option maxRecDepth 100000 in
set_option maxHeartbeats 8000000 in
theorem slookof_c (op : Int) (hop : Sf.isOp op) (ts : List Ten) (B : Option Addr) (cap : Nat) (ah am ar : Addr) (w : World) (hR : Row w B (ts.flatMap Ten.vals)) (hI : ∀ t ∈ ts, t.In w) (hl : ts.length ≤ 1000000) (hE : E3 w ah am ar) :
    Calls Tryd.prog 76 #[.int .i64 op, .slice B ts.length cap] w
      (LookE w ah am ar ts (Sf.shape op (ts.map Ten.look)) (Sf.kind op (ts.map Ten.look)) (Sf.code op (ts.map Ten.look))) := by
  obtain ⟨W0, hW0⟩ : ∃ W, W = w.alloc (.cells #[.slice none 0 0, .bool false] 24) := ⟨_, rfl⟩
  have HZ : Hid (Has W0 w.heap.size 24 [.slice none 0 0, .bool false]) := hide (by rw [hW0]; exact Has.new _ _ _)
  have HB0 : Hid (Below w.heap.size w W0) := hide (by rw [hW0]; exact (Below.refl _ _).alloc (Nat.le_refl _) _)
  have HV := hide (looks_c ts B cap ah am ar W0 (hR.below HB0.out) (fun t ht => (hI t ht).below HB0.out) hl (hE.below HB0.out))
  have HRe := hide (fun W (C : Option Addr) (c : Nat) (hb : Below w.heap.size w W) (hr : Row W C (ts.flatMap fun t => t.look.vals)) => sresult_c op hop (ts.map Ten.look) C c ah am ar W (by rw [Ten.flat_look]; exact hr) (fun d hd => by
      obtain ⟨t, ht, rfl⟩ := List.mem_map.1 hd
      exact ((hI t ht).below hb).look) (by rw [List.length_map]; exact hl) (hE.below hb))
  rw [List.length_map] at HRe
  have hfc := Tens.first_cases ts
  have HF0 := hide (fun h : Tens.first ts ≠ (0, none) => Cel.fault_first (k := Sf.code op (ts.map Ten.look)) h)
  have HF1 := hide (fun h : Tens.first ts = (0, none) => Cel.fault_code (k := Sf.code op (ts.map Ten.look)) h)
  have HK := hide (fun h : Sf.code op (ts.map Ten.look) ≠ 0 => Sf.bad h)
  obtain ⟨K, hK⟩ : ∃ k, Hid (Sf.code op (ts.map Ten.look) = k) := ⟨_, hide rfl⟩
  obtain ⟨sh, hsh⟩ : ∃ k, Hid (Sf.shape op (ts.map Ten.look) = k) := ⟨_, hide rfl⟩
  obtain ⟨kd, hkd⟩ : ∃ k, Hid (Sf.kind op (ts.map Ten.look) = k) := ⟨_, hide rfl⟩
  obtain ⟨R, hRR⟩ : ∃ k, Hid (Tens.first ts = k) := ⟨_, hide rfl⟩
  obtain ⟨nt, hnt⟩ : ∃ n, Hid (ts.length = n) := ⟨_, hide rfl⟩
  rw [hK.out, hsh.out, hkd.out] at HRe HK
  rw [hK.out, hRR.out] at HF0 HF1
  rw [hRR.out] at hfc HV
  rw [hnt.out] at HV HRe ⊢
  rw [hK.out, hsh.out, hkd.out]
  have HW := hide hW0
  clear hR hI hl hE hW0 hK hsh hkd hop
  go_enter Tryd.func76, Tryd.ntmps76
  go_wp2_with fail
  rw [← HW.out]
  clear HW
  refine HV.out.mono ?_
  rintro e w1 ⟨⟨v, x, rfl, h1, h2⟩, hb⟩
  have hz0l := HZ.out.lt
  have hws := hb.size
  replace HZ := hide (HZ.out.below hb HZ.out.lt)
  have HB1 := hide (HB0.out.trans (hb.mono HB0.out.size))
  clear hb HV HB0
  by_cases hf : R = (0, none)
  case neg =>
    obtain ⟨rfl, hx⟩ := h2 hf
    have hE := hx.errv hfc hf
    have hF := HF0.out hf
    have hor : ∀ {α : Type} (p q : α), Cel.or ts K p q = q := fun p q => by
      unfold Cel.or
      rw [hF, if_neg hf]
    have HO1 := hide (hor sh [])
    have HO2 := hide (hor kd false)
    have HFq := hide hF
    obtain ⟨z0, z1, zf0, zf1, HZf, HFf⟩ := elm_two HZ.out HB1.out (Nat.le_refl _) (.slice none 0 0) (.bool false)
    have HXX := hide (hx.fart2 HZ.out (by decide) (.slice none 0 0) (.bool false))
    have r1 := run_neqerr hE
    have r2 := run_neqguard hE
    clear hf hx hfc hE hF hor HRe HF0 HF1 HK h1 h2
    go_wp2_with fail
    refine bodyPost_ret (results_desc rfl _ _ w.heap.size _ _ rfl HZf.out) rfl ?_
    refine ⟨⟨⟨none, [], 0, false⟩, x, rfl, ⟨Ri.nil _ _, by simp⟩, (fun ad h => by cases h), HO1.out.symm, HO2.out.symm, ?_⟩, HFf.out⟩
    rw [HFq.out]
    exact HXX.out
  case pos =>
    subst hf
    obtain ⟨rfl, ho⟩ := h1 rfl
    obtain ⟨C, cc, rfl, hrow, -⟩ := own_row2 ho
    have hF := HF1.out rfl
    have HFq := hide hF
    have HC := hide (HRe.out w1 C cc HB1.out hrow)
    clear hfc hF HF0 HF1 h1 h2 ho hrow HRe
    go_wp2_with fail
    refine (HC.out).mono ?_
    rintro e w2 ⟨⟨d, rfl, hdi, hdf, hdz, hdu⟩, hb⟩
    have hB2 := HB1.out.trans (hb.mono HB1.out.size)
    have hZ2 := HZ.out.below hb HZ.out.lt
    obtain ⟨z0, z1, zf0, zf1, HZf, HFf⟩ := elm_two hZ2 hB2 (Nat.le_refl _) (.slice d.P d.zs.length d.cap) (.bool d.u)
    have HDI := hide (hdi.far2 (b := w.heap.size) hdf (by omega) (.slice d.P d.zs.length d.cap) (.bool d.u))
    have HDF := hide (hdf.le (m := w.heap.size + 1) (by omega))
    have HDZ := hide hdz
    have HDU := hide hdu
    clear hb hdi hdf hdz hdu hB2 hZ2
    go_wp2_with fail
    refine bodyPost_ret (results_desc rfl _ _ w.heap.size _ _ rfl HZf.out) rfl ?_
    refine ⟨⟨d, _, rfl, HDI.out, HDF.out, ?_, ?_, ?_⟩, HFf.out⟩
    · unfold Cel.or
      rw [HFq.out, HDZ.out]
      by_cases h : K = 0
      · rw [if_pos (by rw [h])]
      · rw [if_neg (fun hh => h (congrArg Prod.fst hh)), (HK.out h).1]
    · unfold Cel.or
      rw [HFq.out, HDU.out]
      by_cases h : K = 0
      · rw [if_pos (by rw [h])]
      · rw [if_neg (fun hh => h (congrArg Prod.fst hh)), (HK.out h).2]
    · rw [HFq.out]
      exact TErr.code K
set_option maxRecDepth 100000 in
set_option maxHeartbeats 8000000 in
theorem sdo_c (op : Int) (hop : Sf.isOp op) (ts : List Ten) (B : Option Addr) (cap : Nat) (ah am ar : Addr) (w : World) (hR : Row w B (ts.flatMap Ten.vals)) (hI : ∀ t ∈ ts, t.In w) (hd : ∀ t ∈ ts, t.ds.length ≤ t.dcap) (hl : ts.length ≤ 1000000) (hE : E3 w ah am ar) :
    Calls Tryd.prog 75 #[.int .i64 op, .slice B ts.length cap] w
      (TenE w ah am ar (Cel.fault ts (Sf.code op (ts.map Ten.look))) (Sf.shape op (ts.map Ten.look)) (Sf.kind op (ts.map Ten.look)) (Sf.ds op ts)) := by
  obtain ⟨W0, hW0⟩ : ∃ W, W = w.alloc (.cells #[.slice none 0 0, .bool false, .slice none 0 0] 26) := ⟨_, rfl⟩
  have HZ : Hid (Has W0 w.heap.size 26 [.slice none 0 0, .bool false, .slice none 0 0]) := hide (by rw [hW0]; exact Has.new _ _ _)
  have HB0 : Hid (Below w.heap.size w W0) := hide (by rw [hW0]; exact (Below.refl _ _).alloc (Nat.le_refl _) _)
  have HV := hide (slookof_c op hop ts B cap ah am ar W0 (hR.below HB0.out) (fun t ht => (hI t ht).below HB0.out) hl (hE.below HB0.out))
  have HFi : Hid (Cel.fault ts (Sf.code op (ts.map Ten.look)) = (0, none) → (∀ z ∈ Sf.ds op ts, (Lit.int .i64 z).wf = true) ∧ (Sf.ds op ts).length ≤ 16384 ∧ ∀ (P : Option Addr) (c : Nat) (u : Bool) W, Below w.heap.size w W → Ri W P (Sf.shape op (ts.map Ten.look)) → Calls Tryd.prog 78 #[.agg (dcells P (Sf.shape op (ts.map Ten.look)).length c u), .int .i64 op, .slice none 0 0, .slice B ts.length cap] W fun e w' => (∃ g, e = .returned (.agg (tcells P (Sf.shape op (ts.map Ten.look)).length c u (some ⟨g, 0, none⟩) (Sf.ds op ts).length (Sf.ds op ts).length)) ∧ W.heap.size < g ∧ Has w' g 3 (i64s (Sf.ds op ts))) ∧ Below W.heap.size W w') := hide (fun h => by
    have hf := Sf.fine hop hd h
    refine ⟨Sf.part_wf 0 _ (fun i hi => by rw [Nat.zero_add]; exact hf.wf i hi), by rw [Sf.ds_length]; exact (Sf.size_le hf).1, fun P c u W hb hr => sfall_c op ts hf P _ rfl c u none B 0 0 cap am ar W hr (hE.2.below hb) (hR.below hb) (fun t ht => (hI t ht).below hb)⟩)
  have hfc := Cel.fault_cases (ts := ts) (Sf.code_known op (ts.map Ten.look))
  obtain ⟨K, hK⟩ : ∃ k, Hid (Sf.code op (ts.map Ten.look) = k) := ⟨_, hide rfl⟩
  obtain ⟨sh, hsh⟩ : ∃ k, Hid (Sf.shape op (ts.map Ten.look) = k) := ⟨_, hide rfl⟩
  obtain ⟨kd, hkd⟩ : ∃ k, Hid (Sf.kind op (ts.map Ten.look) = k) := ⟨_, hide rfl⟩
  obtain ⟨ds, hds⟩ : ∃ k, Hid (Sf.ds op ts = k) := ⟨_, hide rfl⟩
  obtain ⟨F, hF⟩ : ∃ k, Hid (Cel.fault ts (Sf.code op (ts.map Ten.look)) = k) := ⟨_, hide rfl⟩
  obtain ⟨nt, hnt⟩ : ∃ n, Hid (ts.length = n) := ⟨_, hide rfl⟩
  have hor : ∀ {α : Type} (p q : α), Cel.or ts K p q = if F = (0, none) then p else q := fun p q => by
    unfold Cel.or
    rw [← hK.out, hF.out]
  unfold LookE at HV
  rw [hF.out, hK.out, hsh.out, hkd.out, hor, hor] at HV
  rw [hF.out, hsh.out, hds.out] at HFi
  rw [hF.out] at hfc
  rw [hnt.out] at HV HFi ⊢
  rw [hF.out, hsh.out, hkd.out, hds.out]
  have HW := hide hW0
  clear hR hI hd hl hE hW0 hK hsh hkd hds hop hor hF hnt
  go_enter Tryd.func75, Tryd.ntmps75
  go_wp2_with fail
  rw [← HW.out]
  clear HW
  refine HV.out.mono ?_
  rintro e w1 ⟨⟨d, x, rfl, hdi, hdf, hdz, hdu, hx⟩, hb⟩
  have hz0l := HZ.out.lt
  have hsz0 := hb.size
  replace HZ := hide (HZ.out.below hb HZ.out.lt)
  have HB1 := hide (HB0.out.trans (hb.mono HB0.out.size))
  have hzl := HZ.out.lt
  clear hb HV HB0
  have hdx := HZ.out.alloc (.cells #[.slice d.P d.zs.length d.cap, .bool d.u] 24)
  have hbx := HB1.out.alloc HB1.out.size (.cells #[.slice d.P d.zs.length d.cap, .bool d.u] 24)
  by_cases hf : F = (0, none)
  case neg =>
    have hE := hx.errv hfc hf
    obtain ⟨y0, y1, y2, yf0, yf1, yf2, HZp, HFp⟩ := elm_three HZ.out HB1.out (Nat.le_refl _) (.slice none 0 0) (.bool false) (.slice none 0 0)
    obtain ⟨z0, z1, z2, zf0, zf1, zf2, HZf, HFf⟩ := elm_three hdx hbx (Nat.le_refl _) (.slice none 0 0) (.bool false) (.slice none 0 0)
    have HZq := hide (HZp.out.alloc (.cells #[.slice d.P d.zs.length d.cap, .bool d.u] 24))
    have HFq := hide (HFp.out.alloc HFp.out.size (.cells #[.slice d.P d.zs.length d.cap, .bool d.u] 24))
    have HXX := hide ((hx.down ((Below.refl _ _).alloc (Nat.le_refl _) (.cells #[.slice d.P d.zs.length d.cap, .bool d.u] 24))).fart3 hdx (by decide) (.slice none 0 0) (.bool false) (.slice none 0 0))
    have HXY := hide ((hx.fart3 HZ.out (by decide) (.slice none 0 0) (.bool false) (.slice none 0 0)).down ((Below.refl _ _).alloc (Nat.le_refl _) (.cells #[.slice d.P d.zs.length d.cap, .bool d.u] 24)))
    have r1 := run_neqerr hE
    have r2 := run_neqguard hE
    have HN := hide hf
    clear hdi hdf hdz hdu hx hdx hbx hf hfc hE HFi
    go_wp2_with fail
    first
      | (refine bodyPost_ret (results_tn rfl _ _ w.heap.size _ _ _ rfl HZf.out) rfl ?_
         exact TenE.bad rfl HN.out HXX.out HFf.out)
      | (refine bodyPost_ret (results_tn rfl _ _ w.heap.size _ _ _ rfl HZq.out) rfl ?_
         exact TenE.bad rfl HN.out HXY.out HFq.out)
  case pos =>
    subst hf
    obtain ⟨hwf, hlen, hAll⟩ := HFi.out rfl
    rw [if_pos rfl] at hdz hdu
    obtain rfl : x = .nilIface := hx
    have hri := hdi.shp
    rw [hdz] at hri
    have hdzl : d.zs.length = sh.length := by rw [hdz]
    rw [hdzl, hdu] at hdx hbx ⊢
    obtain ⟨W2, hW2⟩ : ∃ W, W = w1.alloc (.cells #[.slice d.P sh.length d.cap, .bool kd] 24) := ⟨_, rfl⟩
    have hb2 : Below w1.heap.size w1 W2 := by rw [hW2]; exact (Below.refl _ _).alloc (Nat.le_refl _) _
    have hB2 := HB1.out.trans (hb2.mono HB1.out.size)
    have HAl := hide (hAll d.P d.cap kd W2 hB2 (hri.below hb2))
    have HZ2 := hide (HZ.out.below hb2 HZ.out.lt)
    have HB2 := hide hB2
    have HRI := hide (hri.below hb2)
    have HDF := hide hdf
    have HW2 := hide hW2
    have HWF := hide hwf
    have HLN := hide hlen
    have HSL := hide (show sh.length ≤ 1000000 by rw [← hdz]; exact hdi.ls)
    have HWS : Hid (w1.heap.size ≤ W2.heap.size) := hide hb2.size
    obtain ⟨nz, hnz⟩ : ∃ n, Hid (sh.length = n) := ⟨_, hide rfl⟩
    obtain ⟨nd, hnd⟩ : ∃ n, Hid (ds.length = n) := ⟨_, hide rfl⟩
    rw [hnz.out] at HAl HW2 ⊢
    rw [hnd.out] at HAl
    clear hdi hdf hdz hdx hbx hfc hri hW2 hb2 hB2 HFi hdzl HZ HB1 hAll hwf hlen
    go_wp2_with fail
    rw [← HW2.out]
    clear HW2
    refine HAl.out.mono ?_
    rintro e w3 ⟨⟨g, rfl, hg, hG⟩, hb⟩
    have hZ3 := HZ2.out.below hb HZ2.out.lt
    have hB3 := HB2.out.trans (hb.mono HB2.out.size)
    have hR3 := HRI.out.below hb
    obtain ⟨z0, z1, z2, zf0, zf1, zf2, HZf, HFf⟩ := elm_three hZ3 hB3 (Nat.le_refl _) (.slice d.P nz d.cap) (.bool kd) (.slice (some ⟨g, 0, none⟩) nd nd)
    have hdfr := HDF.out
    have hws := HWS.out
    have ht : Ten.In w3 ⟨d.P, sh, d.cap, kd, some ⟨g, 0, none⟩, ds, nd⟩ := ⟨hR3, hG.ri HWF.out, HSL.out, by have := HLN.out; show ds.length ≤ _; omega⟩
    have htf : Ten.Fresh (w.heap.size + 1) ⟨d.P, sh, d.cap, kd, some ⟨g, 0, none⟩, ds, nd⟩ := ⟨fun ad h => by have := hdfr ad h; omega, fun ad h => by cases h; show w.heap.size + 1 ≤ g; omega⟩
    have HT := hide (ht.far3 htf (.slice d.P nz d.cap) (.bool kd) (.slice (some ⟨g, 0, none⟩) nd nd))
    have HTF := hide htf
    have HGf := hide (((hG.far (p := ⟨w.heap.size, 0, none⟩) (by simp; omega) (.slice d.P nz d.cap)).far (p := ⟨w.heap.size, 1, none⟩) (by simp; omega) (.bool kd)).far (p := ⟨w.heap.size, 2, none⟩) (by simp; omega) (.slice (some ⟨g, 0, none⟩) nd nd))
    clear HAl hb hZ3 hB3 hR3 hG hdfr hws ht htf
    go_wp2_with fail
    refine bodyPost_ret (results_tn rfl _ _ w.heap.size _ _ _ rfl HZf.out) rfl ?_
    refine ⟨⟨⟨d.P, sh, d.cap, kd, some ⟨g, 0, none⟩, ds, nd⟩, .nilIface, ?_, HT.out, HTF.out, rfl, rfl, rfl, rfl, fun _ => ⟨g, rfl, hnd.out.symm, HGf.out⟩⟩, HFf.out⟩
    show _ = Ending.returned (.tuple #[.agg (tcells d.P sh.length d.cap kd (some ⟨g, 0, none⟩) ds.length nd), .nilIface])
    rw [hnz.out, hnd.out]
    rfl
end Go.Proofs.YtcgjnjchkachdaaDoor
