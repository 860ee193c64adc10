/-
  The law TensSays, walked. By an AI agent. No person has read it.
-/
import Derived.Test.YtnbjcdmiehnceaaDoorTenSay0
namespace Go.Proofs.YtnbjcdmiehnceaaDoor
open Go.RowKit

set_option maxRecDepth 100000 in
set_option maxHeartbeats 8000000 in
theorem tsays_B (es : List Addr) (ah am ar : Addr) (hah : es[0]? = some ah) (ham : es[3]? = some am) (har : es[1]? = some ar) (zs ds ys : List Int) (P D Q : Option Addr) (cap dcap capq : Nat) (u : Bool) (q : Int) (w : World) (hr : Ri w P zs) (hd : Ri w D ds) (hq : Ri w Q ys) (hm : zs.length ≤ 8) (hdm : ds.length ≤ 300) (hym : ys.length ≤ 8) (hZ : Ez w es) (hE : E3 w ah am ar) (hA : Tens.fault zs u ds ≠ (0, none)) :
    Calls Tryd.prog 8 #[.agg (tcells P zs.length cap u D ds.length dcap), .slice Q ys.length capq, .int .i64 q] w fun e w' => e = .returned (.bool true) ∧ Below w.heap.size w w' := by
  have hb0 := (Below.refl _ w).alloc (Nat.le_refl _) (Obj.cells (tcells P zs.length cap u D ds.length dcap) 53)
  have HF := hide (first6_c ah am ar _ (hE.below hb0))
  have hT := tens_row w P zs.length cap u D ds.length dcap
  have hB := hb0
  replace hZ := hZ.below hb0
  replace hE := hE.below hb0
  have HWT := hide (fun W => worldtensor_c P D zs.length cap ds.length dcap u W)
  have HRT := hide (fun W (hb : Below w.heap.size w W) => rtensor_c zs ds P D cap dcap u W (hr.below hb) (hd.below hb) (by omega) (by omega))
  have HRV := hide (fun W (hb : Below w.heap.size w W) => rvalid_c zs ds P D cap dcap u W (hr.below hb) (hd.below hb) (by omega) (by omega))
  have HNew := hide (fun W (hb : Below w.heap.size w W) (h : E3 W ah am ar) => tnew_c zs ds P D cap dcap u ah am ar W (hr.below hb) (hd.below hb) (by omega) (by omega) h)
  have HVal := hide (fun W (hb : Below w.heap.size w W) (h : E3 W ah am ar) => tvalid_c zs ds P D cap dcap u ah am ar W (hr.below hb) (hd.below hb) (by omega) (by omega) h)
  have hcs := Tens.fault_cases zs u ds
  have HSame := hide (fun v W (h : Ez W es) (ht : TErr W ah am ar v (Tens.fault zs u ds)) => same_terr hah ham har v (Tens.fault zs u ds) hcs W h ht)
  have HSt := hide (fun W g c rest gd cd rd (hb : Below w.heap.size w W) (h1 : Has W g 3 (i64s zs ++ rest)) (h2 : Has W gd 3 (i64s ds ++ rd)) => sametensor_c zs zs ds ds P (some ⟨g, 0, none⟩) D (some ⟨gd, 0, none⟩) cap c dcap cd u u W (hr.below hb) (h1.ri_app hr.1) (hd.below hb) (h2.ri_app hd.1) (by omega) (by omega) (by omega) (by omega))
  have HSu := hide (fun W g c rest gd cd rd (hb : Below w.heap.size w W) (h1 : Has W g 3 (i64s zs ++ rest)) (h2 : Has W gd 3 (i64s ds ++ rd)) => sametensor_c zs zs ds ds (some ⟨g, 0, none⟩) P (some ⟨gd, 0, none⟩) D c cap cd dcap u u W (h1.ri_app hr.1) (hr.below hb) (h2.ri_app hd.1) (hd.below hb) (by omega) (by omega) (by omega) (by omega))
  have HGet := hide (fun W (hb : Below w.heap.size w W) (h : E3 W ah am ar) => tget_c zs ds ys P D Q cap dcap capq u ah am ar W (hr.below hb) (hd.below hb) (hq.below hb) (by omega) (by omega) (by omega) h)
  have HIdx := hide (fun W (hb : Below w.heap.size w W) => refindex_c zs ys P Q cap capq W (hr.below hb) (hq.below hb) (by omega) (by omega))
  have HVd := hide (fun W (hb : Below w.heap.size w W) => refvalid_c zs P cap u W (hr.below hb) (by omega))
  have HZero := hide (fun W (hb : Below w.heap.size w W) (h : E3 W ah am ar) => tzero_c zs P cap u am ar W (hr.below hb) (by omega) h.2)
  have HRZ := hide (fun W (hb : Below w.heap.size w W) => rzero_c zs P cap u W (hr.below hb) (by omega))
  have hEl := Shp.elems_le zs
  have hzwf : ∀ z ∈ List.replicate (Shp.elems zs).toNat (0 : Int), (Lit.int .i64 z).wf = true := fun z hz => by rw [(List.mem_replicate.1 hz).2]; decide
  have HSz := hide (fun W g c rest g' c' rest' gd gd' (h1 : Has W g 3 (i64s zs ++ rest)) (h1' : Has W g' 3 (i64s zs ++ rest')) (h2 : Has W gd 3 (i64s (List.replicate (Shp.elems zs).toNat 0))) (h2' : Has W gd' 3 (i64s (List.replicate (Shp.elems zs).toNat 0))) => sametensor_c zs zs (List.replicate (Shp.elems zs).toNat 0) (List.replicate (Shp.elems zs).toNat 0) (some ⟨g, 0, none⟩) (some ⟨g', 0, none⟩) (some ⟨gd, 0, none⟩) (some ⟨gd', 0, none⟩) c c' (Shp.elems zs).toNat (Shp.elems zs).toNat u u W (h1.ri_app hr.1) (h1'.ri_app hr.1) (h2.ri hzwf) (h2'.ri hzwf) (by omega) (by omega) (by rw [List.length_replicate]; omega) (by rw [List.length_replicate]; omega))
  have HIs := hide (fun W (h : Ez W es) => is_shp ham har (Shp.code zs) (Shp.code_is zs) W h)
  have e1 : ((decide (zs = zs) && (u == u)) && decide (ds = ds)) = true := by simp
  have e2 : (decide (zs.length ≤ 8) && decide (ds.length ≤ 300)) = true := by simp [hm, hdm]
  have e3 : ((decide (zs = zs) && (u == u)) && decide (List.replicate (Shp.elems zs).toNat (0 : Int) = List.replicate (Shp.elems zs).toNat 0)) = true := by simp
  rw [e1] at HSt HSu
  rw [e2] at HWT
  rw [e3, List.length_replicate] at HSz
  have HD := hide hd
  have HLt := hide (Shp.index_lt zs ys)
  obtain ⟨M, hMM⟩ : ∃ M, Hid ((Shp.elems zs).toNat = M) := ⟨_, hide rfl⟩
  rw [hMM.out] at HZero HRZ HSz
  clear e1 e2 e3 hb0 hzwf hEl hr hd hq hMM
  obtain ⟨n, hn⟩ : ∃ n, Hid (zs.length = n) := ⟨_, hide rfl⟩
  obtain ⟨m, hm'⟩ : ∃ m, Hid (ds.length = m) := ⟨_, hide rfl⟩
  obtain ⟨l, hl'⟩ : ∃ l, Hid (ys.length = l) := ⟨_, hide rfl⟩
  rw [hn.out] at HWT HRT HRV HNew HVal HSt HSu HGet HIdx HVd HZero HRZ HSz hm
  rw [hm'.out] at HWT HRT HRV HNew HVal HSt HSu HGet hdm
  rw [hl'.out] at HGet HIdx hym
  rw [hn.out, hm'.out] at hB
  rw [hn.out, hm'.out] at hT
  rw [hn.out, hm'.out] at HF
  rw [hn.out, hm'.out] at hZ
  rw [hn.out, hm'.out] at hE
  rw [hn.out, hm'.out, hl'.out]
  have hl8 : (l : Int) ≤ 8 := by omega
  obtain ⟨w0, hw0⟩ : ∃ w0, Hid (w.alloc (Obj.cells (tcells P n cap u D m dcap) 53) = w0) := ⟨_, hide rfl⟩
  rw [hw0.out] at hB hT HF hZ hE
  obtain ⟨R, hR⟩ : ∃ R, Hid (Tens.fault zs u ds = R) := ⟨_, hide rfl⟩
  obtain ⟨k, hk⟩ : ∃ k, Hid (Shp.code zs = k) := ⟨_, hide rfl⟩
  rw [hR.out] at HRV HNew HVal HSame hcs hA
  obtain ⟨G, hG⟩ : ∃ G, Hid (Tens.get zs u ds ys = G) := ⟨_, hide rfl⟩
  obtain ⟨O, hO⟩ : ∃ O, Hid (Shp.index zs ys = O) := ⟨_, hide rfl⟩
  have hGe : Hid (G = if Tens.fault zs u ds = (0, none) then O.bind (fun r => ds[r.toNat]?) else none) := hide (by rw [← hG.out, ← hO.out]; rfl)
  rw [hR.out] at hGe
  rw [hG.out] at HGet
  rw [hO.out] at HIdx HLt
  have hk0 : R = (0, none) → k = 0 := fun h => by rw [← hk.out]; exact Tens.fault_zero (hR.out.trans h)
  have hmE : R = (0, none) → (m : Int) = Shp.elems zs := fun h => by rw [← hm'.out]; exact (Tens.fine (hR.out.trans h)).2.2.1
  have hR1 : R ≠ (0, none) → R.1 ≠ 0 := fun h h1 => h (by rcases hcs with h2 | h2 | h2 | h2 | ⟨i, h2⟩ <;> rw [h2] at h1 ⊢ <;> simp at h1)
  rw [hk.out] at HVd HZero HIs
  obtain ⟨p, i0, hfv⟩ := fval_code R.1 R.2
  replace hfv : Tens.fval R = gcells (R.1 : Int) p i0 := hfv
  obtain ⟨rc, hrc⟩ : ∃ rc, Hid ((R.1 : Int) = rc) := ⟨_, hide rfl⟩
  rw [hrc.out] at hfv
  rw [hfv] at HRV HSame
  have HG1 := hide hk0
  have HG2 := hide hmE
  have HG3 := hide hR1
  have HA := hide hA
  have HCS := hide hcs
  clear hk0 hmE hR1 hcs hA
  have HP := hide (Nat.le_refl 0)
  go_enter Tryd.func8, Tryd.ntmps8
  go_wp2_with fail
  have hw0' := hw0.out
  rw [hw0']
  clear hw0 hw0' hfv HP
  refine HF.out.mono ?_
  rintro e w1 ⟨rfl, hb⟩
  replace hT := hT.below hb hT.lt
  replace hB := hB.trans (hb.mono hB.size)
  replace hZ := hZ.below hb
  replace hE := hE.below hb
  clear hb HF
  have c0 : (w1).cell? ⟨w.heap.size, 0, none⟩ = some (.slice P n cap) := by rw [hT.cell]; rfl
  have c1 : (w1).cell? ⟨w.heap.size, 1, none⟩ = some (.bool u) := by rw [hT.cell]; rfl
  have c2 : (w1).cell? ⟨w.heap.size, 2, none⟩ = some (.slice D m dcap) := by rw [hT.cell]; rfl
  go_wp2_with fail
  refine (HWT.out w1).mono ?_
  rintro e w2 ⟨rfl, hb⟩
  clear c0 c1 c2
  replace hT := hT.below hb hT.lt
  replace hB := hB.trans (hb.mono hB.size)
  replace hZ := hZ.below hb
  replace hE := hE.below hb
  clear hb HWT
  have c0 : (w2).cell? ⟨w.heap.size, 0, none⟩ = some (.slice P n cap) := by rw [hT.cell]; rfl
  have c1 : (w2).cell? ⟨w.heap.size, 1, none⟩ = some (.bool u) := by rw [hT.cell]; rfl
  have c2 : (w2).cell? ⟨w.heap.size, 2, none⟩ = some (.slice D m dcap) := by rw [hT.cell]; rfl
  go_wp2_with fail
  refine (HRT.out w2 hB).mono ?_
  rintro e w3 ⟨⟨g1, cc1, r1, gd1, cd1, rd1, rfl, hg1, hd1⟩, hb⟩
  clear c0 c1 c2
  replace hT := hT.below hb hT.lt
  replace hB := hB.trans (hb.mono hB.size)
  replace hZ := hZ.below hb
  replace hE := hE.below hb
  clear hb HRT
  have hw : Has (w3.alloc (Obj.cells #[.slice (some ⟨g1, 0, none⟩) n cc1, .bool u, .slice (some ⟨gd1, 0, none⟩) m cd1] 53)) w3.heap.size 53 [.slice (some ⟨g1, 0, none⟩) n cc1, .bool u, .slice (some ⟨gd1, 0, none⟩) m cd1] := Has.new w3 _ _
  have hal := (Below.refl w3.heap.size w3).alloc (Nat.le_refl _) (Obj.cells #[.slice (some ⟨g1, 0, none⟩) n cc1, .bool u, .slice (some ⟨gd1, 0, none⟩) m cd1] 53)
  replace hT := hT.alloc (Obj.cells #[.slice (some ⟨g1, 0, none⟩) n cc1, .bool u, .slice (some ⟨gd1, 0, none⟩) m cd1] 53)
  replace hg1 := hg1.alloc (Obj.cells #[.slice (some ⟨g1, 0, none⟩) n cc1, .bool u, .slice (some ⟨gd1, 0, none⟩) m cd1] 53)
  replace hd1 := hd1.alloc (Obj.cells #[.slice (some ⟨g1, 0, none⟩) n cc1, .bool u, .slice (some ⟨gd1, 0, none⟩) m cd1] 53)
  replace hB := hB.alloc hB.size (Obj.cells #[.slice (some ⟨g1, 0, none⟩) n cc1, .bool u, .slice (some ⟨gd1, 0, none⟩) m cd1] 53)
  replace hZ := hZ.below hal
  replace hE := hE.below hal
  clear hal
  have c0 : (w3.alloc (Obj.cells #[.slice (some ⟨g1, 0, none⟩) n cc1, .bool u, .slice (some ⟨gd1, 0, none⟩) m cd1] 53)).cell? ⟨w.heap.size, 0, none⟩ = some (.slice P n cap) := by rw [hT.cell]; rfl
  have c1 : (w3.alloc (Obj.cells #[.slice (some ⟨g1, 0, none⟩) n cc1, .bool u, .slice (some ⟨gd1, 0, none⟩) m cd1] 53)).cell? ⟨w.heap.size, 1, none⟩ = some (.bool u) := by rw [hT.cell]; rfl
  have c2 : (w3.alloc (Obj.cells #[.slice (some ⟨g1, 0, none⟩) n cc1, .bool u, .slice (some ⟨gd1, 0, none⟩) m cd1] 53)).cell? ⟨w.heap.size, 2, none⟩ = some (.slice D m dcap) := by rw [hT.cell]; rfl
  go_wp2_with fail
  generalize w3.alloc (Obj.cells #[.slice (some ⟨g1, 0, none⟩) n cc1, .bool u, .slice (some ⟨gd1, 0, none⟩) m cd1] 53) = W3 at *
  generalize w3.heap.size = Bw at *
  refine (HRV.out W3 hB).mono ?_
  rintro e w4 ⟨rfl, hb⟩
  clear c0 c1 c2
  replace hT := hT.below hb hT.lt
  replace hg1 := hg1.below hb hg1.lt
  replace hd1 := hd1.below hb hd1.lt
  replace hw := hw.below hb hw.lt
  replace hB := hB.trans (hb.mono hB.size)
  replace hZ := hZ.below hb
  replace hE := hE.below hb
  clear hb HRV
  have hf : Has (w4.alloc (Obj.cells #[.int .i64 rc, .bool p, .int .i64 i0] 57)) w4.heap.size 57 [.int .i64 rc, .bool p, .int .i64 i0] := Has.new w4 _ _
  have hal := (Below.refl w4.heap.size w4).alloc (Nat.le_refl _) (Obj.cells #[.int .i64 rc, .bool p, .int .i64 i0] 57)
  replace hT := hT.alloc (Obj.cells #[.int .i64 rc, .bool p, .int .i64 i0] 57)
  replace hg1 := hg1.alloc (Obj.cells #[.int .i64 rc, .bool p, .int .i64 i0] 57)
  replace hd1 := hd1.alloc (Obj.cells #[.int .i64 rc, .bool p, .int .i64 i0] 57)
  replace hw := hw.alloc (Obj.cells #[.int .i64 rc, .bool p, .int .i64 i0] 57)
  replace hB := hB.alloc hB.size (Obj.cells #[.int .i64 rc, .bool p, .int .i64 i0] 57)
  replace hZ := hZ.below hal
  replace hE := hE.below hal
  clear hal
  have c0 : (w4.alloc (Obj.cells #[.int .i64 rc, .bool p, .int .i64 i0] 57)).cell? ⟨w.heap.size, 0, none⟩ = some (.slice P n cap) := by rw [hT.cell]; rfl
  have c1 : (w4.alloc (Obj.cells #[.int .i64 rc, .bool p, .int .i64 i0] 57)).cell? ⟨w.heap.size, 1, none⟩ = some (.bool u) := by rw [hT.cell]; rfl
  have c2 : (w4.alloc (Obj.cells #[.int .i64 rc, .bool p, .int .i64 i0] 57)).cell? ⟨w.heap.size, 2, none⟩ = some (.slice D m dcap) := by rw [hT.cell]; rfl
  go_wp2_with fail
  generalize w4.alloc (Obj.cells #[.int .i64 rc, .bool p, .int .i64 i0] 57) = W4 at *
  generalize w4.heap.size = Bf at *
  refine (HNew.out W4 hB hE).mono ?_
  rintro e w5 ⟨-, hn1, hb⟩
  obtain ⟨v5, rfl, ht5⟩ := hn1 HA.out
  clear hn1
  clear c0 c1 c2
  replace hT := hT.below hb hT.lt
  replace hg1 := hg1.below hb hg1.lt
  replace hd1 := hd1.below hb hd1.lt
  replace hw := hw.below hb hw.lt
  replace hf := hf.below hb hf.lt
  replace hB := hB.trans (hb.mono hB.size)
  replace hZ := hZ.below hb
  replace hE := hE.below hb
  clear hb HNew
  have hu : Has (w5.alloc (Obj.cells #[.slice none 0 0, .bool false, .slice none 0 0] 53)) w5.heap.size 53 [.slice none 0 0, .bool false, .slice none 0 0] := Has.new w5 _ _
  have hal := (Below.refl w5.heap.size w5).alloc (Nat.le_refl _) (Obj.cells #[.slice none 0 0, .bool false, .slice none 0 0] 53)
  replace hT := hT.alloc (Obj.cells #[.slice none 0 0, .bool false, .slice none 0 0] 53)
  replace hg1 := hg1.alloc (Obj.cells #[.slice none 0 0, .bool false, .slice none 0 0] 53)
  replace hd1 := hd1.alloc (Obj.cells #[.slice none 0 0, .bool false, .slice none 0 0] 53)
  replace hw := hw.alloc (Obj.cells #[.slice none 0 0, .bool false, .slice none 0 0] 53)
  replace hf := hf.alloc (Obj.cells #[.slice none 0 0, .bool false, .slice none 0 0] 53)
  replace hB := hB.alloc hB.size (Obj.cells #[.slice none 0 0, .bool false, .slice none 0 0] 53)
  replace hZ := hZ.below hal
  replace hE := hE.below hal
  replace ht5 := ht5.below hal
  clear hal
  obtain ⟨W5, hW5⟩ : ∃ W5, Hid (w5.alloc (Obj.cells #[.slice none 0 0, .bool false, .slice none 0 0] 53) = W5) := ⟨_, hide rfl⟩
  rw [hW5.out] at hB hZ hE ht5 hT hg1 hd1 hw hf hu
  have c0 : (W5).cell? ⟨w.heap.size, 0, none⟩ = some (.slice P n cap) := by rw [hT.cell]; rfl
  have c1 : (W5).cell? ⟨w.heap.size, 1, none⟩ = some (.bool u) := by rw [hT.cell]; rfl
  have c2 : (W5).cell? ⟨w.heap.size, 2, none⟩ = some (.slice D m dcap) := by rw [hT.cell]; rfl
  have s0 : (W5).cell? ⟨Bw, 0, none⟩ = some (.slice (some ⟨g1, 0, none⟩) n cc1) := by rw [hw.cell]; rfl
  have s1 : (W5).cell? ⟨Bw, 1, none⟩ = some (.bool u) := by rw [hw.cell]; rfl
  have s2 : (W5).cell? ⟨Bw, 2, none⟩ = some (.slice (some ⟨gd1, 0, none⟩) m cd1) := by rw [hw.cell]; rfl
  have k0 : (W5).cell? ⟨Bf, 0, none⟩ = some (.int .i64 rc) := by rw [hf.cell]; rfl
  have k1 : (W5).cell? ⟨Bf, 1, none⟩ = some (.bool p) := by rw [hf.cell]; rfl
  have k2 : (W5).cell? ⟨Bf, 2, none⟩ = some (.int .i64 i0) := by rw [hf.cell]; rfl
  have hS0 : SayS w.heap.size Bw Bf W5 (.slice P n cap) (.bool u) (.slice D m dcap) (.slice (some ⟨g1, 0, none⟩) n cc1) (.bool u) (.slice (some ⟨gd1, 0, none⟩) m cd1) (.int .i64 rc) (.bool p) (.int .i64 i0) W5.drew := ⟨c0, c1, c2, s0, s1, s2, k0, k1, k2, hide (Below.refl _ W5).drew⟩
  clear c0 c1 c2 s0 s1 s2 k0 k1 k2
  have HR1 := hide (fun W (hb : Below W5.heap.size W5 W) => HVal.out W (hB.trans (hb.mono hB.size)) (hE.below hb))
  have HR2 := hide (fun v W (hb : Below W5.heap.size W5 W) (ht : TErr W ah am ar v R) => HSame.out v W (hZ.below hb) ht)
  have HR3 := hide (fun W (hb : Below W5.heap.size W5 W) => HSame.out (v5) W (hZ.below hb) (ht5.below hb))
  have HR4 := hide (fun W (hb : Below W5.heap.size W5 W) => HSt.out W g1 cc1 r1 gd1 cd1 rd1 (hB.trans (hb.mono hB.size)) (hg1.below hb hg1.lt) (hd1.below hb hd1.lt))
  have HBX := hide hB
  have HZX := hide hZ
  have HEX := hide hE
  have H_hT := hide hT
  have H_hg1 := hide hg1
  have H_hd1 := hide hd1
  have H_hw := hide hw
  have H_hf := hide hf
  have H_hu := hide hu
  clear hB hZ hE ht5 HVal HSame HSt hT hg1 hd1 hw hf hu
  go_wp2_with fail
  have hW5' := hW5.out
  rw [hW5']
  clear hW5 hW5'
  go_region_held3 (fun W => W.cell? ⟨w.heap.size, 0, none⟩ = some (.slice P n cap) ∧ W.cell? ⟨w.heap.size, 1, none⟩ = some (.bool u) ∧ W.cell? ⟨w.heap.size, 2, none⟩ = some (.slice D m dcap) ∧ W.cell? ⟨Bw, 0, none⟩ = some (.slice (some ⟨g1, 0, none⟩) n cc1) ∧ W.cell? ⟨Bw, 1, none⟩ = some (.bool u) ∧ W.cell? ⟨Bw, 2, none⟩ = some (.slice (some ⟨gd1, 0, none⟩) m cd1) ∧ W.cell? ⟨Bf, 0, none⟩ = some (.int .i64 rc) ∧ W.cell? ⟨Bf, 1, none⟩ = some (.bool p) ∧ W.cell? ⟨Bf, 2, none⟩ = some (.int .i64 i0) ∧ Hid (Below W5.heap.size W5 W))
    (first | exact hS0 | assumption | exact SayS.keep (by assumption) hb)
    (first
      | (go_at_call 44; refine (HR1.out _ (SayS.low (by assumption))).mono ?_; rintro e W6 ⟨⟨v6, rfl, ht6⟩, hb⟩)
      | (go_at_call 43; refine (HR2.out v6 _ (SayS.low (by assumption)) ht6).mono ?_; clear ht6; rintro e W7 ⟨rfl, hb⟩)
      | (go_at_call 43; refine (HR3.out _ (SayS.low (by assumption))).mono ?_; rintro e W8 ⟨rfl, hb⟩)
      | (go_at_call 45; refine (HR4.out _ (SayS.low (by assumption))).mono ?_; rintro e W9 ⟨rfl, hb⟩))
  have hb9 := SayS.low (by assumption : SayS w.heap.size Bw Bf W5 (.slice P n cap) (.bool u) (.slice D m dcap) (.slice (some ⟨g1, 0, none⟩) n cc1) (.bool u) (.slice (some ⟨gd1, 0, none⟩) m cd1) (.int .i64 rc) (.bool p) (.int .i64 i0) W9)
  clear hb hS0 HR1 HR2 HR3 HR4
  have hB := HBX.out.trans (hb9.mono HBX.out.size)
  have hZ := HZX.out.below hb9
  have hE := HEX.out.below hb9
  have hT := H_hT.out.below hb9 H_hT.out.lt
  have hg1 := H_hg1.out.below hb9 H_hg1.out.lt
  have hd1 := H_hd1.out.below hb9 H_hd1.out.lt
  have hw := H_hw.out.below hb9 H_hw.out.lt
  have hf := H_hf.out.below hb9 H_hf.out.lt
  have hu := H_hu.out.below hb9 H_hu.out.lt
  clear hb9 HBX HZX HEX H_hT H_hg1 H_hd1 H_hw H_hf H_hu
  clear hw hg1 hd1
  have hrc0 : rc ≠ 0 := by rw [← hrc.out]; have := HG3.out HA.out; omega
  have hrc1 : (rc == 0) = false := by simpa using hrc0
  have hGe2 := hGe.out
  rw [if_neg HA.out] at hGe2
  subst hGe2
  clear hrc HG1 HG2 HG3 hGe HLt HIdx HSu
  have c0 : (W9).cell? ⟨w.heap.size, 0, none⟩ = some (.slice P n cap) := by rw [hT.cell]; rfl
  have c1 : (W9).cell? ⟨w.heap.size, 1, none⟩ = some (.bool u) := by rw [hT.cell]; rfl
  have c2 : (W9).cell? ⟨w.heap.size, 2, none⟩ = some (.slice D m dcap) := by rw [hT.cell]; rfl
  go_wp2_with fail
  refine (HGet.out W9 hB hE).mono ?_
  rintro e w10 ⟨rfl, hb⟩
  clear c0 c1 c2
  replace hT := hT.below hb hT.lt
  replace hf := hf.below hb hf.lt
  replace hu := hu.below hb hu.lt
  replace hB := hB.trans (hb.mono hB.size)
  replace hZ := hZ.below hb
  replace hE := hE.below hb
  clear hb HGet
  have c0 : (w10).cell? ⟨w.heap.size, 0, none⟩ = some (.slice P n cap) := by rw [hT.cell]; rfl
  have c1 : (w10).cell? ⟨w.heap.size, 1, none⟩ = some (.bool u) := by rw [hT.cell]; rfl
  have c2 : (w10).cell? ⟨w.heap.size, 2, none⟩ = some (.slice D m dcap) := by rw [hT.cell]; rfl
  have k0 : (w10).cell? ⟨Bf, 0, none⟩ = some (.int .i64 rc) := by rw [hf.cell]; rfl
  have k1 : (w10).cell? ⟨Bf, 1, none⟩ = some (.bool p) := by rw [hf.cell]; rfl
  have k2 : (w10).cell? ⟨Bf, 2, none⟩ = some (.int .i64 i0) := by rw [hf.cell]; rfl
  have s0 : (w10).cell? ⟨w5.heap.size, 0, none⟩ = some (.slice none 0 0) := by rw [hu.cell]; rfl
  have s1 : (w10).cell? ⟨w5.heap.size, 1, none⟩ = some (.bool false) := by rw [hu.cell]; rfl
  have s2 : (w10).cell? ⟨w5.heap.size, 2, none⟩ = some (.slice none 0 0) := by rw [hu.cell]; rfl
  go_wp2_with fail
  clear k0 k1 k2 s0 s1 s2
  clear hrc0 hrc1
  by_cases hkn : k = 0
  · subst hkn
    refine (HVd.out w10 hB).mono ?_
    rintro e w13 ⟨rfl, hb⟩
    clear c0 c1 c2
    replace hT := hT.below hb hT.lt
    replace hf := hf.below hb hf.lt
    replace hu := hu.below hb hu.lt
    replace hB := hB.trans (hb.mono hB.size)
    replace hZ := hZ.below hb
    replace hE := hE.below hb
    clear hb HVd
    have c0 : (w13).cell? ⟨w.heap.size, 0, none⟩ = some (.slice P n cap) := by rw [hT.cell]; rfl
    have c1 : (w13).cell? ⟨w.heap.size, 1, none⟩ = some (.bool u) := by rw [hT.cell]; rfl
    have c2 : (w13).cell? ⟨w.heap.size, 2, none⟩ = some (.slice D m dcap) := by rw [hT.cell]; rfl
    go_wp2_with fail
    refine (HZero.out w13 hB hE).mono ?_
    rintro e w14 ⟨hz1, -, hb⟩
    obtain ⟨g7, c7, r7, gd7, rfl, hg7, hd7⟩ := hz1 trivial
    clear hz1
    clear c0 c1 c2
    replace hT := hT.below hb hT.lt
    replace hf := hf.below hb hf.lt
    replace hu := hu.below hb hu.lt
    replace hB := hB.trans (hb.mono hB.size)
    replace hZ := hZ.below hb
    replace hE := hE.below hb
    clear hb HZero
    clear hf
    clear hu
    have hz : Has (w14.alloc (Obj.cells #[.slice (some ⟨g7, 0, none⟩) n c7, .bool u, .slice (some ⟨gd7, 0, none⟩) M M] 53)) w14.heap.size 53 [.slice (some ⟨g7, 0, none⟩) n c7, .bool u, .slice (some ⟨gd7, 0, none⟩) M M] := Has.new w14 _ _
    have hal := (Below.refl w14.heap.size w14).alloc (Nat.le_refl _) (Obj.cells #[.slice (some ⟨g7, 0, none⟩) n c7, .bool u, .slice (some ⟨gd7, 0, none⟩) M M] 53)
    replace hT := hT.alloc (Obj.cells #[.slice (some ⟨g7, 0, none⟩) n c7, .bool u, .slice (some ⟨gd7, 0, none⟩) M M] 53)
    replace hg7 := hg7.alloc (Obj.cells #[.slice (some ⟨g7, 0, none⟩) n c7, .bool u, .slice (some ⟨gd7, 0, none⟩) M M] 53)
    replace hd7 := hd7.alloc (Obj.cells #[.slice (some ⟨g7, 0, none⟩) n c7, .bool u, .slice (some ⟨gd7, 0, none⟩) M M] 53)
    replace hB := hB.alloc hB.size (Obj.cells #[.slice (some ⟨g7, 0, none⟩) n c7, .bool u, .slice (some ⟨gd7, 0, none⟩) M M] 53)
    replace hZ := hZ.below hal
    replace hE := hE.below hal
    clear hal
    obtain ⟨W14, hW14⟩ : ∃ W14, Hid (w14.alloc (Obj.cells #[.slice (some ⟨g7, 0, none⟩) n c7, .bool u, .slice (some ⟨gd7, 0, none⟩) M M] 53) = W14) := ⟨_, hide rfl⟩
    rw [hW14.out] at hB hZ hE hT hg7 hd7 hz
    have c0 : (W14).cell? ⟨w.heap.size, 0, none⟩ = some (.slice P n cap) := by rw [hT.cell]; rfl
    have c1 : (W14).cell? ⟨w.heap.size, 1, none⟩ = some (.bool u) := by rw [hT.cell]; rfl
    have c2 : (W14).cell? ⟨w.heap.size, 2, none⟩ = some (.slice D m dcap) := by rw [hT.cell]; rfl
    have s0 : (W14).cell? ⟨w14.heap.size, 0, none⟩ = some (.slice (some ⟨g7, 0, none⟩) n c7) := by rw [hz.cell]; rfl
    have s1 : (W14).cell? ⟨w14.heap.size, 1, none⟩ = some (.bool u) := by rw [hz.cell]; rfl
    have s2 : (W14).cell? ⟨w14.heap.size, 2, none⟩ = some (.slice (some ⟨gd7, 0, none⟩) M M) := by rw [hz.cell]; rfl
    have hS0 : ZerS w.heap.size w14.heap.size W14 (.slice P n cap) (.bool u) (.slice D m dcap) (.slice (some ⟨g7, 0, none⟩) n c7) (.bool u) (.slice (some ⟨gd7, 0, none⟩) M M) W14.drew := ⟨c0, c1, c2, s0, s1, s2, hide (Below.refl _ W14).drew⟩
    clear c0 c1 c2 s0 s1 s2
    rw [show Shp.err am ar 0 = .nilIface from rfl] at HIs
    have HR1 := hide (fun W (hb : Below W14.heap.size W14 W) => HIs.out W (hZ.below hb))
    have HR2 := hide (fun W (hb : Below W14.heap.size W14 W) => HRZ.out W (hB.trans (hb.mono hB.size)))
    have HR3 := hide (fun W g c rest gd (hb : Below W14.heap.size W14 W) (h1 : Has W g 3 (i64s zs ++ rest)) (h2 : Has W gd 3 (i64s (List.replicate M 0))) => HSz.out W g7 c7 r7 g c rest gd7 gd (hg7.below hb hg7.lt) h1 (hd7.below hb hd7.lt) h2)
    have HBX := hide hB
    have HZX := hide hZ
    have HEX := hide hE
    have H_hT := hide hT
    have H_hg7 := hide hg7
    have H_hd7 := hide hd7
    have H_hz := hide hz
    clear hB hZ hE HIs HRZ HSz hT hg7 hd7 hz
    go_wp2_with fail
    have hW14' := hW14.out
    rw [hW14']
    clear hW14 hW14'
    go_region_held3 (fun W => W.cell? ⟨w.heap.size, 0, none⟩ = some (.slice P n cap) ∧ W.cell? ⟨w.heap.size, 1, none⟩ = some (.bool u) ∧ W.cell? ⟨w.heap.size, 2, none⟩ = some (.slice D m dcap) ∧ W.cell? ⟨w14.heap.size, 0, none⟩ = some (.slice (some ⟨g7, 0, none⟩) n c7) ∧ W.cell? ⟨w14.heap.size, 1, none⟩ = some (.bool u) ∧ W.cell? ⟨w14.heap.size, 2, none⟩ = some (.slice (some ⟨gd7, 0, none⟩) M M) ∧ Hid (Below W14.heap.size W14 W))
      (first | exact hS0 | assumption | exact ZerS.keep (by assumption) hb)
      (first
        | (go_at_call 17; refine (HR1.out _ (ZerS.low (by assumption))).mono ?_; rintro e W15 ⟨rfl, hb⟩)
        | (go_at_call 48; refine (HR2.out _ (ZerS.low (by assumption))).mono ?_; rintro e W16 ⟨⟨g8, c8, r8, gd8, rfl, hg8, hd8⟩, hb⟩; have hk16 := ZerS.keep (by assumption) hb)
        | (go_at_call 45; refine (HR3.out _ g8 c8 r8 gd8 (ZerS.low hk16) hg8 hd8).mono ?_; rintro e W17 ⟨rfl, hb⟩))
    have hb9 := ZerS.low (by assumption : ZerS w.heap.size w14.heap.size W14 (.slice P n cap) (.bool u) (.slice D m dcap) (.slice (some ⟨g7, 0, none⟩) n c7) (.bool u) (.slice (some ⟨gd7, 0, none⟩) M M) W17)
    clear hb hS0 HR1 HR2 HR3 hg8 hd8 hk16
    have hB := HBX.out.trans (hb9.mono HBX.out.size)
    have hZ := HZX.out.below hb9
    have hE := HEX.out.below hb9
    have hT := H_hT.out.below hb9 H_hT.out.lt
    have hg7 := H_hg7.out.below hb9 H_hg7.out.lt
    have hd7 := H_hd7.out.below hb9 H_hd7.out.lt
    have hz := H_hz.out.below hb9 H_hz.out.lt
    clear hb9 HBX HZX HEX H_hT H_hg7 H_hd7 H_hz
    have hq3 : (q < -128 ∧ q ≤ 127 ∧ Tens.narrow q = -128) ∨ (127 < q ∧ -128 ≤ q ∧ Tens.narrow q = 127) ∨ (-128 ≤ q ∧ q ≤ 127 ∧ Tens.narrow q = q) := by unfold Tens.narrow; omega
    have HNr := hide (fun W => narrow_c q W)
    have HW1 := hide (fun W => wide_c q W)
    have HW2 := hide (fun W => rwide_c q W)
    obtain ⟨wq, hwq⟩ : ∃ wq, Hid (Tens.wide q = wq) := ⟨_, hide rfl⟩
    rw [hwq.out] at HW1 HW2
    have HFin := hide hB
    clear hB hZ hE hwq hT hg7 hd7 hz
    rcases hq3 with ⟨q1, q2, q3⟩ | ⟨q1, q2, q3⟩ | ⟨q1, q2, q3⟩
    · rw [q3] at HNr
      go_wp2_with fail
      refine (HNr.out _).mono ?_
      rintro e y1 ⟨rfl, rfl⟩
      go_wp2_with fail
      all_goals refine (HW1.out _).mono ?_
      all_goals rintro e y2 ⟨rfl, rfl⟩
      all_goals go_wp2_with fail
      all_goals refine (HW2.out _).mono ?_
      all_goals rintro e y3 ⟨rfl, rfl⟩
      all_goals go_wp2_with fail
      all_goals go_ret
      all_goals exact ⟨by first | rfl | (simp; done) | (congr 2; simp; omega), HFin.out⟩
    · rw [q3] at HNr
      go_wp2_with fail
      refine (HNr.out _).mono ?_
      rintro e y1 ⟨rfl, rfl⟩
      go_wp2_with fail
      all_goals refine (HW1.out _).mono ?_
      all_goals rintro e y2 ⟨rfl, rfl⟩
      all_goals go_wp2_with fail
      all_goals refine (HW2.out _).mono ?_
      all_goals rintro e y3 ⟨rfl, rfl⟩
      all_goals go_wp2_with fail
      all_goals go_ret
      all_goals exact ⟨by first | rfl | (simp; done) | (congr 2; simp; omega), HFin.out⟩
    · rw [q3] at HNr
      go_wp2_with fail
      refine (HNr.out _).mono ?_
      rintro e y1 ⟨rfl, rfl⟩
      go_wp2_with fail
      all_goals refine (HW1.out _).mono ?_
      all_goals rintro e y2 ⟨rfl, rfl⟩
      all_goals go_wp2_with fail
      all_goals refine (HW2.out _).mono ?_
      all_goals rintro e y3 ⟨rfl, rfl⟩
      all_goals go_wp2_with fail
      all_goals go_ret
      all_goals exact ⟨by first | rfl | (simp; done) | (congr 2; simp; omega), HFin.out⟩
  · have hkz : ((k : Int) == 0) = false := by simpa using hkn
    have hkz2 : (k : Int) ≠ 0 := by omega
    have hkk := Shp.code_is zs
    rw [hk.out] at hkk
    refine (HVd.out w10 hB).mono ?_
    rintro e w13 ⟨rfl, hb⟩
    clear c0 c1 c2
    replace hT := hT.below hb hT.lt
    replace hf := hf.below hb hf.lt
    replace hu := hu.below hb hu.lt
    replace hB := hB.trans (hb.mono hB.size)
    replace hZ := hZ.below hb
    replace hE := hE.below hb
    clear hb HVd
    have c0 : (w13).cell? ⟨w.heap.size, 0, none⟩ = some (.slice P n cap) := by rw [hT.cell]; rfl
    have c1 : (w13).cell? ⟨w.heap.size, 1, none⟩ = some (.bool u) := by rw [hT.cell]; rfl
    have c2 : (w13).cell? ⟨w.heap.size, 2, none⟩ = some (.slice D m dcap) := by rw [hT.cell]; rfl
    go_wp2_with fail
    refine (HZero.out w13 hB hE).mono ?_
    rintro e w14 ⟨-, hz1, hb⟩
    obtain rfl := hz1 hkn
    clear hz1
    clear c0 c1 c2
    replace hT := hT.below hb hT.lt
    replace hf := hf.below hb hf.lt
    replace hu := hu.below hb hu.lt
    replace hB := hB.trans (hb.mono hB.size)
    replace hZ := hZ.below hb
    replace hE := hE.below hb
    clear hb HZero
    clear hf
    clear hu
    have hz : Has (w14.alloc (Obj.cells #[.slice none 0 0, .bool false, .slice none 0 0] 53)) w14.heap.size 53 [.slice none 0 0, .bool false, .slice none 0 0] := Has.new w14 _ _
    have hal := (Below.refl w14.heap.size w14).alloc (Nat.le_refl _) (Obj.cells #[.slice none 0 0, .bool false, .slice none 0 0] 53)
    replace hT := hT.alloc (Obj.cells #[.slice none 0 0, .bool false, .slice none 0 0] 53)
    replace hB := hB.alloc hB.size (Obj.cells #[.slice none 0 0, .bool false, .slice none 0 0] 53)
    replace hZ := hZ.below hal
    replace hE := hE.below hal
    clear hal
    obtain ⟨W14, hW14⟩ : ∃ W14, Hid (w14.alloc (Obj.cells #[.slice none 0 0, .bool false, .slice none 0 0] 53) = W14) := ⟨_, hide rfl⟩
    rw [hW14.out] at hB hZ hE hT hz
    have c0 : (W14).cell? ⟨w.heap.size, 0, none⟩ = some (.slice P n cap) := by rw [hT.cell]; rfl
    have c1 : (W14).cell? ⟨w.heap.size, 1, none⟩ = some (.bool u) := by rw [hT.cell]; rfl
    have c2 : (W14).cell? ⟨w.heap.size, 2, none⟩ = some (.slice D m dcap) := by rw [hT.cell]; rfl
    have s0 : (W14).cell? ⟨w14.heap.size, 0, none⟩ = some (.slice none 0 0) := by rw [hz.cell]; rfl
    have s1 : (W14).cell? ⟨w14.heap.size, 1, none⟩ = some (.bool false) := by rw [hz.cell]; rfl
    have s2 : (W14).cell? ⟨w14.heap.size, 2, none⟩ = some (.slice none 0 0) := by rw [hz.cell]; rfl
    have hS0 : ZerS w.heap.size w14.heap.size W14 (.slice P n cap) (.bool u) (.slice D m dcap) (.slice none 0 0) (.bool false) (.slice none 0 0) W14.drew := ⟨c0, c1, c2, s0, s1, s2, hide (Below.refl _ W14).drew⟩
    clear c0 c1 c2 s0 s1 s2
    have HR1 := hide (fun W (hb : Below W14.heap.size W14 W) => HIs.out W (hZ.below hb))
    have HBX := hide hB
    have HZX := hide hZ
    have HEX := hide hE
    have H_hT := hide hT
    have H_hz := hide hz
    clear hB hZ hE HIs HRZ HSz hT hz
    go_wp2_with fail
    have hW14' := hW14.out
    rw [hW14']
    clear hW14 hW14'
    refine wp_region_held_drew (S := fun W => W.cell? ⟨w.heap.size, 0, none⟩ = some (.slice P n cap) ∧ W.cell? ⟨w.heap.size, 1, none⟩ = some (.bool u) ∧ W.cell? ⟨w.heap.size, 2, none⟩ = some (.slice D m dcap) ∧ W.cell? ⟨w14.heap.size, 0, none⟩ = some (.slice none 0 0) ∧ W.cell? ⟨w14.heap.size, 1, none⟩ = some (.bool false) ∧ W.cell? ⟨w14.heap.size, 2, none⟩ = some (.slice none 0 0) ∧ Hid (Below W14.heap.size W14 W)) (by kernel_rfl) hS0 (fun hH0 => ?_)
    clear hS0
    refine wpAnyH_take (i := 0) (oi := { dst := some 122, op := Op.move (Operand.tmp 18), type := 30, pos := "law.go:45", after := #[], guard := none }) (v := ?z0) rfl (by kernel_rfl) (by kernel_rfl) (by kernel_rfl) (fun _ _ _ h => h) (Or.inl ⟨by rfl, ?zy0⟩) (by assumption) ?zr0
    case zy0 =>
      intro w hSw
      (try dsimp only at hSw)
      go_simp
      all_goals with_reducible rfl
    (try simp only [Act.put, List.setIfInBounds_toArray, List.set_cons_zero, List.set_cons_succ])
    refine wpAnyH_take (i := 1) (oi := { dst := some 123, op := Op.move (Operand.tmp 16), type := 3, pos := "law.go:45", after := #[], guard := none }) (v := ?z1) rfl (by kernel_rfl) (by kernel_rfl) (by kernel_rfl) (fun _ _ _ h => h) (Or.inl ⟨by rfl, ?zy1⟩) (by assumption) ?zr1
    case zy1 =>
      intro w hSw
      (try dsimp only at hSw)
      go_simp
      all_goals with_reducible rfl
    (try simp only [Act.put, List.setIfInBounds_toArray, List.set_cons_zero, List.set_cons_succ])
    refine wpAnyH_ready (rs := [2]) (by kernel_rfl) (by simp) ?_
    refine AllReadyH.cons (o := { dst := some 124, op := Op.call { callee := Callee.value (Operand.func 17), args := #[Operand.tmp 122, Operand.tmp 123], argTypes := #[30, 3] }, type := 4, pos := "law.go:45", after := #[{ on := 0, ground := Ground.data }, { on := 1, ground := Ground.data }], guard := none }) rfl (fun K hK => ?_) AllReadyH.nil
    go_simp
    refine (HR1.out _ (ZerS.low hH0)).mono ?_
    rintro e W15 ⟨rfl, hb⟩
    go_wp2_with fail
    refine hK.out _ _ ?_ (fun hH1 => ?_)
    · exact ZerS.keep hH0 hb
    clear hK K hb hH0
    (try simp only [Act.put, List.setIfInBounds_toArray, List.set_cons_zero, List.set_cons_succ])
    refine wpAnyH_take (i := 3) (oi := { dst := some 125, op := Op.unOp UnOp.not 4 (Operand.tmp 124), type := 4, pos := "law.go:45", after := #[{ on := 2, ground := Ground.data }], guard := none }) (v := ?z3) rfl (by kernel_rfl) (by kernel_rfl) (by kernel_rfl) (fun _ _ _ h => h) (Or.inl ⟨by rfl, ?zy3⟩) (by assumption) ?zr3
    case zy3 =>
      intro w hSw
      (try dsimp only at hSw)
      go_simp
      all_goals with_reducible rfl
    (try simp only [Act.put, List.setIfInBounds_toArray, List.set_cons_zero, List.set_cons_succ])
    refine wpAnyH_take (i := 4) (oi := { dst := some 126, op := Op.move (Operand.tmp 125), type := 4, pos := "law.go:45", after := #[{ on := 3, ground := Ground.data }, { on := 2, ground := Ground.chain }], guard := none }) (v := ?z4) rfl (by kernel_rfl) (by kernel_rfl) (by kernel_rfl) (fun _ _ _ h => h) (Or.inl ⟨by rfl, ?zy4⟩) (by assumption) ?zr4
    case zy4 =>
      intro w hSw
      (try dsimp only at hSw)
      go_simp
      all_goals with_reducible rfl
    (try simp only [Act.put, List.setIfInBounds_toArray, List.set_cons_zero, List.set_cons_succ])
    refine wpAnyH_take (i := 5) (oi := { dst := some 127, op := Op.move (Operand.tmp 16), type := 3, pos := "law.go:45", after := #[{ on := 4, ground := Ground.guard }], guard := some (4, false) }) (v := ?z5) rfl (by kernel_rfl) (by kernel_rfl) (by kernel_rfl) (fun _ _ _ h => h) (Or.inl ⟨by rfl, ?zy5⟩) (by assumption) ?zr5
    case zy5 =>
      intro w hSw
      (try dsimp only at hSw)
      go_simp
      all_goals with_reducible rfl
    (try simp only [Act.put, List.setIfInBounds_toArray, List.set_cons_zero, List.set_cons_succ])
    refine wpAnyH_take (i := 6) (oi := { dst := some 128, op := Op.binOp BinOp.eql 3 (Operand.tmp 127) (Operand.const (Value.int IntKind.i64 0)) 3, type := 4, pos := "law.go:45", after := #[{ on := 5, ground := Ground.data }, { on := 4, ground := Ground.guard }], guard := some (4, false) }) (v := ?z6) rfl (by kernel_rfl) (by kernel_rfl) (by kernel_rfl) (fun _ _ _ h => h) (Or.inl ⟨by rfl, ?zy6⟩) (by assumption) ?zr6
    case zy6 =>
      intro w hSw
      (try dsimp only at hSw)
      go_simp
      all_goals with_reducible rfl
    (try simp only [Act.put, List.setIfInBounds_toArray, List.set_cons_zero, List.set_cons_succ])
    refine wpAnyH_take (i := 7) (oi := { dst := some 129, op := Op.move (Operand.tmp 128), type := 4, pos := "law.go:45", after := #[{ on := 6, ground := Ground.data }, { on := 4, ground := Ground.chain }, { on := 4, ground := Ground.guard }], guard := some (4, false) }) (v := ?z7) rfl (by kernel_rfl) (by kernel_rfl) (by kernel_rfl) (fun _ _ _ h => h) (Or.inl ⟨by rfl, ?zy7⟩) (by assumption) ?zr7
    case zy7 =>
      intro w hSw
      (try dsimp only at hSw)
      go_simp
      all_goals with_reducible rfl
    (try simp only [Act.put, List.setIfInBounds_toArray, List.set_cons_zero, List.set_cons_succ])
    refine wpAnyH_take (i := 8) (oi := { dst := some 130, op := Op.load 53 (Operand.tmp 17), type := 53, pos := "law.go:45", after := #[{ on := 7, ground := Ground.guard }], guard := some (7, true) }) (v := undef) rfl (by kernel_rfl) (by kernel_rfl) (by kernel_rfl) (fun _ _ _ h => h) (Or.inr ⟨by rfl, rfl⟩) (by assumption) ?_
    (try simp only [Act.put, List.setIfInBounds_toArray, List.set_cons_zero, List.set_cons_succ])
    refine wpAnyH_take (i := 9) (oi := { dst := some 131, op := Op.fieldAddr 53 (Operand.tmp 3) 0, type := 0, pos := "law.go:45", after := #[{ on := 7, ground := Ground.guard }], guard := some (7, true) }) (v := undef) rfl (by kernel_rfl) (by kernel_rfl) (by kernel_rfl) (fun _ _ _ h => h) (Or.inr ⟨by rfl, rfl⟩) (by assumption) ?_
    (try simp only [Act.put, List.setIfInBounds_toArray, List.set_cons_zero, List.set_cons_succ])
    refine wpAnyH_take (i := 10) (oi := { dst := some 132, op := Op.load 24 (Operand.tmp 131), type := 24, pos := "law.go:45", after := #[{ on := 9, ground := Ground.data }, { on := 7, ground := Ground.guard }], guard := some (7, true) }) (v := undef) rfl (by kernel_rfl) (by kernel_rfl) (by kernel_rfl) (fun _ _ _ h => h) (Or.inr ⟨by rfl, rfl⟩) (by assumption) ?_
    (try simp only [Act.put, List.setIfInBounds_toArray, List.set_cons_zero, List.set_cons_succ])
    refine wpAnyH_take (i := 11) (oi := { dst := some 133, op := Op.call { callee := Callee.value (Operand.func 48), args := #[Operand.tmp 132], argTypes := #[24] }, type := 53, pos := "law.go:45", after := #[{ on := 10, ground := Ground.data }, { on := 7, ground := Ground.chain }, { on := 7, ground := Ground.guard }], guard := some (7, true) }) (v := undef) rfl (by kernel_rfl) (by kernel_rfl) (by kernel_rfl) (fun _ _ _ h => h) (Or.inr ⟨by rfl, rfl⟩) (by assumption) ?_
    (try simp only [Act.put, List.setIfInBounds_toArray, List.set_cons_zero, List.set_cons_succ])
    refine wpAnyH_take (i := 12) (oi := { dst := some 134, op := Op.call { callee := Callee.value (Operand.func 45), args := #[Operand.tmp 130, Operand.tmp 133], argTypes := #[53, 53] }, type := 4, pos := "law.go:45", after := #[{ on := 8, ground := Ground.data }, { on := 11, ground := Ground.data }, { on := 11, ground := Ground.chain }, { on := 7, ground := Ground.guard }], guard := some (7, true) }) (v := undef) rfl (by kernel_rfl) (by kernel_rfl) (by kernel_rfl) (fun _ _ _ h => h) (Or.inr ⟨by rfl, rfl⟩) (by assumption) ?_
    (try simp only [Act.put, List.setIfInBounds_toArray, List.set_cons_zero, List.set_cons_succ])
    refine wpAnyH_take (i := 13) (oi := { dst := some 135, op := Op.unOp UnOp.not 4 (Operand.tmp 134), type := 4, pos := "law.go:45", after := #[{ on := 12, ground := Ground.data }, { on := 7, ground := Ground.guard }], guard := some (7, true) }) (v := undef) rfl (by kernel_rfl) (by kernel_rfl) (by kernel_rfl) (fun _ _ _ h => h) (Or.inr ⟨by rfl, rfl⟩) (by assumption) ?_
    (try simp only [Act.put, List.setIfInBounds_toArray, List.set_cons_zero, List.set_cons_succ])
    refine wpAnyH_take (i := 14) (oi := { dst := some 136, op := Op.pick (Operand.tmp 129) (Operand.tmp 135) (Operand.const (Value.bool false)), type := 4, pos := "law.go:45", after := #[{ on := 7, ground := Ground.data }, { on := 13, ground := Ground.data }, { on := 4, ground := Ground.guard }], guard := some (4, false) }) (v := ?z14) rfl (by kernel_rfl) (by kernel_rfl) (by kernel_rfl) (fun _ _ _ h => h) (Or.inl ⟨by rfl, ?zy14⟩) (by assumption) ?zr14
    case zy14 =>
      intro w hSw
      (try dsimp only at hSw)
      go_simp
      all_goals with_reducible rfl
    (try simp only [Act.put, List.setIfInBounds_toArray, List.set_cons_zero, List.set_cons_succ])
    refine wpAnyH_take (i := 15) (oi := { dst := some 137, op := Op.pick (Operand.tmp 126) (Operand.const (Value.bool true)) (Operand.tmp 136), type := 4, pos := "law.go:45", after := #[{ on := 4, ground := Ground.data }, { on := 14, ground := Ground.data }], guard := none }) (v := ?z15) rfl (by kernel_rfl) (by kernel_rfl) (by kernel_rfl) (fun _ _ _ h => h) (Or.inl ⟨by rfl, ?zy15⟩) (by assumption) ?zr15
    case zy15 =>
      intro w hSw
      (try dsimp only at hSw)
      go_simp
      all_goals with_reducible rfl
    (try simp only [Act.put, List.setIfInBounds_toArray, List.set_cons_zero, List.set_cons_succ])
    refine wpAnyH_done (by kernel_rfl) ?_ _
    have hb9 := ZerS.low hH1
    clear hH1 HR1
    have hB := HBX.out.trans (hb9.mono HBX.out.size)
    have hZ := HZX.out.below hb9
    have hE := HEX.out.below hb9
    have hT := H_hT.out.below hb9 H_hT.out.lt
    have hz := H_hz.out.below hb9 H_hz.out.lt
    clear hb9 HBX HZX HEX H_hT H_hz
    have hq3 : (q < -128 ∧ q ≤ 127 ∧ Tens.narrow q = -128) ∨ (127 < q ∧ -128 ≤ q ∧ Tens.narrow q = 127) ∨ (-128 ≤ q ∧ q ≤ 127 ∧ Tens.narrow q = q) := by unfold Tens.narrow; omega
    have HNr := hide (fun W => narrow_c q W)
    have HW1 := hide (fun W => wide_c q W)
    have HW2 := hide (fun W => rwide_c q W)
    obtain ⟨wq, hwq⟩ : ∃ wq, Hid (Tens.wide q = wq) := ⟨_, hide rfl⟩
    rw [hwq.out] at HW1 HW2
    have HFin := hide hB
    clear hB hZ hE hwq hT hz
    rcases hq3 with ⟨q1, q2, q3⟩ | ⟨q1, q2, q3⟩ | ⟨q1, q2, q3⟩
    · rw [q3] at HNr
      go_wp2_with fail
      refine (HNr.out _).mono ?_
      rintro e y1 ⟨rfl, rfl⟩
      go_wp2_with fail
      all_goals refine (HW1.out _).mono ?_
      all_goals rintro e y2 ⟨rfl, rfl⟩
      all_goals go_wp2_with fail
      all_goals refine (HW2.out _).mono ?_
      all_goals rintro e y3 ⟨rfl, rfl⟩
      all_goals go_wp2_with fail
      all_goals go_ret
      all_goals exact ⟨by first | rfl | (simp; done) | (congr 2; simp; omega), HFin.out⟩
    · rw [q3] at HNr
      go_wp2_with fail
      refine (HNr.out _).mono ?_
      rintro e y1 ⟨rfl, rfl⟩
      go_wp2_with fail
      all_goals refine (HW1.out _).mono ?_
      all_goals rintro e y2 ⟨rfl, rfl⟩
      all_goals go_wp2_with fail
      all_goals refine (HW2.out _).mono ?_
      all_goals rintro e y3 ⟨rfl, rfl⟩
      all_goals go_wp2_with fail
      all_goals go_ret
      all_goals exact ⟨by first | rfl | (simp; done) | (congr 2; simp; omega), HFin.out⟩
    · rw [q3] at HNr
      go_wp2_with fail
      refine (HNr.out _).mono ?_
      rintro e y1 ⟨rfl, rfl⟩
      go_wp2_with fail
      all_goals refine (HW1.out _).mono ?_
      all_goals rintro e y2 ⟨rfl, rfl⟩
      all_goals go_wp2_with fail
      all_goals refine (HW2.out _).mono ?_
      all_goals rintro e y3 ⟨rfl, rfl⟩
      all_goals go_wp2_with fail
      all_goals go_ret
      all_goals exact ⟨by first | rfl | (simp; done) | (congr 2; simp; omega), HFin.out⟩
end Go.Proofs.YtnbjcdmiehnceaaDoor
