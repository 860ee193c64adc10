/-
  The law OpSays, walked. By an AI agent. No person has read it.
-/
import Derived.Test.YtgdcfjmpjhlndaaGreatDoorZOOpE
import Derived.Test.YtgdcfjmpjhlndaaGreatDoorZOOpX
import Derived.Test.YtgdcfjmpjhlndaaGreatDoorZOOpY
import Derived.Test.YtgdcfjmpjhlndaaGreatDoorZOOpU
import Derived.Test.YtgdcfjmpjhlndaaGreatDoorZOOpSame
namespace Go.Proofs.YtgdcfjmpjhlndaaGreatDoor
open Go.RowKit
theorem Elm.Err.below {W W' : World} {ah am ar ak : Addr} {v : Value} {R : Nat × Option Nat} (h : Elm.Err W ah am ar ak v R) (hb : Below W.heap.size W W') : Elm.Err W' ah am ar ak v R := h.low hb
theorem rsame_good (s t : Ten) (w : World) (hs : s.In w) (ht : t.In w) (h1 : s.zs = t.zs) (h2 : s.u = t.u) (h3 : s.ds = t.ds) :
  Calls Tryz.prog 13 #[.agg (tcells s.P s.zs.length s.cap s.u s.D s.ds.length s.dcap), .agg (tcells t.P t.zs.length t.cap t.u t.D t.ds.length t.dcap)] w fun e w' => e = .returned (.bool true) ∧ Below w.heap.size w w' := by
 refine (sametensor_c s.zs t.zs s.ds t.ds s.P t.P s.D t.D s.cap t.cap s.dcap t.dcap s.u t.u w hs.shp ht.shp hs.dat ht.dat hs.ls ht.ls hs.ld ht.ld).mono fun e w' h => ?_
 rw [decide_eq_true h1, decide_eq_true h3, h2] at h
 simpa using h
theorem op_some {op : Int} {qs : List Int} {ts : List Ten} (hd : ∀ t ∈ ts, t.ds.length ≤ t.dcap) : ∃ rs X Y, Op.fault op qs ts = (0, none) → OpBoth op qs ts rs X Y := by
 by_cases h : Op.fault op qs ts = (0, none)
 ·obtain ⟨rs, X, Y, hB⟩ := op_both h hd
  exact ⟨rs, X, Y, fun _ => hB⟩
 ·exact ⟨[], [], false, fun h2 => absurd h2 h⟩
set_option maxRecDepth 100000 in
set_option maxHeartbeats 16000000 in
theorem opsays_c (op : Int) (qs : List Int) (ts : List Ten) (A B : Option Addr) (qcap cap : Nat) (i : Int) (hi : (Lit.int .i64 i).wf = true) (es : List Addr) (w : World) (hQ : Ri w A qs) (hR : Row w B (ts.flatMap Ten.vals)) (hI : ∀ t ∈ ts, (Ri w t.P t.zs ∧ Ri w t.D t.ds) ∧ t.zs.length ≤ t.cap ∧ t.ds.length ≤ t.dcap) (hZ : Ez w es) (hKz : Kz w) :
  Calls Tryz.prog 4 #[.int .i64 op, .slice A qs.length qcap, .slice B ts.length cap, .int .i64 i] w fun e w' => e = .returned (.bool true) ∧ Below w.heap.size w w' := by
 obtain ⟨ah, am, ar, ak, h0, h1, h2, h3, hE⟩ := E4.ofz hZ
 have hib := i64_wf hi
 have HF := hide (first12_c ah am ar ak w hE hKz)
 have HE := hide (fun W (hb : Below w.heap.size w W) => hE.below hb)
 have VL := hide (fun W (hb : Below w.heap.size w W) => light_c op qs ts A B qcap cap W (hQ.below hb) (hR.below hb) (fun t ht => ⟨(hI t ht).1.1.below hb, (hI t ht).1.2.below hb⟩) (fun t ht => (hI t ht).2.1))
 have HR := hide (fun W (hb : Below w.heap.size w W) => hR.below hb)
 have HQ := hide (fun W (hb : Below w.heap.size w W) => hQ.below hb)
 have HKk := hide (fun W (hb : Below w.heap.size w W) => hKz.below hb)
 have HIn : Hid ((∀ t ∈ ts, t.small) → ∀ W, Below w.heap.size w W → ∀ t ∈ ts, t.In W) := hide fun h8 W hb t ht => ⟨(hI t ht).1.1.below hb, (hI t ht).1.2.below hb, by have := (h8 t ht).1; omega, by have := (h8 t ht).2; omega⟩
 obtain ⟨rs, X, Y, hBoth⟩ := op_some (op := op) (qs := qs) (ts := ts) (fun t ht => (hI t ht).2.2)
 have HCz : Hid (∀ t ∈ ts, t.zs.length ≤ t.cap) := hide fun t ht => (hI t ht).2.1
 have SAME : Hid (∀ (v : Value) W, Below w.heap.size w W → Elm.Err W ah am ar ak v (Op.fault op qs ts) → Calls Tryz.prog 12 #[v, .agg (Tens.fval (Op.fault op qs ts))] W fun e w' => e = .returned (.bool true) ∧ Below W.heap.size W w') := hide (fun v W hb ht => same_op h0 h1 h2 h3 v _ (Op.fault_cases op qs ts) W (hZ.below hb) ht)
 obtain ⟨nm, hnm, hfd⟩ := Op.find_of op
 have VN := hide (fun W (hb : Below w.heap.size w W) => opname_c op W (hKz.below hb))
 have VM := hide (fun W (hb : Below w.heap.size w W) => opnamed_c nm W (hKz.below hb))
 have VRN := hide (fun W => rname_c op W)
 rw [hnm] at VN VRN
 rw [hfd] at VM
 have VK := hide (fun W => opknown_c op W)
 have VRK := hide (fun W => rknown_c op W)
 have VI := hide (fun W (hb : Below w.heap.size w W) => opins_c op W (hKz.below hb))
 have VRI := hide (fun W => rins_any op W)
 have VG := hide (fun W (hb : Below w.heap.size w W) => opargs_c op W (hKz.below hb))
 have VRG := hide (fun W => rargs_any op W)
 obtain ⟨ni, hni⟩ : ∃ n : Int, Hid (((Op.ins op : Nat) : Int) = n) := ⟨_, hide rfl⟩
 obtain ⟨ng, hng⟩ : ∃ n : Int, Hid (((Op.args op : Nat) : Int) = n) := ⟨_, hide rfl⟩
 rw [hni.out] at VI VRI
 rw [hng.out] at VG VRG
 obtain ⟨nq, hnq⟩ : ∃ n, Hid (qs.length = n) := ⟨_, hide rfl⟩
 obtain ⟨nt, hnt⟩ : ∃ n, Hid (ts.length = n) := ⟨_, hide rfl⟩
 rw [hnq.out, hnt.out] at VL
 rw [hnq.out, hnt.out]
 clear hQ hR hI hE hKz hZ h0 h1 h2 h3 hnm hfd hi
 go_enter Tryz.func4, Tryz.ntmps4
 go_wp2_with fail
 refine HF.out.mono ?_
 rintro e w1 ⟨rfl, hb⟩
 have HB1 := hide hb
 clear hb HF
 go_wp2_with fail
 refine (VL.out _ HB1.out).mono ?_
 rintro e w2 ⟨⟨b, rfl, hs⟩, hb⟩
 have HB := hide (HB1.out.trans (hb.mono HB1.out.size))
 clear VL HB1 hb
 cases b
 case false =>
  go_wp2_with fail
  go_ret
  exact ⟨rfl, HB.out⟩
 case true =>
 have hs := hs rfl
 have Hq : Hid (qs.length ≤ 10) := hide (by rw [hnq.out]; exact hs.1)
 have Ht : Hid (ts.length ≤ 3) := hide (by rw [hnt.out]; exact hs.2.1)
 have HI := hide (HIn.out hs.2.2)
 clear hs HIn
 have VA := hide (fun W (hb : Below w.heap.size w W) => opapply_any op qs ts A B qcap cap ah am ar ak W (HQ.out W hb) (by have := Hq.out; omega) (HR.out W hb) (HI.out W hb) (by have := Ht.out; omega) (HE.out W hb) (HKk.out W hb) rs X Y hBoth)
 have VX := hide (fun W (hb : Below w.heap.size w W) => rapply_any op qs ts A B qcap cap W (HQ.out W hb) (by have := Hq.out; omega) (HR.out W hb) (HI.out W hb) (by have := Ht.out; omega) HCz.out rs X Y hBoth)
 have VE := hide (fun W (hb : Below w.heap.size w W) => opelement_any op qs ts i hib.2 hib.1 A B qcap cap ah am ar ak W (HQ.out W hb) (by have := Hq.out; omega) (HR.out W hb) (HI.out W hb) (by have := Ht.out; omega) (HE.out W hb) (HKk.out W hb) rs X Y hBoth)
 have VY := hide (fun W (hb : Below w.heap.size w W) => relement_any op qs ts i A B qcap cap W (HQ.out W hb) (by have := Hq.out; omega) (HR.out W hb) (HI.out W hb) (by have := Ht.out; omega) HCz.out rs X Y hBoth)
 rw [hnq.out, hnt.out] at VA VX VE VY
 unfold RTenE at VX
 obtain ⟨p1, i1, hv1⟩ := fval_is (Op.fault op qs ts)
 rw [hv1] at VX SAME
 unfold gcells at VX SAME
 obtain ⟨c1, hc1⟩ : ∃ c, Hid (((Op.fault op qs ts).1 : Int) = c) := ⟨_, hide rfl⟩
 rw [hc1.out] at VX SAME
 obtain ⟨ev, hev⟩ : ∃ v, Hid ((if Op.fault op qs ts = (0, none) then Op.at rs i else 0) = v) := ⟨_, hide rfl⟩
 rw [hev.out] at VE VY
 clear hv1 hib hBoth
 go_wp2_with fail
 refine (VA.out _ HB.out).mono ?_
 rintro e d1 ⟨⟨t, e1, rfl, ht, htz, htu, htd, hte⟩, hb⟩
 replace HB := hide (HB.out.trans (hb.mono HB.out.size))
 clear hb
 have TT := hide ht
 have ZT := hide htz
 have UT := hide htu
 have DT := hide htd
 have ET := hide hte
 clear ht htz htu htd hte
 obtain ⟨d2, hd2⟩ : ∃ W, W = d1.alloc (.cells #[.slice t.P t.zs.length t.cap, .bool t.u, .slice t.D t.ds.length t.dcap] 26) := ⟨_, rfl⟩
 have hbA : Below d1.heap.size d1 d2 := by rw [hd2]; exact (Below.refl _ _).alloc (Nat.le_refl _) _
 have BT : Hid (Has d2 d1.heap.size 26 [.slice t.P t.zs.length t.cap, .bool t.u, .slice t.D t.ds.length t.dcap]) := hide (by rw [hd2]; exact Has.new _ _ _)
 replace HB := hide (HB.out.trans (hbA.mono HB.out.size))
 replace TT := hide (TT.out.below hbA)
 replace ET := hide (ET.out.below hbA)
 have Hd2 := hide hd2
 clear hd2 hbA
 go_wp2_with fail
 rw [← Hd2.out]
 clear Hd2
 refine (VX.out _ HB.out).mono ?_
 rintro e d3 ⟨⟨x, rfl, hx, hxz, hxu, hxd⟩, hb⟩
 replace HB := hide (HB.out.trans (hb.mono HB.out.size))
 replace TT := hide (TT.out.below hb)
 replace ET := hide (ET.out.below hb)
 replace BT := hide (BT.out.below hb BT.out.lt)
 clear hb
 have TX := hide hx
 have ZX := hide hxz
 have UX := hide hxu
 have DX := hide hxd
 clear hx hxz hxu hxd VA VX
 obtain ⟨d4, hd4⟩ : ∃ W, W = d3.alloc (.cells #[.slice x.P x.zs.length x.cap, .bool x.u, .slice x.D x.ds.length x.dcap] 26) := ⟨_, rfl⟩
 have hbA : Below d3.heap.size d3 d4 := by rw [hd4]; exact (Below.refl _ _).alloc (Nat.le_refl _) _
 have BX : Hid (Has d4 d3.heap.size 26 [.slice x.P x.zs.length x.cap, .bool x.u, .slice x.D x.ds.length x.dcap]) := hide (by rw [hd4]; exact Has.new _ _ _)
 replace HB := hide (HB.out.trans (hbA.mono HB.out.size))
 replace TT := hide (TT.out.below hbA)
 replace ET := hide (ET.out.below hbA)
 replace BT := hide (BT.out.below hbA BT.out.lt)
 replace TX := hide (TX.out.below hbA)
 have Hd4 := hide hd4
 clear hd4 hbA
 obtain ⟨d5, hd5⟩ : ∃ W, W = d4.alloc (.cells #[.int .i64 c1, .bool p1, .int .i64 i1] 36) := ⟨_, rfl⟩
 have hbA : Below d4.heap.size d4 d5 := by rw [hd5]; exact (Below.refl _ _).alloc (Nat.le_refl _) _
 have GX : Hid (Has d5 (d3.heap.size + 1) 36 [.int .i64 c1, .bool p1, .int .i64 i1]) := hide (by rw [hd5]; exact box_at _ _ _ _ (by rw [Hd4.out]; simp))
 replace HB := hide (HB.out.trans (hbA.mono HB.out.size))
 replace TT := hide (TT.out.below hbA)
 replace ET := hide (ET.out.below hbA)
 replace BT := hide (BT.out.below hbA BT.out.lt)
 replace TX := hide (TX.out.below hbA)
 replace BX := hide (BX.out.below hbA BX.out.lt)
 have Hd5 := hide hd5
 clear hd5 hbA
 go_wp2_with fail
 rw [← Hd4.out]
 rw [← Hd5.out]
 clear Hd4 Hd5
 refine (VN.out _ HB.out).mono ?_
 rintro e d6 ⟨rfl, hb⟩
 replace HB := hide (HB.out.trans (hb.mono HB.out.size))
 replace TT := hide (TT.out.below hb)
 replace ET := hide (ET.out.below hb)
 replace BT := hide (BT.out.below hb BT.out.lt)
 replace TX := hide (TX.out.below hb)
 replace BX := hide (BX.out.below hb BX.out.lt)
 replace GX := hide (GX.out.below hb GX.out.lt)
 clear hb
 go_wp2_with fail
 refine (VM.out _ HB.out).mono ?_
 rintro e d7 ⟨rfl, hb⟩
 replace HB := hide (HB.out.trans (hb.mono HB.out.size))
 replace TT := hide (TT.out.below hb)
 replace ET := hide (ET.out.below hb)
 replace BT := hide (BT.out.below hb BT.out.lt)
 replace TX := hide (TX.out.below hb)
 replace BX := hide (BX.out.below hb BX.out.lt)
 replace GX := hide (GX.out.below hb GX.out.lt)
 clear hb
 clear VM
 by_cases hk : Op.known op
 case neg =>
  rw [if_neg hk]
  have f1 : ((0 : Int) != 0) = false := by decide
  rw [f1]
  rw [decide_eq_false hk] at VK VRK
  clear hk f1
  go_wp2_with fail
  refine (VRK.out _).mono ?_
  rintro e wq ⟨rfl, hw⟩
  have hw := hw.symm
  subst hw
  go_wp2_with fail
  refine (VRK.out _).mono ?_
  rintro e wq ⟨rfl, hw⟩
  have hw := hw.symm
  subst hw
  have c_GX0 := GX.out.cell 0
  have c_GX1 := GX.out.cell 1
  have c_GX2 := GX.out.cell 2
  go_wp2_with fail
  clear c_GX0 c_GX1 c_GX2
  refine (SAME.out e1 _ HB.out ET.out).mono ?_
  rintro e d8 ⟨rfl, hb⟩
  replace HB := hide (HB.out.trans (hb.mono HB.out.size))
  replace TT := hide (TT.out.below hb)
  replace ET := hide (ET.out.below hb)
  replace BT := hide (BT.out.below hb BT.out.lt)
  replace TX := hide (TX.out.below hb)
  replace BX := hide (BX.out.below hb BX.out.lt)
  replace GX := hide (GX.out.below hb GX.out.lt)
  clear hb
  clear ET GX
  have c_BT0 := BT.out.cell 0
  have c_BT1 := BT.out.cell 1
  have c_BT2 := BT.out.cell 2
  have c_BX0 := BX.out.cell 0
  have c_BX1 := BX.out.cell 1
  have c_BX2 := BX.out.cell 2
  go_wp2_with fail
  clear c_BT0 c_BT1 c_BT2 c_BX0 c_BX1 c_BX2
  refine (rsame_good t x _ TT.out TX.out (ZT.out.trans ZX.out.symm) (UT.out.trans UX.out.symm) (DT.out.trans DX.out.symm)).mono ?_
  rintro e d9 ⟨rfl, hb⟩
  replace HB := hide (HB.out.trans (hb.mono HB.out.size))
  replace TT := hide (TT.out.below hb)
  replace BT := hide (BT.out.below hb BT.out.lt)
  replace TX := hide (TX.out.below hb)
  replace BX := hide (BX.out.below hb BX.out.lt)
  clear hb
  clear TT TX BT BX
  go_wp2_with fail
  refine (VK.out _).mono ?_
  rintro e wq ⟨rfl, hw⟩
  have hw := hw.symm
  subst hw
  go_wp2_with fail
  refine (VRK.out _).mono ?_
  rintro e wq ⟨rfl, hw⟩
  have hw := hw.symm
  subst hw
  have g1 : (ni == ni) = true := by simp
  have g2 : (ng == ng) = true := by simp
  have g3 : (ev == ev) = true := by simp
  go_wp2_with fail
  refine (VI.out _ HB.out).mono ?_
  rintro e d10 ⟨rfl, hb⟩
  replace HB := hide (HB.out.trans (hb.mono HB.out.size))
  clear hb
  go_wp2_with fail
  refine (VRI.out _).mono ?_
  rintro e wq ⟨rfl, hw⟩
  have hw := hw.symm
  subst hw
  go_wp2_with fail
  refine (VG.out _ HB.out).mono ?_
  rintro e d11 ⟨rfl, hb⟩
  replace HB := hide (HB.out.trans (hb.mono HB.out.size))
  clear hb
  go_wp2_with fail
  refine (VRG.out _).mono ?_
  rintro e wq ⟨rfl, hw⟩
  have hw := hw.symm
  subst hw
  go_wp2_with fail
  refine (VN.out _ HB.out).mono ?_
  rintro e d12 ⟨rfl, hb⟩
  replace HB := hide (HB.out.trans (hb.mono HB.out.size))
  clear hb
  go_wp2_with fail
  refine (VRN.out _).mono ?_
  rintro e d13 ⟨rfl, hb⟩
  replace HB := hide (HB.out.trans (hb.mono HB.out.size))
  clear hb
  go_wp2_with fail
  refine (VE.out _ HB.out).mono ?_
  rintro e d14 ⟨rfl, hb⟩
  replace HB := hide (HB.out.trans (hb.mono HB.out.size))
  clear hb
  go_wp2_with fail
  refine (VY.out _ HB.out).mono ?_
  rintro e d15 ⟨rfl, hb⟩
  replace HB := hide (HB.out.trans (hb.mono HB.out.size))
  clear hb
  go_wp2_with fail
  go_ret
  exact ⟨rfl, HB.out⟩
 case pos =>
  rw [if_pos hk]
  have f1 : (op != 0) = true := by unfold Op.known at hk; simp; omega
  have f2 : (op != op) = false := by simp
  rw [f1]
  rw [decide_eq_true hk] at VK VRK
  clear hk f1
  go_wp2_with fail
  refine (VRK.out _).mono ?_
  rintro e wq ⟨rfl, hw⟩
  have hw := hw.symm
  subst hw
  go_wp2_with fail
  refine (VRK.out _).mono ?_
  rintro e wq ⟨rfl, hw⟩
  have hw := hw.symm
  subst hw
  have c_GX0 := GX.out.cell 0
  have c_GX1 := GX.out.cell 1
  have c_GX2 := GX.out.cell 2
  go_wp2_with fail
  clear c_GX0 c_GX1 c_GX2
  refine (SAME.out e1 _ HB.out ET.out).mono ?_
  rintro e d8 ⟨rfl, hb⟩
  replace HB := hide (HB.out.trans (hb.mono HB.out.size))
  replace TT := hide (TT.out.below hb)
  replace ET := hide (ET.out.below hb)
  replace BT := hide (BT.out.below hb BT.out.lt)
  replace TX := hide (TX.out.below hb)
  replace BX := hide (BX.out.below hb BX.out.lt)
  replace GX := hide (GX.out.below hb GX.out.lt)
  clear hb
  clear ET GX
  have c_BT0 := BT.out.cell 0
  have c_BT1 := BT.out.cell 1
  have c_BT2 := BT.out.cell 2
  have c_BX0 := BX.out.cell 0
  have c_BX1 := BX.out.cell 1
  have c_BX2 := BX.out.cell 2
  go_wp2_with fail
  clear c_BT0 c_BT1 c_BT2 c_BX0 c_BX1 c_BX2
  refine (rsame_good t x _ TT.out TX.out (ZT.out.trans ZX.out.symm) (UT.out.trans UX.out.symm) (DT.out.trans DX.out.symm)).mono ?_
  rintro e d9 ⟨rfl, hb⟩
  replace HB := hide (HB.out.trans (hb.mono HB.out.size))
  replace TT := hide (TT.out.below hb)
  replace BT := hide (BT.out.below hb BT.out.lt)
  replace TX := hide (TX.out.below hb)
  replace BX := hide (BX.out.below hb BX.out.lt)
  clear hb
  clear TT TX BT BX
  go_wp2_with fail
  refine (VK.out _).mono ?_
  rintro e wq ⟨rfl, hw⟩
  have hw := hw.symm
  subst hw
  go_wp2_with fail
  refine (VRK.out _).mono ?_
  rintro e wq ⟨rfl, hw⟩
  have hw := hw.symm
  subst hw
  have g1 : (ni == ni) = true := by simp
  have g2 : (ng == ng) = true := by simp
  have g3 : (ev == ev) = true := by simp
  go_wp2_with fail
  refine (VI.out _ HB.out).mono ?_
  rintro e d10 ⟨rfl, hb⟩
  replace HB := hide (HB.out.trans (hb.mono HB.out.size))
  clear hb
  go_wp2_with fail
  refine (VRI.out _).mono ?_
  rintro e wq ⟨rfl, hw⟩
  have hw := hw.symm
  subst hw
  go_wp2_with fail
  refine (VG.out _ HB.out).mono ?_
  rintro e d11 ⟨rfl, hb⟩
  replace HB := hide (HB.out.trans (hb.mono HB.out.size))
  clear hb
  go_wp2_with fail
  refine (VRG.out _).mono ?_
  rintro e wq ⟨rfl, hw⟩
  have hw := hw.symm
  subst hw
  go_wp2_with fail
  refine (VN.out _ HB.out).mono ?_
  rintro e d12 ⟨rfl, hb⟩
  replace HB := hide (HB.out.trans (hb.mono HB.out.size))
  clear hb
  go_wp2_with fail
  refine (VRN.out _).mono ?_
  rintro e d13 ⟨rfl, hb⟩
  replace HB := hide (HB.out.trans (hb.mono HB.out.size))
  clear hb
  go_wp2_with fail
  refine (VE.out _ HB.out).mono ?_
  rintro e d14 ⟨rfl, hb⟩
  replace HB := hide (HB.out.trans (hb.mono HB.out.size))
  clear hb
  go_wp2_with fail
  refine (VY.out _ HB.out).mono ?_
  rintro e d15 ⟨rfl, hb⟩
  replace HB := hide (HB.out.trans (hb.mono HB.out.size))
  clear hb
  go_wp2_with fail
  go_ret
  exact ⟨rfl, HB.out⟩
end Go.Proofs.YtgdcfjmpjhlndaaGreatDoor
