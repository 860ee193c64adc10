/-
  The law OpElements, walked. By an AI agent. No person has read it.
-/
import Derived.Test.YtgdcfjmpjhlndaaDoorZEOpE
import Derived.Test.YtgdcfjmpjhlndaaDoorZEOpS
import Derived.Test.YtgdcfjmpjhlndaaDoorZEOpU
import Derived.Test.YtgdcfjmpjhlndaaDoorZEShpX
namespace Go.Proofs.YtgdcfjmpjhlndaaDoor
open Go.RowKit
def Tens.AllIn (w : World) (us : List Ten) : Prop := ∀ u ∈ us, u.In w
theorem Tens.AllIn.below {w w' : World} {us : List Ten} (h : Tens.AllIn w us) (hb : Below w.heap.size w w') : Tens.AllIn w' us := fun u hu => (h u hu).below hb
theorem cell_kept {w w' : World} {p : Addr} {v : Value} (hb : Below w.drew.heap.size w.drew w') (h : w.cell? p = some v) : w'.cell? p = some v := (hb.cell (World.block_lt_of_cell? w p h)).trans h
theorem rdesc_good (a b : List Int) (A B : Option Addr) (ca cb : Nat) (u v : Bool) (w : World) (ha : Ri w A a) (hb : Ri w B b) (hl : a.length ≤ 1000000) (h : a = b) (hu : u = v) :
    Calls Tryd.prog 25 #[.agg (dcells A a.length ca u), .agg (dcells B b.length cb v)] w fun e w' => e = .returned (.bool true) ∧ Below w.heap.size w w' := by
  refine (samedesc_c a b A B ca cb u v w ha hb hl (by rw [← h]; exact hl)).mono fun e w' h2 => ?_
  rw [decide_eq_true h, hu] at h2
  simpa using h2
theorem rvalid_good (t : Ten) (ah am ar : Addr) (w : World) (ht : t.In w) (hE : E3 w ah am ar) (hf : Tens.fault t.zs t.u t.ds = (0, none)) :
    Calls Tryd.prog 31 #[.agg (tcells t.P t.zs.length t.cap t.u t.D t.ds.length t.dcap)] w fun e w' => e = .returned .nilIface ∧ Below w.heap.size w w' := by
  refine (tvalid_c t.zs t.ds t.P t.D t.cap t.dcap t.u ah am ar w ht.shp ht.dat (by have := ht.ls; omega) (by have := ht.ld; omega) hE).mono ?_
  rintro e w' ⟨⟨v, rfl, hv⟩, hb⟩
  rw [hf] at hv
  obtain rfl : v = .nilIface := hv
  exact ⟨rfl, hb⟩
set_option maxRecDepth 100000 in
set_option maxHeartbeats 16000000 in
theorem opelements_c (op : Int) (qs : List Int) (ts : List Ten) (A B : Option Addr) (qcap cap : Nat) (ah am ar ak : Addr) (w : World) (hQ : Ri w A qs) (hR : Row w B (ts.flatMap Ten.vals)) (hI : ∀ t ∈ ts, (Ri w t.P t.zs ∧ Ri w t.D t.ds) ∧ t.zs.length ≤ t.cap ∧ t.ds.length ≤ t.dcap) (hE : E4 w ah am ar ak) (hKz : Kz w) :
    Calls Tryd.prog 5 #[.int .i64 op, .slice A qs.length qcap, .slice B ts.length cap] w fun e w' => e = .returned (.bool true) ∧ Below w.heap.size w w' := by
  have HF := hide (first12_c ah am ar ak w hE hKz)
  have HE := hide (fun W (hb : Below w.heap.size w W) => hE.below hb)
  have VL := hide (fun W (hb : Below w.heap.size w W) => light_c op qs ts A B qcap cap W (hQ.below hb) (hR.below hb) (fun t ht => ⟨(hI t ht).1.1.below hb, (hI t ht).1.2.below hb⟩) (fun t ht => (hI t ht).2.1))
  have HR := hide (fun W (hb : Below w.heap.size w W) => hR.below hb)
  have HQ := hide (fun W (hb : Below w.heap.size w W) => hQ.below hb)
  have HKk := hide (fun W (hb : Below w.heap.size w W) => hKz.below hb)
  have HIn : Hid ((∀ t ∈ ts, t.small) → ∀ W, Below w.heap.size w W → Tens.AllIn W ts) := hide fun h8 W hb t ht => ⟨(hI t ht).1.1.below hb, (hI t ht).1.2.below hb, by have := (h8 t ht).1; omega, by have := (h8 t ht).2; omega⟩
  have HCd : Hid (∀ t ∈ ts, t.ds.length ≤ t.dcap) := hide fun t ht => (hI t ht).2.2
  obtain ⟨nq, hnq⟩ : ∃ n, Hid (qs.length = n) := ⟨_, hide rfl⟩
  obtain ⟨nt, hnt⟩ : ∃ n, Hid (ts.length = n) := ⟨_, hide rfl⟩
  rw [hnq.out, hnt.out] at VL
  rw [hnq.out, hnt.out]
  clear hQ hR hI hE hKz
  go_enter Tryd.func5, Tryd.ntmps5
  go_wp2_with fail
  refine HF.out.mono ?_
  rintro e w1 ⟨rfl, hb⟩
  have HB1 := hide hb
  clear hb HF
  go_wp2_with fail
  refine (VL.out _ HB1.out).mono ?_
  rintro e w2 ⟨⟨b, rfl, hs⟩, hb⟩
  have HB := hide (HB1.out.trans (hb.mono HB1.out.size))
  clear VL HB1 hb
  cases b
  case false =>
    go_wp2_with fail
    go_ret
    exact ⟨rfl, HB.out⟩
  case true =>
  have hs := hs rfl
  have Hq : Hid (qs.length ≤ 10) := hide (by rw [hnq.out]; exact hs.1)
  have Ht : Hid (ts.length ≤ 3) := hide (by rw [hnt.out]; exact hs.2.1)
  have HI := hide (HIn.out hs.2.2)
  clear hs HIn
  have VT := hide (fun W (hb : Below w.heap.size w W) => reftensors_c ts B cap W (HR.out W hb) (HI.out W hb) (by have := Ht.out; omega))
  rw [hnt.out] at VT
  by_cases hf : Op.fault op qs ts = (0, none)
  case neg =>
    have VE := hide (fun W (hb : Below w.heap.size w W) => opelement_bad op qs ts hf 0 A B qcap cap ah am ar ak W (HQ.out W hb) (by have := Hq.out; omega) (HR.out W hb) (HI.out W hb) (by have := Ht.out; omega) (HE.out W hb) (HKk.out W hb))
    have VA := hide (fun W (hb : Below w.heap.size w W) => opapply_c op qs ts [] A B qcap cap ah am ar ak W (HQ.out W hb) (by have := Hq.out; omega) (HR.out W hb) (HI.out W hb) (by have := Ht.out; omega) (HE.out W hb) (HKk.out W hb) (fun h => absurd h hf))
    have hfc := Op.fault_cases op qs ts
    rw [hnq.out, hnt.out] at VE VA
    generalize Op.fault op qs ts = FF at hf hfc VA
    have HFF := hide (show ∀ W x, Elm.Err W ah am ar ak x FF → ErrV x from fun W x h => h.errv hfc hf)
    have HNF := hide hf
    unfold OpT at VA
    clear hfc hf
    go_wp2_with fail
    refine (VT.out _ HB.out).mono ?_
    rintro e d1 ⟨⟨us, UD, uc, rfl, hUR, hUK, hUI⟩, hb⟩
    replace HB := hide (HB.out.trans (hb.mono HB.out.size))
    clear hb
    have VS := hide (fun W (hb : Below w.heap.size w W) (hr : Row W UD (us.flatMap Ten.vals)) (hi : Tens.AllIn W us) => sametensors_c ts us B UD cap uc W (HR.out W hb) hr (HI.out W hb) hi hUK (by have := Ht.out; omega))
    rw [hnt.out] at VS
    have UR := hide hUR
    have UI : Hid (Tens.AllIn _ us) := hide hUI
    clear hUR hUK hUI
    go_wp2_with fail
    refine (VA.out _ HB.out).mono ?_
    rintro e d2 ⟨⟨t, x, rfl, ht, -, htd, hx⟩, hb⟩
    replace HB := hide (HB.out.trans (hb.mono HB.out.size))
    replace UR := hide (UR.out.below hb)
    replace UI := hide (UI.out.below hb)
    clear hb
    have htd := htd HNF.out
    have hEr := HFF.out _ _ hx
    have r1 := run_neqerr hEr
    have r2 := run_neqguard hEr
    rw [htd]
    clear ht htd hx hEr
    obtain ⟨d3, hd3⟩ : ∃ W, W = d2.alloc (.cells #[.slice t.P t.zs.length t.cap, .bool t.u, .slice t.D 0 t.dcap] 26) := ⟨_, rfl⟩
    have hbA : Below d2.heap.size d2 d3 := by rw [hd3]; exact (Below.refl _ _).alloc (Nat.le_refl _) _
    have BT : Hid (Has d3 d2.heap.size 26 [.slice t.P t.zs.length t.cap, .bool t.u, .slice t.D 0 t.dcap]) := hide (by rw [hd3]; exact Has.new _ _ _)
    replace HB := hide (HB.out.trans (hbA.mono HB.out.size))
    replace UR := hide (UR.out.below hbA)
    replace UI := hide (UI.out.below hbA)
    have Hd3 := hide hd3
    clear hd3 hbA
    go_wp2_with fail
    rw [← Hd3.out]
    clear Hd3
    refine (VS.out _ HB.out UR.out UI.out).mono ?_
    rintro e d4 ⟨rfl, hb⟩
    replace HB := hide (HB.out.trans (hb.mono HB.out.size))
    replace UR := hide (UR.out.below hb)
    replace UI := hide (UI.out.below hb)
    replace BT := hide (BT.out.below hb BT.out.lt)
    clear hb
    clear UR UI
    have c_BT2 := BT.out.cell 2
    go_wp2_with fail
    clear c_BT2
    refine (VE.out _ HB.out).mono ?_
    rintro e d5 ⟨rfl, hb⟩
    replace HB := hide (HB.out.trans (hb.mono HB.out.size))
    replace BT := hide (BT.out.below hb BT.out.lt)
    clear hb
    go_wp2_with fail
    go_ret
    exact ⟨rfl, HB.out⟩
  case pos =>
  obtain ⟨rs, X, Y, hH⟩ := op_has hf HCd.out
  have VA := hide (fun W (hb : Below w.heap.size w W) => opapply_has hH hf A B qcap cap ah am ar ak W (HQ.out W hb) (by have := Hq.out; omega) (HR.out W hb) (HI.out W hb) (by have := Ht.out; omega) (HE.out W hb) (HKk.out W hb))
  have VE := hide (fun (i : Int) (h1 : i ≤ 9223372036854775807) (h2 : -9223372036854775808 ≤ i) W (hb : Below w.heap.size w W) => opelement_has hH hf i h1 h2 A B qcap cap ah am ar ak W (HQ.out W hb) (by have := Hq.out; omega) (HR.out W hb) (HI.out W hb) (by have := Ht.out; omega) (HE.out W hb) (HKk.out W hb))
  have VR := hide (fun W (C : Option Addr) (c : Nat) (hb : Below w.heap.size w W) (hr : Row W C (ts.flatMap fun t => t.look.vals)) => opresult_c op qs (ts.map Ten.look) A C qcap c ah am ar ak W (HQ.out W hb) (by have := Hq.out; omega) (by rw [Ten.flat_look]; exact hr) (fun d hd => by
    obtain ⟨t, ht, rfl⟩ := List.mem_map.1 hd
    exact (HI.out W hb t ht).look) (by rw [List.length_map]; have := Ht.out; omega) (HE.out W hb) (HKk.out W hb))
  obtain ⟨hl, hn, hX, hFt, -⟩ := hH
  have HFT : Hid (Tens.fault X Y rs = (0, none)) := hide (Tens.fault_none _ _ _ hX hn (fun j y hy => hFt y (List.mem_of_getElem? hy)))
  rw [List.length_map, hl] at VR
  unfold OpE at VR
  rw [show Elm.err ah am ar ak (0, X, Y).1 = .nilIface from rfl] at VR
  rw [hnq.out, hnt.out] at VA VE VR
  obtain ⟨i0, hi0, hz0, hz1, hz2⟩ := descinfo
  have HI0 := hide hi0
  have HZ0 := hide hz0
  have HZ1 := hide hz1
  have HZ2 := hide hz2
  have HU := hide uds
  have Hn3 : Hid (nt ≤ 3) := hide (by rw [← hnt.out]; exact Ht.out)
  clear hi0 hz0 hz1 hz2 hl hn hX hFt hf HCd
  go_wp2_with fail
  refine (VT.out _ HB.out).mono ?_
  rintro e d1 ⟨⟨us, UD, uc, rfl, hUR, hUK, hUI⟩, hb⟩
  replace HB := hide (HB.out.trans (hb.mono HB.out.size))
  clear hb
  have VS := hide (fun W (hb : Below w.heap.size w W) (hr : Row W UD (us.flatMap Ten.vals)) (hi : Tens.AllIn W us) => sametensors_c ts us B UD cap uc W (HR.out W hb) hr (HI.out W hb) hi hUK (by have := Ht.out; omega))
  rw [hnt.out] at VS
  have UR := hide hUR
  have UI : Hid (Tens.AllIn _ us) := hide hUI
  clear hUR hUK hUI
  go_wp2_with fail
  refine (VA.out _ HB.out).mono ?_
  rintro e d2 ⟨⟨t, rfl, ht, htz, htu, htd, -⟩, hb⟩
  replace HB := hide (HB.out.trans (hb.mono HB.out.size))
  replace UR := hide (UR.out.below hb)
  replace UI := hide (UI.out.below hb)
  clear hb
  have TT := hide ht
  have ZT := hide htz
  have UT := hide htu
  have DT := hide htd
  clear ht htz htu htd
  obtain ⟨d3, hd3⟩ : ∃ W, W = d2.alloc (.cells #[.slice t.P t.zs.length t.cap, .bool t.u, .slice t.D t.ds.length t.dcap] 26) := ⟨_, rfl⟩
  have hbA : Below d2.heap.size d2 d3 := by rw [hd3]; exact (Below.refl _ _).alloc (Nat.le_refl _) _
  have BT : Hid (Has d3 d2.heap.size 26 [.slice t.P t.zs.length t.cap, .bool t.u, .slice t.D t.ds.length t.dcap]) := hide (by rw [hd3]; exact Has.new _ _ _)
  replace HB := hide (HB.out.trans (hbA.mono HB.out.size))
  replace UR := hide (UR.out.below hbA)
  replace UI := hide (UI.out.below hbA)
  replace TT := hide (TT.out.below hbA)
  have Hd3 := hide hd3
  clear hd3 hbA
  go_wp2_with fail
  rw [← Hd3.out]
  clear Hd3
  refine (VS.out _ HB.out UR.out UI.out).mono ?_
  rintro e d4 ⟨rfl, hb⟩
  replace HB := hide (HB.out.trans (hb.mono HB.out.size))
  replace UR := hide (UR.out.below hb)
  replace UI := hide (UI.out.below hb)
  replace TT := hide (TT.out.below hb)
  replace BT := hide (BT.out.below hb BT.out.lt)
  clear hb
  clear UR UI
  clear VS VT VA
  go_wp2_with fail
  go_loopw [11, 12] (fun v k wr => ∃ i : Nat, i ≤ nt ∧ k = .int .i64 i ∧ Hid (wr.ownsRow d4.heap.size 24 2 v i ((ts.take i).flatMap fun t => t.look.vals)) ∧ Hid (Below d4.heap.size d4 wr)) (fun _ k _ => nt - (intOf k).toNat)
  case atStart => exact ⟨0, by omega, rfl, hide ⟨rfl, .inl ⟨rfl, rfl⟩⟩, hide (Below.refl _ _)⟩
  case round =>
    obtain ⟨i, hi, rfl, HO, HBL⟩ := hrel
    have hi3 := Hn3.out
    by_cases hlt : i < nt
    · obtain ⟨ad, x, rfl, had, ht, c0, c1, c2⟩ := row_ten (HR.out _ (HB.out.trans (HBL.out.mono HB.out.size))) i (by rw [hnt.out]; exact hlt)
      have hown2 := hide (HO.out.alloc (.cells #[.slice x.P x.zs.length x.cap, .bool x.u] 24))
      have HB2 := hide (HBL.out.alloc HBL.out.size (.cells #[.slice x.P x.zs.length x.cap, .bool x.u] 24))
      have hsz := hide HB2.out.size
      have hnw := hide (new_cells wr 24 [.slice x.P x.zs.length x.cap, .bool x.u])
      have h1w : Hid (∀ y ∈ [Value.slice x.P x.zs.length x.cap, .bool x.u], y.oneCell' = true) := hide (by
        intro y hy
        simp at hy
        rcases hy with rfl | rfl
        all_goals rfl)
      clear HO HBL
      go_wp2_with (at_builtin; refine wpList_append_own_at _ rfl _ _ 44 rfl d4.heap.size 24 i0 (.agg #[.slice none 0 0, .bool false]) 2 32 HU.out HI0.out HZ0.out HZ1.out HZ2.out rfl (by decide) _ i _ rfl hown2.out ⟨wr.heap.size, 0, none⟩ 1 1 [.slice x.P x.zs.length x.cap, .bool x.u] rfl rfl hnw.out h1w.out (by unfold maxLen; omega) (by omega) hsz.out ?_)
      intro s0 W0 hown' hgrow hnil hat
      have HBL := hide (elm_grown HB2.out hown2.out HB2.out.size hgrow)
      have HO := hide hown'
      clear HB2 hown2 hown' hgrow hnw h1w hsz hnil hat c0 c1 c2 had
      go_wp2_with fail
      go_roundw
      case rel =>
        refine ⟨i + 1, by omega, by go_num, hide ?_, HBL⟩
        have h := HO.out
        rw [List.take_add_one, ht.out, Option.toList_some, List.flatMap_append, List.flatMap_cons, List.flatMap_nil, List.append_nil]
        exact h
      case measure => simp [intOf]; omega
    · obtain rfl : i = nt := by omega
      have hl2 : ts.take i = ts := List.take_of_length_le (by rw [hnt.out]; exact Nat.le_refl _)
      rw [hl2] at HO
      obtain ⟨C, c, rfl, hrow⟩ := own_row HO.out
      obtain ⟨wl, hwl⟩ : ∃ W, W = wr := ⟨_, rfl⟩
      subst hwl
      have hbl := HBL.out
      replace HB := hide (HB.out.trans (hbl.mono HB.out.size))
      replace TT := hide (TT.out.below hbl)
      replace BT := hide (BT.out.below hbl BT.out.lt)
      have HV := hide (VR.out wl C c HB.out hrow)
      clear hl2 hrow HO HBL VR hlt hi hbl
      go_wp2_with fail
      refine (HV.out).mono ?_
      rintro e e1 ⟨⟨d, rfl, hdi, hdz, hdu⟩, hb⟩
      replace HB := hide (HB.out.trans (hb.mono HB.out.size))
      replace TT := hide (TT.out.below hb)
      replace BT := hide (BT.out.below hb BT.out.lt)
      clear hb
      have XD := hide hdi.shp
      have LD := hide hdi.ls
      have ZD := hide hdz
      have UDD := hide hdu
      clear hdi hdz hdu HV
      have c_BT0 := BT.out.cell 0
      have c_BT1 := BT.out.cell 1
      have c_BT2 := BT.out.cell 2
      have l_BT := BT.out.lt
      obtain ⟨e2, he2⟩ : ∃ W, W = e1.alloc (.cells #[.slice d.P d.zs.length d.cap, .bool d.u] 24) := ⟨_, rfl⟩
      have hbA : Below e1.heap.size e1 e2 := by rw [he2]; exact (Below.refl _ _).alloc (Nat.le_refl _) _
      have BD : Hid (Has e2 e1.heap.size 24 [.slice d.P d.zs.length d.cap, .bool d.u]) := hide (by rw [he2]; exact Has.new _ _ _)
      replace HB := hide (HB.out.trans (hbA.mono HB.out.size))
      replace TT := hide (TT.out.below hbA)
      replace BT := hide (BT.out.below hbA BT.out.lt)
      replace XD := hide (XD.out.below hbA)
      have He2 := hide he2
      clear he2 hbA
      go_wp2_with fail
      rw [← He2.out]
      clear He2 c_BT0 c_BT1 c_BT2 l_BT
      refine (rvalid_good t ah am ar _ TT.out (HE.out _ HB.out).1 (by rw [ZT.out, UT.out, DT.out]; exact HFT.out)).mono ?_
      rintro e e3 ⟨rfl, hb⟩
      replace HB := hide (HB.out.trans (hb.mono HB.out.size))
      replace TT := hide (TT.out.below hb)
      replace BT := hide (BT.out.below hb BT.out.lt)
      replace XD := hide (XD.out.below hb)
      replace BD := hide (BD.out.below hb BD.out.lt)
      clear hb
      have c_BT0 := BT.out.cell 0
      have c_BT1 := BT.out.cell 1
      have c_BD0 := BD.out.cell 0
      have c_BD1 := BD.out.cell 1
      go_wp2_with fail
      clear c_BT0 c_BT1 c_BD0 c_BD1
      refine (rdesc_good d.zs t.zs _ _ _ _ d.u t.u _ XD.out TT.out.shp LD.out (ZD.out.trans ZT.out.symm) (UDD.out.trans UT.out.symm)).mono ?_
      rintro e e4 ⟨rfl, hb⟩
      replace HB := hide (HB.out.trans (hb.mono HB.out.size))
      replace TT := hide (TT.out.below hb)
      replace BT := hide (BT.out.below hb BT.out.lt)
      replace XD := hide (XD.out.below hb)
      replace BD := hide (BD.out.below hb BD.out.lt)
      clear hb
      clear BD XD
      go_wp2_with fail
      obtain ⟨nd, hnd⟩ : ∃ n, Hid (t.ds.length = n) := ⟨_, hide rfl⟩
      have Hnd : Hid (nd ≤ 1000000) := hide (by rw [← hnd.out]; exact TT.out.ld)
      rw [hnd.out] at BT
      obtain ⟨we, hwe⟩ : ∃ W, W = e4 := ⟨_, rfl⟩
      subst hwe
      go_loopw [15] (fun k wr => ∃ i : Nat, (i ≤ nd ∧ i ≤ 60) ∧ k = .int .i64 i ∧ Hid (Below we.heap.size we wr)) (fun k _ => 60 - (intOf k).toNat)
      case atStart => exact ⟨0, by omega, rfl, hide (Below.refl _ _)⟩
      case round =>
        obtain ⟨j, hj, rfl, HBL⟩ := hrel
        have hnd2 := Hnd.out
        have BTr := hide (BT.out.below HBL.out BT.out.lt)
        have TTr := hide (TT.out.below HBL.out)
        have HBr := hide (HB.out.trans (HBL.out.mono HB.out.size))
        have c2 := BTr.out.cell 2
        by_cases h1 : j < nd
        · by_cases h2 : j < 60
          · obtain ⟨ad, y, hAD, ey, cy⟩ := ri_at TTr.out.dat j (by rw [hnd.out]; exact h1)
            rw [hAD] at c2 BTr
            have hat : Op.at rs (j : Int) = y := by
              unfold Op.at
              rw [if_pos (by omega), Int.toNat_natCast, ← DT.out, List.getD_eq_getElem?_getD, ey.out]
              rfl
            have HBD := hide HBr.out.drew
            have HV := hide (VE.out (j : Int) (by omega) (by omega) wr.drew HBD.out)
            rw [hat] at HV
            have hyy : (y != y) = false := by simp
            have hBL := hide (HBL.out.drew)
            have him : (j : Int) < nd := by omega
            have hi6 : (j : Int) < 60 := by omega
            have hi0 : (0 : Int) ≤ (j : Int) := by omega
            clear hAD ey hat VE HBr TTr
            go_wp2_with fail
            go_region_law (first | (go_simp; go_at_call 30; refine HV.out.mono ?_; rintro e wv ⟨rfl, hb⟩; have HBL2 := hide (hBL.out.trans (hb.mono hBL.out.size)); have cy2 := cell_kept hb cy; have c22 := cell_kept hb c2; clear hb))
            all_goals go_ways
            all_goals
              clear HV c2 cy
              go_wp2_with fail
              go_roundw
              case rel => exact ⟨j + 1, by omega, by go_num, HBL2⟩
              case measure => simp [intOf]; omega
          · obtain rfl : j = 60 := by omega
            have him : ((60 : Nat) : Int) < nd := by omega
            have H1 := hide (VE.out (-1) (by decide) (by decide) wr HBr.out)
            have H2 := hide (VE.out (nd : Int) (by omega) (by omega))
            rw [show Op.at rs (-1) = 0 from if_neg (by decide)] at H1
            rw [show Op.at rs (nd : Int) = 0 by
              unfold Op.at
              rw [if_pos (by omega), Int.toNat_natCast, ← DT.out, List.getD_eq_getElem?_getD, List.getElem?_eq_none (by rw [hnd.out]; exact Nat.le_refl _)]
              rfl] at H2
            clear VE TTr
            go_wp2_with fail
            clear c2
            refine H1.out.mono ?_
            rintro e wv ⟨rfl, hb⟩
            have HBv := hide (HBr.out.trans (hb.mono HBr.out.size))
            have BTv := hide (BTr.out.below hb BTr.out.lt)
            have c2 := BTv.out.cell 2
            clear H1 HBr BTr hb
            go_wp2_with fail
            refine (H2.out _ HBv.out).mono ?_
            rintro e wx ⟨rfl, hb⟩
            have HBx := hide (HBv.out.trans (hb.mono HBv.out.size))
            clear H2 HBv BTv hb c2
            go_wp2_with fail
            go_ret
            exact ⟨rfl, HBx.out⟩
        · obtain rfl : j = nd := by omega
          have him : ¬ (j : Int) < (j : Int) := by omega
          have H1 := hide (VE.out (-1) (by decide) (by decide) wr HBr.out)
          have H2 := hide (VE.out (j : Int) (by omega) (by omega))
          rw [show Op.at rs (-1) = 0 from if_neg (by decide)] at H1
          rw [show Op.at rs (j : Int) = 0 by
            unfold Op.at
            rw [if_pos (by omega), Int.toNat_natCast, ← DT.out, List.getD_eq_getElem?_getD, List.getElem?_eq_none (by rw [hnd.out]; exact Nat.le_refl _)]
            rfl] at H2
          clear VE TTr
          go_wp2_with fail
          clear c2
          refine H1.out.mono ?_
          rintro e wv ⟨rfl, hb⟩
          have HBv := hide (HBr.out.trans (hb.mono HBr.out.size))
          have BTv := hide (BTr.out.below hb BTr.out.lt)
          have c2 := BTv.out.cell 2
          clear H1 HBr BTr hb
          go_wp2_with fail
          refine (H2.out _ HBv.out).mono ?_
          rintro e wx ⟨rfl, hb⟩
          have HBx := hide (HBv.out.trans (hb.mono HBv.out.size))
          clear H2 HBv BTv hb c2
          go_wp2_with fail
          go_ret
          exact ⟨rfl, HBx.out⟩
end Go.Proofs.YtgdcfjmpjhlndaaDoor
