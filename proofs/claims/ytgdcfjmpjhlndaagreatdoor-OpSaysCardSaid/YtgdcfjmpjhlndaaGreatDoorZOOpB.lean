/-
  Reshaped, turned: what they look like; package op's reshaped, turned, walked. By an AI agent. No person has read it.
-/
import Derived.Test.YtgdcfjmpjhlndaaGreatDoorZOOpA
import Derived.Test.YtgdcfjmpjhlndaaGreatDoorZOCelC
import Derived.RegionTactic
import Derived.ChangeAlike
import Derived.BigRegion
namespace Go.Proofs.YtgdcfjmpjhlndaaGreatDoor
open Go.RowKit
def Op.tcode (d : Dsc) : Nat := if Shp.code d.zs ≠ 0 then Shp.code d.zs else if d.zs.length ≠ 2 then 101 else 0
def Op.tshape (d : Dsc) : List Int := if Op.tcode d = 0 then [d.zs.getD 1 0, d.zs.getD 0 0] else []
def Op.tkind (d : Dsc) : Bool := if Op.tcode d = 0 then d.u else false
theorem Op.tbad {d : Dsc} (h : Op.tcode d ≠ 0) : Op.tshape d = [] ∧ Op.tkind d = false := by
 unfold Op.tshape Op.tkind
 rw [if_neg h, if_neg h]
 exact ⟨rfl, rfl⟩
def Op.rcode (qs : List Int) (d : Dsc) : Nat := if Shp.code d.zs ≠ 0 then Shp.code d.zs else if Shp.code qs ≠ 0 then Shp.code qs else if Shp.elems qs ≠ Shp.elems d.zs then 101 else 0
def Op.rshape (qs : List Int) (d : Dsc) : List Int := if Op.rcode qs d = 0 then qs else []
def Op.rkind (qs : List Int) (d : Dsc) : Bool := if Op.rcode qs d = 0 then d.u else false
theorem Op.rbad {qs : List Int} {d : Dsc} (h : Op.rcode qs d ≠ 0) : Op.rshape qs d = [] ∧ Op.rkind qs d = false := by
 unfold Op.rshape Op.rkind
 rw [if_neg h, if_neg h]
 exact ⟨rfl, rfl⟩
theorem Op.tcode_known (d : Dsc) : Cel.known (Op.tcode d) := by
 unfold Op.tcode
 split
 ·exact Cel.known_shp _
 split
 ·exact .inr (.inl rfl)
 ·exact .inl rfl
theorem Op.rcode_known (qs : List Int) (d : Dsc) : Cel.known (Op.rcode qs d) := by
 unfold Op.rcode
 split
 ·exact Cel.known_shp _
 split
 ·exact Cel.known_shp _
 split
 ·exact .inr (.inl rfl)
 ·exact .inl rfl
set_option maxRecDepth 100000 in
set_option maxHeartbeats 8000000 in
theorem opturned_c (d : Dsc) (ah am ar : Addr) (w : World) (hd : d.In w) (hE : E3 w ah am ar) :
  Calls Tryz.prog 101 #[.agg (dcells d.P d.zs.length d.cap d.u)] w (DscE w ah am ar (Op.tshape d) (Op.tkind d) (Op.tcode d)) := by
 have HV := hide (fun W (h : Below w.heap.size w W) => valid_c d.zs d.P d.cap d.u am ar W (hd.shp.below h) (by have := hd.ls; omega) (hE.2.below h))
 obtain ⟨W0, hW0⟩ : ∃ W, W = (w.alloc (.cells #[.slice d.P d.zs.length d.cap, .bool d.u] 24)).alloc (.cells #[.slice none 0 0, .bool false] 24) := ⟨_, rfl⟩
 have HA : Hid (Has W0 w.heap.size 24 [.slice d.P d.zs.length d.cap, .bool d.u]) := hide (by rw [hW0]; exact (Has.new w 24 _).alloc _)
 have HZ : Hid (Has W0 (w.heap.size + 1) 24 [.slice none 0 0, .bool false]) := hide (by rw [hW0]; exact box_at _ _ _ _ (by simp))
 have HB0 : Hid (Below w.heap.size w W0) := hide (by rw [hW0]; exact ((Below.refl _ _).alloc (Nat.le_refl _) _).alloc (by simp) _)
 have HW := hide hW0
 have HEs := hide hE.1
 have HI := hide (fun W (h : Below w.heap.size w W) => hd.shp.below h)
 have hkd := Shp.code_is d.zs
 have HBAD : Hid (Op.tcode d ≠ 0 → Op.tshape d = [] ∧ Op.tkind d = false) := hide Op.tbad
 obtain ⟨kd, hk⟩ : ∃ k, Hid (Shp.code d.zs = k) := ⟨_, hide rfl⟩
 rw [hk.out] at HV hkd
 have c0 : W0.cell? ⟨w.heap.size, 0, none⟩ = some (.slice d.P d.zs.length d.cap) := HA.out.cell 0
 have c1 : W0.cell? ⟨w.heap.size, 1, none⟩ = some (.bool d.u) := HA.out.cell 1
 have HTC : Hid (kd ≠ 0 → Op.tcode d = kd) := hide (fun h => by unfold Op.tcode; rw [if_pos (by rw [hk.out]; exact h), hk.out])
 have HTC1 : Hid (kd = 0 → d.zs.length ≠ 2 → Op.tcode d = 101) := hide (fun h h2 => by unfold Op.tcode; rw [if_neg (by rw [hk.out, h]; decide), if_pos h2])
 have HTC0 : Hid (kd = 0 → d.zs.length = 2 → Op.tcode d = 0) := hide (fun h h2 => by unfold Op.tcode; rw [if_neg (by rw [hk.out, h]; decide), if_neg (by rw [h2]; decide)])
 clear hd hE hW0
 go_enter Tryz.func101, Tryz.ntmps101
 go_wp2_with fail
 rw [← HW.out]
 clear HW
 refine (HV.out _ HB0.out).mono ?_
 rintro e w1 ⟨rfl, hb⟩
 replace HA := hide (HA.out.below hb HA.out.lt)
 replace HZ := hide (HZ.out.below hb HZ.out.lt)
 replace HB0 := hide (HB0.out.trans (hb.mono HB0.out.size))
 clear hb c0 c1 HV
 by_cases h1 : kd = 0
 case neg =>
  have hcd : Op.tcode d = kd := by
   exact HTC.out h1
  obtain ⟨e1, e2⟩ := HBAD.out (by rw [hcd]; exact h1)
  have HD1 := hide e1
  have HD2 := hide e2
  have HCD := hide hcd
  have hv := Shp.err_v (am := am) (ar := ar) hkd h1
  have r1 := run_neqerr hv
  have r2 := run_neqguard hv
  have hx : Tens.err ah am ar kd = Shp.err am ar kd := by
   unfold Tens.err
   rw [if_neg (by omega)]
  have HX := hide hx
  clear hv hx hcd e1 e2 hkd h1
  obtain ⟨z0, z1, zf0, zf1, HZf, HFf⟩ := elm_two HZ.out HB0.out (Nat.le_add_right _ 1) (.slice none 0 0) (.bool false)
  go_wp2_with fail
  refine bodyPost_ret (results_desc rfl _ _ (w.heap.size + 1) _ _ rfl HZf.out) rfl ?_
  rw [HD1.out, HD2.out, HCD.out]
  exact DscE.bad (by rw [HX.out]; rfl) HFf.out
 case pos =>
 subst h1
 have hs1 : Shp.err am ar 0 = .nilIface := rfl
 rw [hs1]
 clear hs1 hkd HTC
 have c0 : w1.cell? ⟨w.heap.size, 0, none⟩ = some (.slice d.P d.zs.length d.cap) := HA.out.cell 0
 have c1 : w1.cell? ⟨w.heap.size, 1, none⟩ = some (.bool d.u) := HA.out.cell 1
 by_cases h2 : d.zs.length = 2
 case neg =>
  have hcd := HTC1.out rfl h2
  obtain ⟨e1, e2⟩ := HBAD.out (by rw [hcd]; decide)
  have HD1 := hide e1
  have HD2 := hide e2
  have HCD := hide hcd
  obtain ⟨n, hn⟩ : ∃ n, Hid (d.zs.length = n) := ⟨_, hide rfl⟩
  rw [hn.out] at h2 c0
  have hne : ¬ (n : Int) = 2 := by omega
  have hnb : ((n : Int) != 2) = true := by simp; omega
  clear e1 e2 hcd HTC0 HTC1 h2
  obtain ⟨z0, z1, zf0, zf1, HZf, HFf⟩ := elm_twod HZ.out HB0.out (Nat.le_add_right _ 1) (.slice none 0 0) (.bool false)
  have hs5 : w1.drew.cell? ⟨1, 0, none⟩ = some (errv ah) := (HEs.out.below HB0.out).1
  have hglt : 1 < w.heap.size := HEs.out.2.1
  have hS9 := hide (HEs.out.below HFf.out).1
  go_wp2_with fail
  go_region_held3 (fun W => W.cell? ⟨1, 0, none⟩ = some (errv ah))
   (first | exact hs5 | assumption | exact hS9.out)
   (first | fail)
  go_wp2_with fail
  refine bodyPost_ret (results_desc rfl _ _ (w.heap.size + 1) _ _ rfl HZf.out) rfl ?_
  rw [HD1.out, HD2.out, HCD.out]
  exact DscE.bad rfl HFf.out
 case pos =>
 have hcd := HTC0.out rfl h2
 obtain ⟨m, n, hzs⟩ : ∃ m n, d.zs = [m, n] := by
  match hz : d.zs, h2 with
  | [m, n], _ => exact ⟨m, n, rfl⟩
 have HZS := hide hzs
 have hri := HI.out w1 HB0.out
 rw [hzs] at hri
 obtain ⟨pa, hpa, p0, p1⟩ := ri_pair hri
 have hpal : pa.block < w1.heap.size := by obtain ⟨ad, h3, h4, -⟩ := hri.2 (by simp); rw [hpa] at h3; rw [Option.some.inj h3]; exact h4
 have HWF : Hid (∀ q ∈ [n, m], (Lit.int .i64 q).wf = true) := hide (by
  intro q hq
  simp at hq
  rcases hq with rfl | rfl
  ·exact hri.1 _ (by simp)
  ·exact hri.1 _ (by simp))
 have HCD := hide hcd
 have HS : Hid (Op.tshape d = [n, m] ∧ Op.tkind d = d.u) := hide (by
  unfold Op.tshape Op.tkind
  rw [if_pos HCD.out, if_pos HCD.out, HZS.out]
  exact ⟨rfl, rfl⟩)
 rw [hpa, h2] at c0
 have hby : Below w1.heap.size w1 (w1.alloc (.cells #[.int .i64 n, .int .i64 m] 3)) := (Below.refl _ _).alloc (Nat.le_refl _) _
 have l0 : w.heap.size < w1.heap.size := HA.out.lt
 have c0y : (w1.alloc (.cells #[.int .i64 n, .int .i64 m] 3)).cell? ⟨w.heap.size, 0, none⟩ = some (.slice (some pa) 2 d.cap) := (hby.cell (p := ⟨w.heap.size, 0, none⟩) l0).trans c0
 have c1y : (w1.alloc (.cells #[.int .i64 n, .int .i64 m] 3)).cell? ⟨w.heap.size, 1, none⟩ = some (.bool d.u) := (hby.cell (p := ⟨w.heap.size, 1, none⟩) l0).trans c1
 obtain ⟨z0, z1, zf0, zf1, HZp, HFp⟩ := elm_two HZ.out HB0.out (Nat.le_add_right _ 1) (.slice (some ⟨w1.heap.size, 0, none⟩) 2 2) (.bool d.u)
 have l1 : w.heap.size + 1 < w1.heap.size := HZ.out.lt
 have HZf := hide (Has.drewN (HZp.out.alloc (.cells #[.int .i64 n, .int .i64 m] 3)) 1)
 have HFf := hide ((HFp.out.alloc HFp.out.size (.cells #[.int .i64 n, .int .i64 m] 3)).drew)
 have HXI := hide (fun (W : World) (h : W.heap.size = w1.heap.size) => (Has.drewN (box_at W 3 (i64s [n, m]) w1.heap.size h) 1).ri HWF.out)
 have HL1 := hide l1
 clear hcd hzs hri h2 hby HTC0 HTC1 HBAD hpa HZS HEs HI
 go_wp2_with fail
 go_region
 go_wp2_with fail
 refine bodyPost_ret (results_desc rfl _ _ (w.heap.size + 1) _ _ rfl HZf.out) rfl ?_
 rw [HS.out.1, HS.out.2, HCD.out]
 exact ⟨⟨⟨some ⟨w1.heap.size, 0, none⟩, [n, m], 2, d.u⟩, rfl, ⟨HXI.out _ (by simp), by show 2 ≤ 1000000; omega⟩, (fun ad h => by cases h; show w.heap.size + 1 ≤ w1.heap.size; have := HL1.out; omega), rfl, rfl⟩, HFf.out⟩
set_option maxRecDepth 100000 in
set_option maxHeartbeats 8000000 in
theorem opreshaped_c (qs : List Int) (A : Option Addr) (qcap : Nat) (d : Dsc) (ah am ar : Addr) (w : World) (hq : Ri w A qs) (hql : qs.length ≤ 1000000) (hd : d.In w) (hE : E3 w ah am ar) :
  Calls Tryz.prog 100 #[.slice A qs.length qcap, .agg (dcells d.P d.zs.length d.cap d.u)] w (DscE w ah am ar (Op.rshape qs d) (Op.rkind qs d) (Op.rcode qs d)) := by
 have HVd := hide (fun W (h : Below w.heap.size w W) => valid_c d.zs d.P d.cap d.u am ar W (hd.shp.below h) (by have := hd.ls; omega) (hE.2.below h))
 have HEd := hide (fun W (h : Below w.heap.size w W) => elems_c d.zs d.P d.cap am ar W (hd.shp.below h) (by have := hd.ls; omega) (hE.2.below h))
 have HEq := hide (fun W (h : Below w.heap.size w W) => elems_c qs A qcap am ar W (hq.below h) (by omega) (hE.2.below h))
 have HE2 := hide (fun W (h : Below w.heap.size w W) => hE.2.below h)
 obtain ⟨W0, hW0⟩ : ∃ W, W = (w.alloc (.cells #[.slice d.P d.zs.length d.cap, .bool d.u] 24)).alloc (.cells #[.slice none 0 0, .bool false] 24) := ⟨_, rfl⟩
 have HA : Hid (Has W0 w.heap.size 24 [.slice d.P d.zs.length d.cap, .bool d.u]) := hide (by rw [hW0]; exact (Has.new w 24 _).alloc _)
 have HZ : Hid (Has W0 (w.heap.size + 1) 24 [.slice none 0 0, .bool false]) := hide (by rw [hW0]; exact box_at _ _ _ _ (by simp))
 have HB0 : Hid (Below w.heap.size w W0) := hide (by rw [hW0]; exact ((Below.refl _ _).alloc (Nat.le_refl _) _).alloc (by simp) _)
 have HCl := hide (clone_own qs A qcap d.u W0 (hq.below HB0.out) hql)
 have HW := hide hW0
 have HEs := hide hE.1
 have HQW := hide hq.1
 have hkd := Shp.code_is d.zs
 have hkq := Shp.code_is qs
 have HBAD : Hid (Op.rcode qs d ≠ 0 → Op.rshape qs d = [] ∧ Op.rkind qs d = false) := hide Op.rbad
 obtain ⟨kd, hk⟩ : ∃ k, Hid (Shp.code d.zs = k) := ⟨_, hide rfl⟩
 obtain ⟨kq, hk2⟩ : ∃ k, Hid (Shp.code qs = k) := ⟨_, hide rfl⟩
 obtain ⟨ed, hed⟩ : ∃ k, Hid (Shp.elems d.zs = k) := ⟨_, hide rfl⟩
 obtain ⟨eq, heq⟩ : ∃ k, Hid (Shp.elems qs = k) := ⟨_, hide rfl⟩
 rw [hk.out] at HVd hkd
 rw [hk2.out] at hkq
 rw [hed.out] at HEd
 rw [heq.out] at HEq
 have HC1 : Hid (kd ≠ 0 → Op.rcode qs d = kd) := hide (fun h => by unfold Op.rcode; rw [if_pos (by rw [hk.out]; exact h), hk.out])
 have HC2 : Hid (kd = 0 → kq ≠ 0 → Op.rcode qs d = kq) := hide (fun h h2 => by unfold Op.rcode; rw [if_neg (by rw [hk.out, h]; decide), if_pos (by rw [hk2.out]; exact h2), hk2.out])
 have HC3 : Hid (kd = 0 → kq = 0 → eq ≠ ed → Op.rcode qs d = 101) := hide (fun h h2 h3 => by unfold Op.rcode; rw [if_neg (by rw [hk.out, h]; decide), if_neg (by rw [hk2.out, h2]; decide), if_pos (by rw [heq.out, hed.out]; exact h3)])
 have HC0 : Hid (kd = 0 → kq = 0 → eq = ed → Op.rcode qs d = 0) := hide (fun h h2 h3 => by unfold Op.rcode; rw [if_neg (by rw [hk.out, h]; decide), if_neg (by rw [hk2.out, h2]; decide), if_neg (by rw [heq.out, hed.out, h3]; simp)])
 obtain ⟨n, hn⟩ : ∃ n, Hid (qs.length = n) := ⟨_, hide rfl⟩
 rw [hn.out] at HCl HEq hql ⊢
 have c0 : W0.cell? ⟨w.heap.size, 0, none⟩ = some (.slice d.P d.zs.length d.cap) := HA.out.cell 0
 have c1 : W0.cell? ⟨w.heap.size, 1, none⟩ = some (.bool d.u) := HA.out.cell 1
 clear hd hE hW0 hq
 go_enter Tryz.func100, Tryz.ntmps100
 go_wp2_with fail
 rw [← HW.out]
 clear HW
 refine HCl.out.mono ?_
 rintro e w2 ⟨⟨g, c, rest, rfl, hg, hc, -, hG, -⟩, hb⟩
 have Hw2z := hide (show w.heap.size + 2 ≤ w2.heap.size by have h5 := HZ.out.lt; have := hb.size; omega)
 have a2 := HA.out.below hb HA.out.lt
 have d0 := a2.cell 0
 have d1 := a2.cell 1
 have l2 := a2.lt
 obtain ⟨W3, hW3⟩ : ∃ W, W = w2.alloc (.cells #[.slice (some ⟨g, 0, none⟩) n c, .bool d.u] 24) := ⟨_, rfl⟩
 have hbA : Below w2.heap.size w2 W3 := by rw [hW3]; exact (Below.refl _ _).alloc (Nat.le_refl _) _
 have HX : Hid (Has W3 w2.heap.size 24 [.slice (some ⟨g, 0, none⟩) n c, .bool d.u]) := hide (by rw [hW3]; exact Has.new _ _ _)
 obtain ⟨W4, hW4⟩ : ∃ W, W = W3.alloc (.cells #[.slice d.P d.zs.length d.cap, .bool d.u, .slice (some ⟨g, 0, none⟩) n c, .bool d.u] 24) := ⟨_, rfl⟩
 have hbB : Below W3.heap.size W3 W4 := by rw [hW4]; exact (Below.refl _ _).alloc (Nat.le_refl _) _
 have hs3 : W3.heap.size = w2.heap.size + 1 := by rw [hW3]; simp
 have HS : Hid (Has W4 (w2.heap.size + 1) 24 [.slice d.P d.zs.length d.cap, .bool d.u, .slice (some ⟨g, 0, none⟩) n c, .bool d.u]) := hide (by rw [hW4]; exact box_at _ _ _ _ hs3)
 have hbC := hb.trans ((hbA.trans (hbB.mono hbA.size)).mono hb.size)
 have hbD := hbA.trans (hbB.mono hbA.size)
 replace HX := hide (HX.out.below hbB HX.out.lt)
 have HC := hide (hG.below hbD hG.lt)
 have Hg : Hid (w.heap.size + 2 ≤ g) := hide (by have := HZ.out.lt; omega)
 have Hlc := hide hc
 replace HA := hide (HA.out.below hbC HA.out.lt)
 replace HZ := hide (HZ.out.below hbC HZ.out.lt)
 replace HB0 := hide (HB0.out.trans (hbC.mono HB0.out.size))
 have HVq := hide (fun W (h : Below w.heap.size w W) (hx : Has W g 3 (i64s qs ++ rest)) => valid_c qs (some ⟨g, 0, none⟩) c d.u am ar W (hx.ri_app HQW.out) (by rw [hn.out]; omega) (HE2.out W h))
 rw [hk2.out, hn.out] at HVq
 have HW3 := hide hW3
 have HW4 := hide hW4
 clear hb hbA hbB hbC hbD hW3 hW4 hG hg hc a2 HCl hs3
 go_wp2_with fail
 rw [← HW3.out, ← HW4.out]
 clear HW3 HW4 d0 d1 l2 c0 c1
 refine wp_loop_rounds 4 ?_
 rw [rounds_succ]
 have c0 : W4.cell? ⟨w2.heap.size + 1, 0, none⟩ = some (.slice d.P d.zs.length d.cap) := HS.out.cell 0
 have c1 : W4.cell? ⟨w2.heap.size + 1, 1, none⟩ = some (.bool d.u) := HS.out.cell 1
 have hbx : Below W4.heap.size W4 (W4.alloc (.cells #[.slice d.P d.zs.length d.cap, .bool d.u] 24)) := (Below.refl _ _).alloc (Nat.le_refl _) _
 have HBx := hide (HB0.out.trans (hbx.mono HB0.out.size))
 have HAx := hide (HA.out.below hbx HA.out.lt)
 have HXx := hide (HX.out.below hbx HX.out.lt)
 have HZx := hide (HZ.out.below hbx HZ.out.lt)
 have HSx := hide (HS.out.below hbx HS.out.lt)
 have HCx := hide (HC.out.below hbx HC.out.lt)
 clear hbx HB0 HA HX HZ HS HC
 go_wp2_with fail
 refine (HVd.out _ HBx.out).mono ?_
 rintro e w5 ⟨rfl, hb⟩
 have HB0 := hide (HBx.out.trans (hb.mono HBx.out.size))
 have HA := hide (HAx.out.below hb HAx.out.lt)
 have HX := hide (HXx.out.below hb HXx.out.lt)
 have HZ := hide (HZx.out.below hb HZx.out.lt)
 have HS := hide (HSx.out.below hb HSx.out.lt)
 have HC := hide (HCx.out.below hb HCx.out.lt)
 clear hb HBx HAx HXx HZx HSx HCx c0 c1
 by_cases h1 : kd = 0
 case neg =>
  have hcd : Op.rcode qs d = kd := by
   exact HC1.out h1
  obtain ⟨e1, e2⟩ := HBAD.out (by rw [hcd]; exact h1)
  have HD1 := hide e1
  have HD2 := hide e2
  have HCD := hide hcd
  have hv := Shp.err_v (am := am) (ar := ar) hkd h1
  have r1 := run_neqerr hv
  have r2 := run_neqguard hv
  have hx : Tens.err ah am ar kd = Shp.err am ar kd := by
   unfold Tens.err
   rw [if_neg (by omega)]
  have HX := hide hx
  clear hv hx hcd e1 e2 hkd h1
  obtain ⟨z0, z1, zf0, zf1, HZf, HFf⟩ := elm_two HZ.out HB0.out (Nat.le_add_right _ 1) (.slice none 0 0) (.bool false)
  go_wp2_with fail
  refine bodyPost_ret (results_desc rfl _ _ (w.heap.size + 1) _ _ rfl HZf.out) rfl ?_
  rw [HD1.out, HD2.out, HCD.out]
  exact DscE.bad (by rw [HX.out]; rfl) HFf.out
 case pos =>
 subst h1
 have hs1 : Shp.err am ar 0 = .nilIface := rfl
 rw [hs1]
 clear hs1 hkd HC1
 go_wp2_with fail
 rw [rounds_succ]
 have c2 : w5.cell? ⟨w2.heap.size + 1, 2, none⟩ = some (.slice (some ⟨g, 0, none⟩) n c) := HS.out.cell 2
 have c3 : w5.cell? ⟨w2.heap.size + 1, 3, none⟩ = some (.bool d.u) := HS.out.cell 3
 have hbx : Below w5.heap.size w5 (w5.alloc (.cells #[.slice (some ⟨g, 0, none⟩) n c, .bool d.u] 24)) := (Below.refl _ _).alloc (Nat.le_refl _) _
 have HBx := hide (HB0.out.trans (hbx.mono HB0.out.size))
 have HAx := hide (HA.out.below hbx HA.out.lt)
 have HXx := hide (HX.out.below hbx HX.out.lt)
 have HZx := hide (HZ.out.below hbx HZ.out.lt)
 have HSx := hide (HS.out.below hbx HS.out.lt)
 have HCx := hide (HC.out.below hbx HC.out.lt)
 clear hbx HB0 HA HX HZ HS HC
 go_wp2_with fail
 refine (HVq.out _ HBx.out HCx.out).mono ?_
 rintro e w6 ⟨rfl, hb⟩
 have HB0 := hide (HBx.out.trans (hb.mono HBx.out.size))
 have HA := hide (HAx.out.below hb HAx.out.lt)
 have HX := hide (HXx.out.below hb HXx.out.lt)
 have HZ := hide (HZx.out.below hb HZx.out.lt)
 have HS := hide (HSx.out.below hb HSx.out.lt)
 have HC := hide (HCx.out.below hb HCx.out.lt)
 clear hb HBx HAx HXx HZx HSx HCx c2 c3
 by_cases h2 : kq = 0
 case neg =>
  have hcd : Op.rcode qs d = kq := by
   exact HC2.out (by first | rfl | trivial) h2
  obtain ⟨e1, e2⟩ := HBAD.out (by rw [hcd]; exact h2)
  have HD1 := hide e1
  have HD2 := hide e2
  have HCD := hide hcd
  have hv := Shp.err_v (am := am) (ar := ar) hkq h2
  have r1 := run_neqerr hv
  have r2 := run_neqguard hv
  have hx : Tens.err ah am ar kq = Shp.err am ar kq := by
   unfold Tens.err
   rw [if_neg (by omega)]
  have HX := hide hx
  clear hv hx hcd e1 e2 hkq h2
  obtain ⟨z0, z1, zf0, zf1, HZf, HFf⟩ := elm_two HZ.out HB0.out (Nat.le_add_right _ 1) (.slice none 0 0) (.bool false)
  go_wp2_with fail
  refine bodyPost_ret (results_desc rfl _ _ (w.heap.size + 1) _ _ rfl HZf.out) rfl ?_
  rw [HD1.out, HD2.out, HCD.out]
  exact DscE.bad (by rw [HX.out]; rfl) HFf.out
 case pos =>
 subst h2
 have hs1 : Shp.err am ar 0 = .nilIface := rfl
 rw [hs1]
 clear hs1 hkq HC2
 go_wp2_with fail
 rw [rounds_succ]
 go_wp2_with fail
 have hS0 : w6.drew.cell? ⟨w.heap.size, 0, none⟩ = some (.slice d.P d.zs.length d.cap) := HA.out.cell 0
 have HBd := hide HB0.out.drew
 have Ha0 := hide (HA.out.drewN 1)
 clear HS
 go_region_held3 (fun W => W.cell? ⟨w.heap.size, 0, none⟩ = some (.slice d.P d.zs.length d.cap))
  (first | with_reducible exact hS0 | with_reducible exact hS1 | with_reducible exact hS2 | with_reducible assumption)
  (first
   | (go_at_call 82; (with_reducible refine (HEq.out _ HBd.out).mono ?_); rintro e w7 ⟨rfl, hb7⟩; have hS1 : w7.cell? ⟨w.heap.size, 0, none⟩ = some (.slice d.P d.zs.length d.cap) := (Ha0.out.below hb7 Ha0.out.lt).cell 0; have HB7 := hide (HBd.out.trans (hb7.mono HBd.out.size)); have Hb67 := hide hb7)
   | (go_at_call 82; (with_reducible refine (HEd.out _ HB7.out).mono ?_); rintro e w8 ⟨rfl, hb8⟩; have hS2 : w8.cell? ⟨w.heap.size, 0, none⟩ = some (.slice d.P d.zs.length d.cap) := ((Ha0.out.below hb7 Ha0.out.lt).below hb8 (Ha0.out.below hb7 Ha0.out.lt).lt).cell 0; have HB8 := hide (HB7.out.trans (hb8.mono HB7.out.size)); have Hb78 := hide hb8))
 have h68 : Below w6.heap.size w6 w8 := ((Below.refl w6.heap.size w6).drew).trans ((Hb67.out.trans (Hb78.out.mono Hb67.out.size)).mono (Nat.le_refl _))
 replace HZ := hide (HZ.out.below h68 HZ.out.lt)
 replace HX := hide (HX.out.below h68 HX.out.lt)
 replace HC := hide (HC.out.below h68 HC.out.lt)
 replace HB0 := HB8
 have HEs8 := HEs
 clear h68 hS0 HBd Ha0 HEq HEd HB7 hb7 Hb67 Hb78 hb8 HA hS1 hS2 HB8 HVd HVq HE2
 by_cases he : eq = ed
 case neg =>
  have hcd := HC3.out (by first | rfl | trivial) (by first | rfl | trivial) he
  obtain ⟨e1, e2⟩ := HBAD.out (by rw [hcd]; decide)
  have HD1 := hide e1
  have HD2 := hide e2
  have HCD := hide hcd
  have hnb : (eq != ed) = true := by simp; exact he
  clear e1 e2 hcd he HC3 HC0
  obtain ⟨z0, z1, zf0, zf1, HZf, HFf⟩ := elm_twod HZ.out HB0.out (Nat.le_add_right _ 1) (.slice none 0 0) (.bool false)
  have hs5 : w8.drew.cell? ⟨1, 0, none⟩ = some (errv ah) := (HEs.out.below HB0.out).1
  have hglt : 1 < w.heap.size := HEs.out.2.1
  have hS9 := hide (HEs.out.below HFf.out).1
  go_wp2_with fail
  go_region_held3 (fun W => W.cell? ⟨1, 0, none⟩ = some (errv ah))
   (first | exact hs5 | assumption | exact hS9.out)
   (first | fail)
  go_wp2_with fail
  refine bodyPost_ret (results_desc rfl _ _ (w.heap.size + 1) _ _ rfl HZf.out) rfl ?_
  rw [HD1.out, HD2.out, HCD.out]
  exact DscE.bad rfl HFf.out
 case pos =>
 have hcd := HC0.out (by first | rfl | trivial) (by first | rfl | trivial) he
 have HCD := hide hcd
 have HSH : Hid (Op.rshape qs d = qs ∧ Op.rkind qs d = d.u) := hide (by
  unfold Op.rshape Op.rkind
  rw [if_pos HCD.out, if_pos HCD.out]
  exact ⟨rfl, rfl⟩)
 have hnb : (eq != ed) = false := by simp; exact he
 obtain ⟨z0, z1, zf0, zf1, HZf, HFf⟩ := elm_two HZ.out HB0.out (Nat.le_add_right _ 1) (.slice (some ⟨g, 0, none⟩) n c) (.bool d.u)
 have hgz : g ≠ w.heap.size + 1 := by have := Hg.out; omega
 have HCf := hide ((HC.out.far (p := ⟨w.heap.size + 1, 0, none⟩) hgz (.slice (some ⟨g, 0, none⟩) n c)).far (p := ⟨w.heap.size + 1, 1, none⟩) hgz (.bool d.u))
 have x0 := HX.out.cell 0
 have x1 := HX.out.cell 1
 have hwz : ¬ w2.heap.size = w.heap.size + 1 := by have := Hw2z.out; omega
 have hwz2 : ¬ w.heap.size + 1 = w2.heap.size := by omega
 clear hcd he HC3 HC0 hgz
 go_wp2_with fail
 refine bodyPost_ret (results_desc rfl _ _ (w.heap.size + 1) _ _ rfl HZf.out) rfl ?_
 rw [HSH.out.1, HSH.out.2, HCD.out]
 refine ⟨⟨⟨some ⟨g, 0, none⟩, qs, c, d.u⟩, ?_, ⟨HCf.out.ri_app HQW.out, by show qs.length ≤ 1000000; rw [hn.out]; exact hql⟩, (fun ad h => by cases h; show w.heap.size + 1 ≤ g; have := Hg.out; omega), rfl, rfl⟩, HFf.out⟩
 show _ = Ending.returned (.tuple #[.agg (dcells (some ⟨g, 0, none⟩) qs.length c d.u), Tens.err ah am ar 0])
 rw [hn.out]
 rfl
end Go.Proofs.YtgdcfjmpjhlndaaGreatDoor
