/-
  lodgeref3.SoftResult, walked. By an AI agent. No person has read it.
-/
import Derived.Test.YtgdcfjmpjhlndaaGreatDoorZOOpD
import Derived.Test.YtgdcfjmpjhlndaaGreatDoorZORefR
namespace Go.Proofs.YtgdcfjmpjhlndaaGreatDoor
open Go.RowKit
theorem Sf.bad_code {op : Int} {ds : List Dsc} (hn : ds.length = Sf.nins op) (hf : Shp.firstbad ds ≠ 0) : Sf.code op ds = Shp.firstbad ds := by
 unfold Sf.code
 rw [if_neg (by simp [hn]), if_pos hf]
theorem Sf.lk_code {op : Int} {ds : List Dsc} (hn : ds.length = Sf.nins op) (hf : Shp.firstbad ds = 0) : Sf.code op ds = Sf.lkcode (Sf.lk op ds) := by
 unfold Sf.code
 rw [if_neg (by simp [hn]), if_neg (by simp [hf])]
theorem Sf.lk_none {op : Int} {ds : List Dsc} (hn : ds.length = Sf.nins op) (hf : Shp.firstbad ds = 0) (h : Sf.lk op ds = none) : Sf.code op ds = 101 := by
 rw [Sf.lk_code hn hf, h]
 rfl
theorem Sf.lk_seen {op : Int} {ds : List Dsc} (hn : ds.length = Sf.nins op) (hf : Shp.firstbad ds = 0) (d : Dsc) (h : Sf.lk op ds = some (d.zs, d.u)) : Sf.shape op ds = Rf.zs d ∧ Sf.kind op ds = Rf.u d ∧ Sf.code op ds = Shp.code d.zs := by
 have hc : Sf.code op ds = Shp.code d.zs := by
  rw [Sf.lk_code hn hf, h]
  rfl
 unfold Sf.shape Sf.kind Rf.zs Rf.u
 rw [hc, h]
 exact ⟨rfl, rfl, rfl⟩
set_option maxRecDepth 100000 in
set_option maxHeartbeats 8000000 in
theorem rsoft_16 (ds : List Dsc) (B : Option Addr) (cap : Nat) (w : World) (hR : Row w B (ds.flatMap Dsc.vals)) (hI : ∀ d ∈ ds, d.In w) :
  Calls Tryz.prog 15 #[.int .i64 16, .slice B ds.length cap] w (RefE w (Sf.shape 16 ds) (Sf.kind 16 ds) (Sf.code 16 ds)) := by
 obtain ⟨W0, hW0⟩ : ∃ W, W = w.alloc (.cells #[.slice none 0 0, .bool false] 24) := ⟨_, rfl⟩
 have hbw : Below w.heap.size w W0 := by rw [hW0]; exact (Below.refl _ _).alloc (Nat.le_refl _) _
 have HZ : Hid (Has W0 w.heap.size 24 [.slice none 0 0, .bool false]) := hide (by rw [hW0]; exact Has.new _ _ _)
 have HB0 := hide hbw
 have HW := hide hW0
 have HNI : Hid (Sf.nins 16 = 2) := hide (by decide)
 by_cases hlen : ds.length = 2
 case neg =>
  have hcd : Sf.code 16 ds = 101 := by
   unfold Sf.code
   exact if_pos (by rw [HNI.out]; exact hlen)
  obtain ⟨e1, e2⟩ := Sf.bad (by rw [hcd]; decide)
  have HD1 := hide e1
  have HD2 := hide e2
  have HCD := hide hcd
  obtain ⟨nd, hnd⟩ : ∃ n, Hid (ds.length = n) := ⟨_, hide rfl⟩
  rw [hnd.out] at hlen ⊢
  have i1 : ((nd : Int) == 2) = false := by simp; omega
  have i2 : ((nd : Int) != 2) = true := by simp; omega
  clear hR hI hW0 hbw e1 e2 hcd hlen
  go_enter Tryz.func15, Tryz.ntmps15
  go_wp2_with fail
  rw [← HW.out]
  refine bodyPost_ret (results_desc rfl _ _ w.heap.size _ _ rfl HZ.out) rfl ?_
  rw [HD1.out, HD2.out, HCD.out]
  exact RefE.bad rfl HB0.out
 case pos =>
 obtain ⟨a, b, hds⟩ : ∃ a b, ds = [a, b] := by
  match ds, hlen with
  | [a, b], _ => exact ⟨a, b, rfl⟩
 subst hds
 have HLN : Hid ([a, b].length = Sf.nins 16) := hide HNI.out.symm
 have HV : Hid (Calls Tryz.prog 49 #[.slice B 2 cap] W0 fun e w' => e = .returned (.int .i64 (Shp.firstbad [a, b] : Nat)) ∧ Below W0.heap.size W0 w') := hide (descs_c [a, b] B cap W0 (hR.below hbw) (fun d hd => (hI d hd).below hbw) (by simp))
 show Calls Tryz.prog 15 #[.int .i64 16, .slice B 2 cap] w _
 have ha := hI a (by simp)
 have hb := hI b (by simp)
 have HIa := hide (fun W (h : Below w.heap.size w W) => ha.below h)
 have HIb := hide (fun W (h : Below w.heap.size w W) => hb.below h)
 obtain ⟨ad, hBa, had, c0, c1, d0, d1⟩ := rowd_two hR
 subst hBa
 obtain ⟨n, hn⟩ : ∃ n, Hid (a.zs.length = n) := ⟨_, hide rfl⟩
 obtain ⟨nb, hnb⟩ : ∃ n, Hid (b.zs.length = n) := ⟨_, hide rfl⟩
 obtain ⟨ua, hua⟩ : ∃ x, Hid (a.u = x) := ⟨_, hide rfl⟩
 obtain ⟨ub, hub⟩ : ∃ x, Hid (b.u = x) := ⟨_, hide rfl⟩
 rw [hn.out] at c0
 rw [hua.out] at c1
 rw [hnb.out] at d0
 rw [hub.out] at d1
 have hln : (n : Int) ≤ 1000000 := by have := ha.ls; have := hn.out; omega
 obtain ⟨fb, hfb⟩ : ∃ n, Hid (Shp.firstbad [a, b] = n) := ⟨_, hide rfl⟩
 rw [hfb.out] at HV
 clear hR hI ha hb hW0 hbw hlen
 go_enter Tryz.func15, Tryz.ntmps15
 go_wp2_with fail
 rw [← HW.out]
 clear HW
 refine HV.out.mono ?_
 rintro e w1 ⟨rfl, hb⟩
 replace HZ := hide (HZ.out.below hb HZ.out.lt)
 replace HB0 := hide (HB0.out.trans (hb.mono HB0.out.size))
 clear hb HV
 by_cases h0 : fb = 0
 case neg =>
  have hcd : Sf.code 16 [a, b] = fb := (Sf.bad_code HLN.out (by rw [hfb.out]; exact h0)).trans hfb.out
  obtain ⟨e1, e2⟩ := Sf.bad (by rw [hcd]; exact h0)
  have HD1 := hide e1
  have HD2 := hide e2
  have HCD := hide hcd
  have i1 : ((fb : Int) == 0) = false := by simp; omega
  have i2 : ((fb : Int) != 0) = true := by simp; omega
  clear hcd e1 e2 h0 c0 c1 had d0 d1
  obtain ⟨z0, z1, zf0, zf1, HZf, HFf⟩ := elm_two HZ.out HB0.out (Nat.le_refl _) (.slice none 0 0) (.bool false)
  go_wp2_with fail
  refine bodyPost_ret (results_desc rfl _ _ w.heap.size _ _ rfl HZf.out) rfl ?_
  rw [HD1.out, HD2.out, HCD.out]
  exact RefE.bad rfl HFf.out
 case pos =>
 subst h0
 have HNO : Hid (Sf.lk 16 [a, b] = none → Sf.code 16 [a, b] = 101) := hide (fun h => Sf.lk_none HLN.out hfb.out h)
 have HYES : Hid (∀ d : Dsc, Sf.lk 16 [a, b] = some (d.zs, d.u) → Sf.shape 16 [a, b] = Rf.zs d ∧ Sf.kind 16 [a, b] = Rf.u d ∧ Sf.code 16 [a, b] = Shp.code d.zs) := hide (fun d h => Sf.lk_seen HLN.out hfb.out d h)
 have had1 : ad.block < w1.heap.size := Nat.lt_of_lt_of_le had HB0.out.size
 have hzl : w.heap.size < w1.heap.size := HZ.out.lt
 replace c0 : w1.cell? ad = some (.slice a.P n a.cap) := (HB0.out.cell (p := ad) had).trans c0
 replace c1 : w1.cell? ⟨ad.block, ad.off + 1, none⟩ = some (.bool ua) := (HB0.out.cell (p := ⟨ad.block, ad.off + 1, none⟩) had).trans c1
 replace d0 : w1.cell? ⟨ad.block, ad.off + 2, none⟩ = some (.slice b.P nb b.cap) := (HB0.out.cell (p := ⟨ad.block, ad.off + 2, none⟩) had).trans d0
 replace d1 : w1.cell? ⟨ad.block, ad.off + 3, none⟩ = some (.bool ub) := (HB0.out.cell (p := ⟨ad.block, ad.off + 3, none⟩) had).trans d1
 have h1 : (¬ (a.u = false ∧ 0 < a.zs.length ∧ b.zs = [256] ∧ b.u = true)) → Sf.lk 16 [a, b] = none := fun h => by
  unfold Sf.lk
  exact (if_pos rfl).trans (if_neg h)
 have h2 : a.u = false ∧ 0 < a.zs.length ∧ b.zs = [256] ∧ b.u = true → Sf.lk 16 [a, b] = some (a.zs, false) := fun h => by
  unfold Sf.lk
  exact (if_pos rfl).trans (if_pos h)
 cases ua
 case true =>
  have hcd : Sf.code 16 [a, b] = 101 := HNO.out (h1 (by rw [hua.out]; simp))
  obtain ⟨e1, e2⟩ := Sf.bad (by rw [hcd]; decide)
  have HD1 := hide e1
  have HD2 := hide e2
  have HCD := hide hcd
  clear hcd e1 e2
  clear h1 h2
  obtain ⟨W1, hW1⟩ : ∃ W, W = (w1.alloc (.cells #[.slice a.P n a.cap, .bool true] 24)) := ⟨_, rfl⟩
  have hbA : Below w1.heap.size w1 W1 := by rw [hW1]; exact (Below.refl _ _).alloc (Nat.le_refl _) _
  have HX : Hid (Has W1 w1.heap.size 24 [.slice a.P n a.cap, .bool true]) := hide (by rw [hW1]; exact Has.new _ _ _)
  have HZ0 := HZ
  have HBq := HB0
  have y0 := HZ.out.cell 0
  have y1 := HZ.out.cell 1
  have yf0 := HZ.out.frozen 0
  have yf1 := HZ.out.frozen 1
  replace HZ := hide (HZ.out.below hbA HZ.out.lt)
  replace HB0 := hide (HB0.out.trans (hbA.mono HB0.out.size))
  have HW1 := hide hW1
  have x0 := HX.out.cell 0
  have x1 := HX.out.cell 1
  clear hW1
  clear HW1 y0 y1 yf0 yf1 x0 x1
  obtain ⟨z0, z1, zf0, zf1, HZp, HFp⟩ := elm_two HZ0.out HBq.out (Nat.le_refl _) (.slice none 0 0) (.bool false)
  have HZf := hide (HZp.out.alloc (.cells #[.slice a.P n a.cap, .bool true] 24))
  have HFf := hide (HFp.out.alloc HFp.out.size (.cells #[.slice a.P n a.cap, .bool true] 24))
  go_wp2_with fail
  refine bodyPost_ret (results_desc rfl _ _ w.heap.size _ _ rfl HZf.out) rfl ?_
  rw [HD1.out, HD2.out, HCD.out]
  exact RefE.bad rfl HFf.out
 case false =>
 by_cases h0 : n = 0
 case pos =>
  have hcd : Sf.code 16 [a, b] = 101 := HNO.out (h1 (by rw [hn.out]; omega))
  obtain ⟨e1, e2⟩ := Sf.bad (by rw [hcd]; decide)
  have HD1 := hide e1
  have HD2 := hide e2
  have HCD := hide hcd
  clear hcd e1 e2
  have hn0 : (n : Int) < 1 := by omega
  clear h1 h2 h0
  obtain ⟨W1, hW1⟩ : ∃ W, W = (w1.alloc (.cells #[.slice a.P n a.cap, .bool false] 24)) := ⟨_, rfl⟩
  have hbA : Below w1.heap.size w1 W1 := by rw [hW1]; exact (Below.refl _ _).alloc (Nat.le_refl _) _
  have HX : Hid (Has W1 w1.heap.size 24 [.slice a.P n a.cap, .bool false]) := hide (by rw [hW1]; exact Has.new _ _ _)
  have HZ0 := HZ
  have HBq := HB0
  have y0 := HZ.out.cell 0
  have y1 := HZ.out.cell 1
  have yf0 := HZ.out.frozen 0
  have yf1 := HZ.out.frozen 1
  replace HZ := hide (HZ.out.below hbA HZ.out.lt)
  replace HB0 := hide (HB0.out.trans (hbA.mono HB0.out.size))
  have HW1 := hide hW1
  have x0 := HX.out.cell 0
  have x1 := HX.out.cell 1
  clear hW1
  clear HW1 y0 y1 yf0 yf1 x0 x1
  obtain ⟨z0, z1, zf0, zf1, HZp, HFp⟩ := elm_two HZ0.out HBq.out (Nat.le_refl _) (.slice none 0 0) (.bool false)
  have HZf := hide (HZp.out.alloc (.cells #[.slice a.P n a.cap, .bool false] 24))
  have HFf := hide (HFp.out.alloc HFp.out.size (.cells #[.slice a.P n a.cap, .bool false] 24))
  go_wp2_with fail
  refine bodyPost_ret (results_desc rfl _ _ w.heap.size _ _ rfl HZf.out) rfl ?_
  rw [HD1.out, HD2.out, HCD.out]
  exact RefE.bad rfl HFf.out
 case neg =>
 have hn0 : ¬ (n : Int) < 1 := by omega
 have HSM := hide (fun W P (hW : Below w.heap.size w W) (hP : Ri W P [256]) => samedesc_c b.zs [256] b.P P b.cap 1 b.u true W (HIb.out W hW).shp hP (by have := (HIb.out W hW).ls; omega) (by simp))
 obtain ⟨sm, hsm⟩ : ∃ x, Hid ((decide (b.zs = [256]) && (b.u == true)) = x) := ⟨_, hide rfl⟩
 rw [hsm.out, hnb.out, hub.out] at HSM
 cases sm
 case false =>
  have hcd : Sf.code 16 [a, b] = 101 := HNO.out (h1 (by intro h; have h5 := hsm.out; rw [h.2.2.1, h.2.2.2] at h5; simp at h5))
  obtain ⟨e1, e2⟩ := Sf.bad (by rw [hcd]; decide)
  have HD1 := hide e1
  have HD2 := hide e2
  have HCD := hide hcd
  clear hcd e1 e2
  clear h1 h2 h0
  obtain ⟨W1, hW1⟩ : ∃ W, W = ((w1.alloc (.cells #[.slice a.P n a.cap, .bool false] 24)).alloc (.cells #[.int .i64 256] 3)) := ⟨_, rfl⟩
  have hbA : Below w1.heap.size w1 W1 := by rw [hW1]; exact ((Below.refl _ _).alloc (Nat.le_refl _) _).alloc (by simp) _
  have HX : Hid (Has W1 w1.heap.size 24 [.slice a.P n a.cap, .bool false]) := hide (by rw [hW1]; exact ((Has.new w1 24 [.slice a.P n a.cap, .bool false]).alloc _))
  have HS : Hid (Has W1 (w1.heap.size + 1) 3 [.int .i64 256]) := hide (by rw [hW1]; exact (box_at _ 3 [.int .i64 256] _ (by simp)))
  have HZ0 := HZ
  have HBq := HB0
  have y0 := HZ.out.cell 0
  have y1 := HZ.out.cell 1
  have yf0 := HZ.out.frozen 0
  have yf1 := HZ.out.frozen 1
  replace HZ := hide (HZ.out.below hbA HZ.out.lt)
  replace HB0 := hide (HB0.out.trans (hbA.mono HB0.out.size))
  have HW1 := hide hW1
  have x0 := HX.out.cell 0
  have x1 := HX.out.cell 1
  clear hW1
  go_wp2_with fail
  rw [← HW1.out]
  clear HW1 y0 y1 yf0 yf1 x0 x1
  refine (HSM.out _ _ HB0.out (HS.out.ri (zs := [256]) (by decide))).mono ?_
  rintro e w3 ⟨rfl, hb⟩
  replace HZ := hide (HZ.out.below hb HZ.out.lt)
  replace HX := hide (HX.out.below hb HX.out.lt)
  replace HB0 := hide (HB0.out.trans (hb.mono HB0.out.size))
  have x0 := HX.out.cell 0
  have x1 := HX.out.cell 1
  clear hb
  obtain ⟨z0, z1, zf0, zf1, HZf, HFf⟩ := elm_two HZ.out HB0.out (Nat.le_refl _) (.slice none 0 0) (.bool false)
  go_wp2_with fail
  refine bodyPost_ret (results_desc rfl _ _ w.heap.size _ _ rfl HZf.out) rfl ?_
  rw [HD1.out, HD2.out, HCD.out]
  exact RefE.bad rfl HFf.out
 case true =>
  have hc : a.u = false ∧ 0 < a.zs.length ∧ b.zs = [256] ∧ b.u = true := by
   have h5 := hsm.out
   simp at h5
   exact ⟨hua.out, by rw [hn.out]; omega, h5.1, h5.2⟩
  have hlk := h2 hc
  obtain ⟨t1, t2, t3⟩ := HYES.out a (by rw [hlk, hua.out])
  have HT1 := hide t1
  have HT2 := hide t2
  have HT3 := hide t3
  clear h1 h2 h0 hc hlk t1 t2 t3
  obtain ⟨W1, hW1⟩ : ∃ W, W = ((w1.alloc (.cells #[.slice a.P n a.cap, .bool false] 24)).alloc (.cells #[.int .i64 256] 3)) := ⟨_, rfl⟩
  have hbA : Below w1.heap.size w1 W1 := by rw [hW1]; exact ((Below.refl _ _).alloc (Nat.le_refl _) _).alloc (by simp) _
  have HX : Hid (Has W1 w1.heap.size 24 [.slice a.P n a.cap, .bool false]) := hide (by rw [hW1]; exact ((Has.new w1 24 [.slice a.P n a.cap, .bool false]).alloc _))
  have HS : Hid (Has W1 (w1.heap.size + 1) 3 [.int .i64 256]) := hide (by rw [hW1]; exact (box_at _ 3 [.int .i64 256] _ (by simp)))
  have HZ0 := HZ
  have HBq := HB0
  have y0 := HZ.out.cell 0
  have y1 := HZ.out.cell 1
  have yf0 := HZ.out.frozen 0
  have yf1 := HZ.out.frozen 1
  replace HZ := hide (HZ.out.below hbA HZ.out.lt)
  replace HB0 := hide (HB0.out.trans (hbA.mono HB0.out.size))
  have HW1 := hide hW1
  have x0 := HX.out.cell 0
  have x1 := HX.out.cell 1
  clear hW1
  go_wp2_with fail
  rw [← HW1.out]
  clear HW1 y0 y1 yf0 yf1 x0 x1
  refine (HSM.out _ _ HB0.out (HS.out.ri (zs := [256]) (by decide))).mono ?_
  rintro e w3 ⟨rfl, hb⟩
  replace HZ := hide (HZ.out.below hb HZ.out.lt)
  replace HX := hide (HX.out.below hb HX.out.lt)
  replace HB0 := hide (HB0.out.trans (hb.mono HB0.out.size))
  have x0 := HX.out.cell 0
  have x1 := HX.out.cell 1
  clear hb
  have hse := seen_c a w3 (HIa.out _ HB0.out)
  rw [hn.out, hua.out] at hse
  have HC := hide hse
  clear hse
  go_wp2_with fail
  refine HC.out.mono ?_
  rintro e W4 ⟨⟨d, rfl, hdi, hdf, hdz, hdu⟩, hb⟩
  have hz4 := HZ.out.below hb HZ.out.lt
  have hB4 := HB0.out.trans (hb.mono HB0.out.size)
  obtain ⟨z0, z1, zf0, zf1, HZf, HFf⟩ := elm_two hz4 hB4 (Nat.le_refl _) (.slice d.P d.zs.length d.cap) (.bool d.u)
  have hdl := hide (hdi.far2 hdf (by exact HZ.out.lt) (.slice d.P d.zs.length d.cap) (.bool d.u))
  have HDF := hide hdf
  have HDZ := hide hdz
  have HDU := hide hdu
  have HWZ : Hid (w.heap.size < w3.heap.size) := hide HZ.out.lt
  clear hdi hdf hdz hdu hb hz4 hB4 HC
  go_wp2_with fail
  refine bodyPost_ret (results_desc rfl _ _ w.heap.size _ _ rfl HZf.out) rfl ?_
  rw [HT1.out, HT2.out, HT3.out]
  exact ⟨⟨d, rfl, hdl.out, fun ad h => Nat.le_trans (Nat.le_of_lt HWZ.out) (HDF.out ad h), HDZ.out, HDU.out⟩, HFf.out⟩
set_option maxRecDepth 100000 in
set_option maxHeartbeats 8000000 in
theorem rsoft_17 (ds : List Dsc) (B : Option Addr) (cap : Nat) (w : World) (hR : Row w B (ds.flatMap Dsc.vals)) (hI : ∀ d ∈ ds, d.In w) :
  Calls Tryz.prog 15 #[.int .i64 17, .slice B ds.length cap] w (RefE w (Sf.shape 17 ds) (Sf.kind 17 ds) (Sf.code 17 ds)) := by
 obtain ⟨W0, hW0⟩ : ∃ W, W = w.alloc (.cells #[.slice none 0 0, .bool false] 24) := ⟨_, rfl⟩
 have hbw : Below w.heap.size w W0 := by rw [hW0]; exact (Below.refl _ _).alloc (Nat.le_refl _) _
 have HZ : Hid (Has W0 w.heap.size 24 [.slice none 0 0, .bool false]) := hide (by rw [hW0]; exact Has.new _ _ _)
 have HB0 := hide hbw
 have HW := hide hW0
 have HNI : Hid (Sf.nins 17 = 2) := hide (by decide)
 by_cases hlen : ds.length = 2
 case neg =>
  have hcd : Sf.code 17 ds = 101 := by
   unfold Sf.code
   exact if_pos (by rw [HNI.out]; exact hlen)
  obtain ⟨e1, e2⟩ := Sf.bad (by rw [hcd]; decide)
  have HD1 := hide e1
  have HD2 := hide e2
  have HCD := hide hcd
  obtain ⟨nd, hnd⟩ : ∃ n, Hid (ds.length = n) := ⟨_, hide rfl⟩
  rw [hnd.out] at hlen ⊢
  have i1 : ((nd : Int) == 2) = false := by simp; omega
  have i2 : ((nd : Int) != 2) = true := by simp; omega
  clear hR hI hW0 hbw e1 e2 hcd hlen
  go_enter Tryz.func15, Tryz.ntmps15
  go_wp2_with fail
  rw [← HW.out]
  refine bodyPost_ret (results_desc rfl _ _ w.heap.size _ _ rfl HZ.out) rfl ?_
  rw [HD1.out, HD2.out, HCD.out]
  exact RefE.bad rfl HB0.out
 case pos =>
 obtain ⟨a, b, hds⟩ : ∃ a b, ds = [a, b] := by
  match ds, hlen with
  | [a, b], _ => exact ⟨a, b, rfl⟩
 subst hds
 have HLN : Hid ([a, b].length = Sf.nins 17) := hide HNI.out.symm
 have HV : Hid (Calls Tryz.prog 49 #[.slice B 2 cap] W0 fun e w' => e = .returned (.int .i64 (Shp.firstbad [a, b] : Nat)) ∧ Below W0.heap.size W0 w') := hide (descs_c [a, b] B cap W0 (hR.below hbw) (fun d hd => (hI d hd).below hbw) (by simp))
 show Calls Tryz.prog 15 #[.int .i64 17, .slice B 2 cap] w _
 have ha := hI a (by simp)
 have hb := hI b (by simp)
 have HIa := hide (fun W (h : Below w.heap.size w W) => ha.below h)
 have HIb := hide (fun W (h : Below w.heap.size w W) => hb.below h)
 obtain ⟨ad, hBa, had, c0, c1, d0, d1⟩ := rowd_two hR
 subst hBa
 obtain ⟨n, hn⟩ : ∃ n, Hid (a.zs.length = n) := ⟨_, hide rfl⟩
 obtain ⟨nb, hnb⟩ : ∃ n, Hid (b.zs.length = n) := ⟨_, hide rfl⟩
 obtain ⟨ua, hua⟩ : ∃ x, Hid (a.u = x) := ⟨_, hide rfl⟩
 obtain ⟨ub, hub⟩ : ∃ x, Hid (b.u = x) := ⟨_, hide rfl⟩
 rw [hn.out] at c0
 rw [hua.out] at c1
 rw [hnb.out] at d0
 rw [hub.out] at d1
 have hln : (n : Int) ≤ 1000000 := by have := ha.ls; have := hn.out; omega
 obtain ⟨fb, hfb⟩ : ∃ n, Hid (Shp.firstbad [a, b] = n) := ⟨_, hide rfl⟩
 rw [hfb.out] at HV
 clear hR hI ha hb hW0 hbw hlen
 go_enter Tryz.func15, Tryz.ntmps15
 go_wp2_with fail
 rw [← HW.out]
 clear HW
 refine HV.out.mono ?_
 rintro e w1 ⟨rfl, hb⟩
 replace HZ := hide (HZ.out.below hb HZ.out.lt)
 replace HB0 := hide (HB0.out.trans (hb.mono HB0.out.size))
 clear hb HV
 by_cases h0 : fb = 0
 case neg =>
  have hcd : Sf.code 17 [a, b] = fb := (Sf.bad_code HLN.out (by rw [hfb.out]; exact h0)).trans hfb.out
  obtain ⟨e1, e2⟩ := Sf.bad (by rw [hcd]; exact h0)
  have HD1 := hide e1
  have HD2 := hide e2
  have HCD := hide hcd
  have i1 : ((fb : Int) == 0) = false := by simp; omega
  have i2 : ((fb : Int) != 0) = true := by simp; omega
  clear hcd e1 e2 h0 c0 c1 had d0 d1
  obtain ⟨z0, z1, zf0, zf1, HZf, HFf⟩ := elm_two HZ.out HB0.out (Nat.le_refl _) (.slice none 0 0) (.bool false)
  go_wp2_with fail
  refine bodyPost_ret (results_desc rfl _ _ w.heap.size _ _ rfl HZf.out) rfl ?_
  rw [HD1.out, HD2.out, HCD.out]
  exact RefE.bad rfl HFf.out
 case pos =>
 subst h0
 have HNO : Hid (Sf.lk 17 [a, b] = none → Sf.code 17 [a, b] = 101) := hide (fun h => Sf.lk_none HLN.out hfb.out h)
 have HYES : Hid (∀ d : Dsc, Sf.lk 17 [a, b] = some (d.zs, d.u) → Sf.shape 17 [a, b] = Rf.zs d ∧ Sf.kind 17 [a, b] = Rf.u d ∧ Sf.code 17 [a, b] = Shp.code d.zs) := hide (fun d h => Sf.lk_seen HLN.out hfb.out d h)
 have had1 : ad.block < w1.heap.size := Nat.lt_of_lt_of_le had HB0.out.size
 have hzl : w.heap.size < w1.heap.size := HZ.out.lt
 replace c0 : w1.cell? ad = some (.slice a.P n a.cap) := (HB0.out.cell (p := ad) had).trans c0
 replace c1 : w1.cell? ⟨ad.block, ad.off + 1, none⟩ = some (.bool ua) := (HB0.out.cell (p := ⟨ad.block, ad.off + 1, none⟩) had).trans c1
 replace d0 : w1.cell? ⟨ad.block, ad.off + 2, none⟩ = some (.slice b.P nb b.cap) := (HB0.out.cell (p := ⟨ad.block, ad.off + 2, none⟩) had).trans d0
 replace d1 : w1.cell? ⟨ad.block, ad.off + 3, none⟩ = some (.bool ub) := (HB0.out.cell (p := ⟨ad.block, ad.off + 3, none⟩) had).trans d1
 have h1 : (¬ (a.zs.length = 2 ∧ b.u = true ∧ b.zs.length = 1)) → Sf.lk 17 [a, b] = none := fun h => by
  unfold Sf.lk
  exact (if_neg (by decide)).trans (if_neg h)
 have h2 : a.zs.length = 2 ∧ b.u = true ∧ b.zs.length = 1 → Sf.lk 17 [a, b] = some ([b.zs.getD 0 0, a.zs.getD 1 0], a.u) := fun h => by
  unfold Sf.lk
  exact (if_neg (by decide)).trans (if_pos h)
 by_cases h0 : n = 2
 case neg =>
  have i1 : ((n : Int) == 2) = false := by simp; omega
  have i2 : ((n : Int) != 2) = true := by simp; omega
  have hcd : Sf.code 17 [a, b] = 101 := HNO.out (h1 (by rw [hn.out]; omega))
  obtain ⟨e1, e2⟩ := Sf.bad (by rw [hcd]; decide)
  have HD1 := hide e1
  have HD2 := hide e2
  have HCD := hide hcd
  clear hcd e1 e2
  clear h1 h2 h0
  obtain ⟨W1, hW1⟩ : ∃ W, W = (w1.alloc (.cells #[.slice a.P n a.cap, .bool ua] 24)) := ⟨_, rfl⟩
  have hbA : Below w1.heap.size w1 W1 := by rw [hW1]; exact (Below.refl _ _).alloc (Nat.le_refl _) _
  have HX : Hid (Has W1 w1.heap.size 24 [.slice a.P n a.cap, .bool ua]) := hide (by rw [hW1]; exact Has.new _ _ _)
  have HZ0 := HZ
  have HBq := HB0
  have y0 := HZ.out.cell 0
  have y1 := HZ.out.cell 1
  have yf0 := HZ.out.frozen 0
  have yf1 := HZ.out.frozen 1
  replace HZ := hide (HZ.out.below hbA HZ.out.lt)
  replace HB0 := hide (HB0.out.trans (hbA.mono HB0.out.size))
  have HW1 := hide hW1
  have x0 := HX.out.cell 0
  have x1 := HX.out.cell 1
  clear hW1
  clear HW1 y0 y1 yf0 yf1 x0 x1
  obtain ⟨z0, z1, zf0, zf1, HZp, HFp⟩ := elm_two HZ0.out HBq.out (Nat.le_refl _) (.slice none 0 0) (.bool false)
  have HZf := hide (HZp.out.alloc (.cells #[.slice a.P n a.cap, .bool ua] 24))
  have HFf := hide (HFp.out.alloc HFp.out.size (.cells #[.slice a.P n a.cap, .bool ua] 24))
  go_wp2_with fail
  refine bodyPost_ret (results_desc rfl _ _ w.heap.size _ _ rfl HZf.out) rfl ?_
  rw [HD1.out, HD2.out, HCD.out]
  exact RefE.bad rfl HFf.out
 case pos =>
 subst h0
 by_cases h0 : nb = 1
 case neg =>
  have i1 : ((nb : Int) == 1) = false := by simp; omega
  have i2 : ((nb : Int) != 1) = true := by simp; omega
  have hcd : Sf.code 17 [a, b] = 101 := HNO.out (h1 (by rw [hnb.out]; omega))
  obtain ⟨e1, e2⟩ := Sf.bad (by rw [hcd]; decide)
  have HD1 := hide e1
  have HD2 := hide e2
  have HCD := hide hcd
  clear hcd e1 e2
  clear h1 h2 h0
  obtain ⟨W1, hW1⟩ : ∃ W, W = (w1.alloc (.cells #[.slice a.P 2 a.cap, .bool ua] 24)) := ⟨_, rfl⟩
  have hbA : Below w1.heap.size w1 W1 := by rw [hW1]; exact (Below.refl _ _).alloc (Nat.le_refl _) _
  have HX : Hid (Has W1 w1.heap.size 24 [.slice a.P 2 a.cap, .bool ua]) := hide (by rw [hW1]; exact Has.new _ _ _)
  have HZ0 := HZ
  have HBq := HB0
  have y0 := HZ.out.cell 0
  have y1 := HZ.out.cell 1
  have yf0 := HZ.out.frozen 0
  have yf1 := HZ.out.frozen 1
  replace HZ := hide (HZ.out.below hbA HZ.out.lt)
  replace HB0 := hide (HB0.out.trans (hbA.mono HB0.out.size))
  have HW1 := hide hW1
  have x0 := HX.out.cell 0
  have x1 := HX.out.cell 1
  clear hW1
  clear HW1 y0 y1 yf0 yf1 x0 x1
  obtain ⟨z0, z1, zf0, zf1, HZp, HFp⟩ := elm_two HZ0.out HBq.out (Nat.le_refl _) (.slice none 0 0) (.bool false)
  have HZf := hide (HZp.out.alloc (.cells #[.slice a.P 2 a.cap, .bool ua] 24))
  have HFf := hide (HFp.out.alloc HFp.out.size (.cells #[.slice a.P 2 a.cap, .bool ua] 24))
  go_wp2_with fail
  refine bodyPost_ret (results_desc rfl _ _ w.heap.size _ _ rfl HZf.out) rfl ?_
  rw [HD1.out, HD2.out, HCD.out]
  exact RefE.bad rfl HFf.out
 case pos =>
 subst h0
 cases ub
 case false =>
  have hcd : Sf.code 17 [a, b] = 101 := HNO.out (h1 (by rw [hub.out]; simp))
  obtain ⟨e1, e2⟩ := Sf.bad (by rw [hcd]; decide)
  have HD1 := hide e1
  have HD2 := hide e2
  have HCD := hide hcd
  clear hcd e1 e2
  clear h1 h2
  obtain ⟨W1, hW1⟩ : ∃ W, W = (w1.alloc (.cells #[.slice a.P 2 a.cap, .bool ua] 24)) := ⟨_, rfl⟩
  have hbA : Below w1.heap.size w1 W1 := by rw [hW1]; exact (Below.refl _ _).alloc (Nat.le_refl _) _
  have HX : Hid (Has W1 w1.heap.size 24 [.slice a.P 2 a.cap, .bool ua]) := hide (by rw [hW1]; exact Has.new _ _ _)
  have HZ0 := HZ
  have HBq := HB0
  have y0 := HZ.out.cell 0
  have y1 := HZ.out.cell 1
  have yf0 := HZ.out.frozen 0
  have yf1 := HZ.out.frozen 1
  replace HZ := hide (HZ.out.below hbA HZ.out.lt)
  replace HB0 := hide (HB0.out.trans (hbA.mono HB0.out.size))
  have HW1 := hide hW1
  have x0 := HX.out.cell 0
  have x1 := HX.out.cell 1
  clear hW1
  clear HW1 y0 y1 yf0 yf1 x0 x1
  obtain ⟨z0, z1, zf0, zf1, HZp, HFp⟩ := elm_two HZ0.out HBq.out (Nat.le_refl _) (.slice none 0 0) (.bool false)
  have HZf := hide (HZp.out.alloc (.cells #[.slice a.P 2 a.cap, .bool ua] 24))
  have HFf := hide (HFp.out.alloc HFp.out.size (.cells #[.slice a.P 2 a.cap, .bool ua] 24))
  go_wp2_with fail
  refine bodyPost_ret (results_desc rfl _ _ w.heap.size _ _ rfl HZf.out) rfl ?_
  rw [HD1.out, HD2.out, HCD.out]
  exact RefE.bad rfl HFf.out
 case true =>
  obtain ⟨x0', x1', hax⟩ : ∃ x y, Hid (a.zs = [x, y]) := by
   match hz : a.zs, hn.out with
   | [x, y], _ => exact ⟨x, y, hide rfl⟩
  obtain ⟨q0, hbx⟩ : ∃ x, Hid (b.zs = [x]) := by
   match hz : b.zs, hnb.out with
   | [x], _ => exact ⟨x, hide rfl⟩
  have hlk := h2 ⟨hn.out, hub.out, hnb.out⟩
  rw [hax.out, hbx.out, hua.out] at hlk
  have HLK := hide hlk
  clear h1 h2 hlk
  obtain ⟨W1, hW1⟩ : ∃ W, W = (w1.alloc (.cells #[.slice a.P 2 a.cap, .bool ua] 24)) := ⟨_, rfl⟩
  have hbA : Below w1.heap.size w1 W1 := by rw [hW1]; exact (Below.refl _ _).alloc (Nat.le_refl _) _
  have HX : Hid (Has W1 w1.heap.size 24 [.slice a.P 2 a.cap, .bool ua]) := hide (by rw [hW1]; exact Has.new _ _ _)
  have HZ0 := HZ
  have HBq := HB0
  have y0 := HZ.out.cell 0
  have y1 := HZ.out.cell 1
  have yf0 := HZ.out.frozen 0
  have yf1 := HZ.out.frozen 1
  replace HZ := hide (HZ.out.below hbA HZ.out.lt)
  replace HB0 := hide (HB0.out.trans (hbA.mono HB0.out.size))
  have HW1 := hide hW1
  have x0 := HX.out.cell 0
  have x1 := HX.out.cell 1
  clear hW1
  clear x0 x1
  go_wp2_with fail
  rw [← HW1.out]
  clear HW1 y0 y1 yf0 yf1
  have hra := (HIa.out w (Below.refl _ _)).shp
  have hrb := (HIb.out w (Below.refl _ _)).shp
  rw [hax.out] at hra
  rw [hbx.out] at hrb
  obtain ⟨pa, epa, p0, p1⟩ := ri_pair hra
  obtain ⟨pb, epb, pbl, g0⟩ := ri_one hrb
  have pal : pa.block < w.heap.size := by obtain ⟨ad', h1, h2, -⟩ := hra.2 (by simp); rw [epa] at h1; rw [Option.some.inj h1]; exact h2
  have HWF : Hid (∀ q ∈ [q0, x1'], (Lit.int .i64 q).wf = true) := hide (by
   intro q hq
   simp at hq
   rcases hq with rfl | rfl
   ·exact hrb.1 _ (by simp)
   ·exact hra.1 _ (by simp))
  obtain ⟨t1, t2, t3⟩ := HYES.out ⟨some ⟨W1.heap.size, 0, none⟩, [q0, x1'], 2, ua⟩ HLK.out
  have HT1 := hide t1
  have HT2 := hide t2
  have HT3 := hide t3
  clear t1 t2 t3
  rw [epa] at HX
  rw [epb] at d0
  have hw2 : w.heap.size < W1.heap.size := HZ.out.lt
  have hL : w1.heap.size < W1.heap.size := HX.out.lt
  have qad : ad.block < W1.heap.size := by omega
  have qpa : pa.block < W1.heap.size := by omega
  have qpb : pb.block < W1.heap.size := by omega
  have HS0 : SfC5 ⟨ad.block, ad.off + 2, none⟩ pb ⟨w1.heap.size, 0, none⟩ ⟨pa.block, pa.off + 1, none⟩ ⟨w1.heap.size, 1, none⟩ (.slice (some pb) 1 b.cap) (.int .i64 q0) (.slice (some pa) 2 a.cap) (.int .i64 x1') (.bool ua) W1 := ⟨(hbA.cell (p := ⟨ad.block, ad.off + 2, none⟩) had1).trans d0, (HB0.out.cell pbl).trans g0, HX.out.cell 0, (HB0.out.cell (p := ⟨pa.block, pa.off + 1, none⟩) pal).trans p1, HX.out.cell 1⟩
  have hS0 : SfC5 ⟨ad.block, ad.off + 2, none⟩ pb ⟨w1.heap.size, 0, none⟩ ⟨pa.block, pa.off + 1, none⟩ ⟨w1.heap.size, 1, none⟩ (.slice (some pb) 1 b.cap) (.int .i64 q0) (.slice (some pa) 2 a.cap) (.int .i64 x1') (.bool ua) W1.drew := HS0
  have hbB : Below W1.heap.size W1 (W1.alloc (.cells #[.int .i64 q0, .int .i64 x1'] 3)) := (Below.refl _ _).alloc (Nat.le_refl _) _
  have hS1 : SfC5 ⟨ad.block, ad.off + 2, none⟩ pb ⟨w1.heap.size, 0, none⟩ ⟨pa.block, pa.off + 1, none⟩ ⟨w1.heap.size, 1, none⟩ (.slice (some pb) 1 b.cap) (.int .i64 q0) (.slice (some pa) 2 a.cap) (.int .i64 x1') (.bool ua) (W1.alloc (.cells #[.int .i64 q0, .int .i64 x1'] 3)).drew := SfC5.keep HS0 qad qpb hL qpa hL hbB.drew
  have hri : Ri (W1.alloc (.cells #[.int .i64 q0, .int .i64 x1'] 3)).drew (some ⟨W1.heap.size, 0, none⟩) [q0, x1'] := ((Has.new W1 3 (i64s [q0, x1'])).drewN 1).ri HWF.out
  have HC : Hid (Calls Tryz.prog 50 #[.agg #[.slice (some ⟨W1.heap.size, 0, none⟩) 2 2, .bool ua]] (W1.alloc (.cells #[.int .i64 q0, .int .i64 x1'] 3)).drew (RefE (W1.alloc (.cells #[.int .i64 q0, .int .i64 x1'] 3)).drew (Rf.zs ⟨some ⟨W1.heap.size, 0, none⟩, [q0, x1'], 2, ua⟩) (Rf.u ⟨some ⟨W1.heap.size, 0, none⟩, [q0, x1'], 2, ua⟩) (Shp.code [q0, x1']))) := hide (seen_c ⟨some ⟨W1.heap.size, 0, none⟩, [q0, x1'], 2, ua⟩ _ ⟨hri, by simp⟩)
  have HZ1 := hide ((HZ.out.alloc (.cells #[.int .i64 q0, .int .i64 x1'] 3)).drewN 1)
  have HBA := hide (HB0.out.trans (hbB.drew.mono HB0.out.size))
  have HWL := hide hw2
  have HL := hide hL
  have HQA := hide qad
  have HQP := hide qpa
  have HQB := hide qpb
  have HAD := hide had
  have HPAL := hide pal
  have HPBL := hide pbl
  have HZL := hide hzl
  clear HS0 hbA hbB hri hra hrb p0 p1 g0 epa epb c0 c1 d0 d1 had1 hw2 hL qad qpa qpb had pal pbl
  obtain ⟨SH, hSH⟩ : ∃ n, Hid (Rf.zs ⟨some ⟨W1.heap.size, 0, none⟩, [q0, x1'], 2, ua⟩ = n) := ⟨_, hide rfl⟩
  obtain ⟨KD, hKD⟩ : ∃ n, Hid (Rf.u ⟨some ⟨W1.heap.size, 0, none⟩, [q0, x1'], 2, ua⟩ = n) := ⟨_, hide rfl⟩
  obtain ⟨KC, hKC⟩ : ∃ n, Hid (Shp.code [q0, x1'] = n) := ⟨_, hide rfl⟩
  rw [hSH.out, hKD.out, hKC.out] at HC
  rw [hSH.out] at HT1
  rw [hKD.out] at HT2
  replace HT3 : Hid (Sf.code 17 [a, b] = KC) := hide (HT3.out.trans hKC.out)
  go_region_held3 (fun W => W.cell? ⟨ad.block, ad.off + 2, none⟩ = some (.slice (some pb) 1 b.cap) ∧ W.cell? pb = some (.int .i64 q0) ∧ W.cell? ⟨w1.heap.size, 0, none⟩ = some (.slice (some pa) 2 a.cap) ∧ W.cell? ⟨pa.block, pa.off + 1, none⟩ = some (.int .i64 x1') ∧ W.cell? ⟨w1.heap.size, 1, none⟩ = some (.bool ua))
   (first | exact hS0 | exact hS1 | exact hS2 | exact hS3.out | assumption)
   (first | (go_at_call 50; (with_reducible refine HC.out.mono ?_); rintro e W4 ⟨⟨d, rfl, hdi, hdf, hdz, hdu⟩, hb⟩; have HDZ := hide hdz; have HDU := hide hdu; clear hdz hdu; have q1 : w1.heap.size < (W1.alloc (.cells #[.int .i64 q0, .int .i64 x1'] 3)).drew.heap.size := (by have := HL.out; simp; omega); have q2 : pa.block < (W1.alloc (.cells #[.int .i64 q0, .int .i64 x1'] 3)).drew.heap.size := (by have := HQP.out; simp; omega); have q3 : pb.block < (W1.alloc (.cells #[.int .i64 q0, .int .i64 x1'] 3)).drew.heap.size := (by have := HQB.out; simp; omega); have q4 : ad.block < (W1.alloc (.cells #[.int .i64 q0, .int .i64 x1'] 3)).drew.heap.size := (by have := HQA.out; simp; omega); have hS2 := SfC5.keep hS1 q4 q3 q1 q2 q1 hb; have n1 : w.heap.size ≠ w1.heap.size := (Nat.ne_of_lt HZL.out); have n2 : w.heap.size ≠ pa.block := (Nat.ne_of_lt HPAL.out).symm; have n3 : w.heap.size ≠ pb.block := (Nat.ne_of_lt HPBL.out).symm; have n4 : w.heap.size ≠ ad.block := (Nat.ne_of_lt HAD.out).symm; have hS3 := hide (SfC5.far (SfC5.far hS2 n4 n3 n1 n2 n1 0 (.slice d.P d.zs.length d.cap)) n4 n3 n1 n2 n1 1 (.bool d.u)); have hz4 := HZ1.out.below hb HZ1.out.lt; have hB4 := HBA.out.trans (hb.mono HBA.out.size); obtain ⟨z0, z1, zf0, zf1, HZf, HFf⟩ := elm_two hz4 hB4 (Nat.le_refl _) (.slice d.P d.zs.length d.cap) (.bool d.u); have hdl := hide (hdi.far2 hdf (by show w.heap.size < _; have := HWL.out; simp; omega) (.slice d.P d.zs.length d.cap) (.bool d.u))))
  go_wp2_with fail
  refine bodyPost_ret (results_desc rfl _ _ w.heap.size _ _ rfl HZf.out) rfl ?_
  rw [HT1.out, HT2.out, HT3.out]
  exact ⟨⟨d, rfl, hdl.out, fun ad h => Nat.le_trans (by have := HWL.out; simp; omega) (hdf ad h), HDZ.out, HDU.out⟩, HFf.out⟩
set_option maxRecDepth 100000 in
set_option maxHeartbeats 8000000 in
theorem rsoft_19 (ds : List Dsc) (B : Option Addr) (cap : Nat) (w : World) (hR : Row w B (ds.flatMap Dsc.vals)) (hI : ∀ d ∈ ds, d.In w) (hc : ∀ d ∈ ds, d.zs.length ≤ d.cap) :
  Calls Tryz.prog 15 #[.int .i64 19, .slice B ds.length cap] w (RefE w (Sf.shape 19 ds) (Sf.kind 19 ds) (Sf.code 19 ds)) := by
 obtain ⟨W0, hW0⟩ : ∃ W, W = w.alloc (.cells #[.slice none 0 0, .bool false] 24) := ⟨_, rfl⟩
 have hbw : Below w.heap.size w W0 := by rw [hW0]; exact (Below.refl _ _).alloc (Nat.le_refl _) _
 have HZ : Hid (Has W0 w.heap.size 24 [.slice none 0 0, .bool false]) := hide (by rw [hW0]; exact Has.new _ _ _)
 have HB0 := hide hbw
 have HW := hide hW0
 have HNI : Hid (Sf.nins 19 = 1) := hide (by decide)
 by_cases hlen : ds.length = 1
 case neg =>
  have hcd : Sf.code 19 ds = 101 := by
   unfold Sf.code
   exact if_pos (by rw [HNI.out]; exact hlen)
  obtain ⟨e1, e2⟩ := Sf.bad (by rw [hcd]; decide)
  have HD1 := hide e1
  have HD2 := hide e2
  have HCD := hide hcd
  obtain ⟨nd, hnd⟩ : ∃ n, Hid (ds.length = n) := ⟨_, hide rfl⟩
  rw [hnd.out] at hlen ⊢
  have i1 : ((nd : Int) == 1) = false := by simp; omega
  have i2 : ((nd : Int) != 1) = true := by simp; omega
  clear hR hI hW0 hbw e1 e2 hcd hlen hc
  go_enter Tryz.func15, Tryz.ntmps15
  go_wp2_with fail
  rw [← HW.out]
  refine bodyPost_ret (results_desc rfl _ _ w.heap.size _ _ rfl HZ.out) rfl ?_
  rw [HD1.out, HD2.out, HCD.out]
  exact RefE.bad rfl HB0.out
 case pos =>
 obtain ⟨a, hds⟩ : ∃ a, ds = [a] := by
  match ds, hlen with
  | [a], _ => exact ⟨a, rfl⟩
 subst hds
 have HLN : Hid ([a].length = Sf.nins 19) := hide HNI.out.symm
 have HV : Hid (Calls Tryz.prog 49 #[.slice B 1 cap] W0 fun e w' => e = .returned (.int .i64 (Shp.firstbad [a] : Nat)) ∧ Below W0.heap.size W0 w') := hide (descs_c [a] B cap W0 (hR.below hbw) (fun d hd => (hI d hd).below hbw) (by simp))
 show Calls Tryz.prog 15 #[.int .i64 19, .slice B 1 cap] w _
 have ha := hI a (by simp)
 have hca := hc a (by simp)
 have HIa := hide (fun W (h : Below w.heap.size w W) => ha.below h)
 obtain ⟨ad, hBa, had, c0, c1⟩ := rowd_one hR
 subst hBa
 obtain ⟨n, hn⟩ : ∃ n, Hid (a.zs.length = n) := ⟨_, hide rfl⟩
 obtain ⟨ua, hua⟩ : ∃ x, Hid (a.u = x) := ⟨_, hide rfl⟩
 rw [hn.out] at c0 hca
 rw [hua.out] at c1
 have hln : (n : Int) ≤ 1000000 := by have := ha.ls; have := hn.out; omega
 obtain ⟨fb, hfb⟩ : ∃ n, Hid (Shp.firstbad [a] = n) := ⟨_, hide rfl⟩
 rw [hfb.out] at HV
 clear hR hI ha hW0 hbw hlen hc
 go_enter Tryz.func15, Tryz.ntmps15
 go_wp2_with fail
 rw [← HW.out]
 clear HW
 refine HV.out.mono ?_
 rintro e w1 ⟨rfl, hb⟩
 replace HZ := hide (HZ.out.below hb HZ.out.lt)
 replace HB0 := hide (HB0.out.trans (hb.mono HB0.out.size))
 clear hb HV
 by_cases h0 : fb = 0
 case neg =>
  have hcd : Sf.code 19 [a] = fb := (Sf.bad_code HLN.out (by rw [hfb.out]; exact h0)).trans hfb.out
  obtain ⟨e1, e2⟩ := Sf.bad (by rw [hcd]; exact h0)
  have HD1 := hide e1
  have HD2 := hide e2
  have HCD := hide hcd
  have i1 : ((fb : Int) == 0) = false := by simp; omega
  have i2 : ((fb : Int) != 0) = true := by simp; omega
  clear hcd e1 e2 h0 c0 c1 had
  obtain ⟨z0, z1, zf0, zf1, HZf, HFf⟩ := elm_two HZ.out HB0.out (Nat.le_refl _) (.slice none 0 0) (.bool false)
  go_wp2_with fail
  refine bodyPost_ret (results_desc rfl _ _ w.heap.size _ _ rfl HZf.out) rfl ?_
  rw [HD1.out, HD2.out, HCD.out]
  exact RefE.bad rfl HFf.out
 case pos =>
 subst h0
 have HNO : Hid (Sf.lk 19 [a] = none → Sf.code 19 [a] = 101) := hide (fun h => Sf.lk_none HLN.out hfb.out h)
 have HYES : Hid (∀ d : Dsc, Sf.lk 19 [a] = some (d.zs, d.u) → Sf.shape 19 [a] = Rf.zs d ∧ Sf.kind 19 [a] = Rf.u d ∧ Sf.code 19 [a] = Shp.code d.zs) := hide (fun d h => Sf.lk_seen HLN.out hfb.out d h)
 have had1 : ad.block < w1.heap.size := Nat.lt_of_lt_of_le had HB0.out.size
 have hzl : w.heap.size < w1.heap.size := HZ.out.lt
 replace c0 : w1.cell? ad = some (.slice a.P n a.cap) := (HB0.out.cell (p := ad) had).trans c0
 replace c1 : w1.cell? ⟨ad.block, ad.off + 1, none⟩ = some (.bool ua) := (HB0.out.cell (p := ⟨ad.block, ad.off + 1, none⟩) had).trans c1
 have h1 : n = 0 → Sf.lk 19 [a] = none := fun h => by unfold Sf.lk; exact if_neg (by rw [hn.out]; omega)
 have h2 : ¬ n = 0 → Sf.lk 19 [a] = some (a.zs.dropLast, true) := fun h => by unfold Sf.lk; exact if_pos (by rw [hn.out]; omega)
 by_cases h0 : n = 0
 case pos =>
  have hcd : Sf.code 19 [a] = 101 := HNO.out (h1 h0)
  obtain ⟨e1, e2⟩ := Sf.bad (by rw [hcd]; decide)
  have HD1 := hide e1
  have HD2 := hide e2
  have HCD := hide hcd
  clear hcd e1 e2
  have hn0 : (n : Int) < 1 := by omega
  clear h1 h2 h0
  obtain ⟨W1, hW1⟩ : ∃ W, W = (w1.alloc (.cells #[.slice a.P n a.cap, .bool ua] 24)) := ⟨_, rfl⟩
  have hbA : Below w1.heap.size w1 W1 := by rw [hW1]; exact (Below.refl _ _).alloc (Nat.le_refl _) _
  have HX : Hid (Has W1 w1.heap.size 24 [.slice a.P n a.cap, .bool ua]) := hide (by rw [hW1]; exact Has.new _ _ _)
  have HZ0 := HZ
  have HBq := HB0
  have y0 := HZ.out.cell 0
  have y1 := HZ.out.cell 1
  have yf0 := HZ.out.frozen 0
  have yf1 := HZ.out.frozen 1
  replace HZ := hide (HZ.out.below hbA HZ.out.lt)
  replace HB0 := hide (HB0.out.trans (hbA.mono HB0.out.size))
  have HW1 := hide hW1
  have x0 := HX.out.cell 0
  have x1 := HX.out.cell 1
  clear hW1
  clear HW1 y0 y1 yf0 yf1 x0 x1
  obtain ⟨z0, z1, zf0, zf1, HZp, HFp⟩ := elm_two HZ0.out HBq.out (Nat.le_refl _) (.slice none 0 0) (.bool false)
  have HZf := hide (HZp.out.alloc (.cells #[.slice a.P n a.cap, .bool ua] 24))
  have HFf := hide (HFp.out.alloc HFp.out.size (.cells #[.slice a.P n a.cap, .bool ua] 24))
  go_wp2_with fail
  refine bodyPost_ret (results_desc rfl _ _ w.heap.size _ _ rfl HZf.out) rfl ?_
  rw [HD1.out, HD2.out, HCD.out]
  exact RefE.bad rfl HFf.out
 case neg =>
  have hn0 : ¬ (n : Int) < 1 := by omega
  obtain ⟨n', hn'⟩ : ∃ x, Hid (n - 1 = x) := ⟨_, hide rfl⟩
  have hn1 : (n : Int) - 1 = (n' : Int) := by rw [← hn'.out]; omega
  have hkk : wrap64 (n' : Int) = (n' : Int) := by clear hn1; rw [← hn'.out]; unfold wrap64; omega
  have hdl : Hid (a.zs.dropLast.length = n') := hide (by rw [List.length_dropLast, hn.out, hn'.out])
  have hs := fun W => cut_slice_run a.P n a.cap n' (by rw [← hn'.out]; omega) W
  obtain ⟨t1, t2, t3⟩ := HYES.out ⟨a.P, a.zs.dropLast, a.cap, true⟩ (h2 h0)
  have HT1 := hide t1
  have HT2 := hide t2
  have HT3 := hide t3
  clear h1 h2 h0 t1 t2 t3
  obtain ⟨W1, hW1⟩ : ∃ W, W = (w1.alloc (.cells #[.slice a.P n a.cap, .bool ua] 24)) := ⟨_, rfl⟩
  have hbA : Below w1.heap.size w1 W1 := by rw [hW1]; exact (Below.refl _ _).alloc (Nat.le_refl _) _
  have HX : Hid (Has W1 w1.heap.size 24 [.slice a.P n a.cap, .bool ua]) := hide (by rw [hW1]; exact Has.new _ _ _)
  have HZ0 := HZ
  have HBq := HB0
  have y0 := HZ.out.cell 0
  have y1 := HZ.out.cell 1
  have yf0 := HZ.out.frozen 0
  have yf1 := HZ.out.frozen 1
  replace HZ := hide (HZ.out.below hbA HZ.out.lt)
  replace HB0 := hide (HB0.out.trans (hbA.mono HB0.out.size))
  have HW1 := hide hW1
  have x0 := HX.out.cell 0
  have x1 := HX.out.cell 1
  clear hW1
  have hse := seen_c ⟨a.P, a.zs.dropLast, a.cap, true⟩ W1 ⟨by
   have h := (HIa.out _ HB0.out).shp.take n'
   rw [← hdl.out, List.length_dropLast, ← List.dropLast_eq_take] at h
   exact h, by have h := hdl.out; have h2 := hn'.out; show a.zs.dropLast.length ≤ 1000000; omega⟩
  have HC : Hid (Calls Tryz.prog 50 #[.agg #[.slice a.P n' a.cap, .bool true]] W1 (RefE W1 (Rf.zs ⟨a.P, a.zs.dropLast, a.cap, true⟩) (Rf.u ⟨a.P, a.zs.dropLast, a.cap, true⟩) (Shp.code a.zs.dropLast))) := hide (by rw [← hdl.out]; exact hse)
  clear hse
  go_wp2_with fail
  rw [← HW1.out]
  clear HW1 y0 y1 yf0 yf1 x0 x1
  refine HC.out.mono ?_
  rintro e W4 ⟨⟨d, rfl, hdi, hdf, hdz, hdu⟩, hb⟩
  have hz4 := HZ.out.below hb HZ.out.lt
  have hB4 := HB0.out.trans (hb.mono HB0.out.size)
  obtain ⟨z0, z1, zf0, zf1, HZf, HFf⟩ := elm_two hz4 hB4 (Nat.le_refl _) (.slice d.P d.zs.length d.cap) (.bool d.u)
  have hdl := hide (hdi.far2 hdf (by exact HZ.out.lt) (.slice d.P d.zs.length d.cap) (.bool d.u))
  have HDF := hide hdf
  have HDZ := hide hdz
  have HDU := hide hdu
  have HWZ : Hid (w.heap.size < W1.heap.size) := hide HZ.out.lt
  clear hdi hdf hdz hdu hb hz4 hB4 HC
  go_wp2_with fail
  refine bodyPost_ret (results_desc rfl _ _ w.heap.size _ _ rfl HZf.out) rfl ?_
  rw [HT1.out, HT2.out, HT3.out]
  exact ⟨⟨d, rfl, hdl.out, fun ad h => Nat.le_trans (Nat.le_of_lt HWZ.out) (HDF.out ad h), HDZ.out, HDU.out⟩, HFf.out⟩
set_option maxRecDepth 100000 in
set_option maxHeartbeats 8000000 in
theorem rsoft_20 (ds : List Dsc) (B : Option Addr) (cap : Nat) (w : World) (hR : Row w B (ds.flatMap Dsc.vals)) (hI : ∀ d ∈ ds, d.In w) (hc : ∀ d ∈ ds, d.zs.length ≤ d.cap) :
  Calls Tryz.prog 15 #[.int .i64 20, .slice B ds.length cap] w (RefE w (Sf.shape 20 ds) (Sf.kind 20 ds) (Sf.code 20 ds)) := by
 obtain ⟨W0, hW0⟩ : ∃ W, W = w.alloc (.cells #[.slice none 0 0, .bool false] 24) := ⟨_, rfl⟩
 have hbw : Below w.heap.size w W0 := by rw [hW0]; exact (Below.refl _ _).alloc (Nat.le_refl _) _
 have HZ : Hid (Has W0 w.heap.size 24 [.slice none 0 0, .bool false]) := hide (by rw [hW0]; exact Has.new _ _ _)
 have HB0 := hide hbw
 have HW := hide hW0
 have HNI : Hid (Sf.nins 20 = 1) := hide (by decide)
 by_cases hlen : ds.length = 1
 case neg =>
  have hcd : Sf.code 20 ds = 101 := by
   unfold Sf.code
   exact if_pos (by rw [HNI.out]; exact hlen)
  obtain ⟨e1, e2⟩ := Sf.bad (by rw [hcd]; decide)
  have HD1 := hide e1
  have HD2 := hide e2
  have HCD := hide hcd
  obtain ⟨nd, hnd⟩ : ∃ n, Hid (ds.length = n) := ⟨_, hide rfl⟩
  rw [hnd.out] at hlen ⊢
  have i1 : ((nd : Int) == 1) = false := by simp; omega
  have i2 : ((nd : Int) != 1) = true := by simp; omega
  clear hR hI hW0 hbw e1 e2 hcd hlen hc
  go_enter Tryz.func15, Tryz.ntmps15
  go_wp2_with fail
  rw [← HW.out]
  refine bodyPost_ret (results_desc rfl _ _ w.heap.size _ _ rfl HZ.out) rfl ?_
  rw [HD1.out, HD2.out, HCD.out]
  exact RefE.bad rfl HB0.out
 case pos =>
 obtain ⟨a, hds⟩ : ∃ a, ds = [a] := by
  match ds, hlen with
  | [a], _ => exact ⟨a, rfl⟩
 subst hds
 have HLN : Hid ([a].length = Sf.nins 20) := hide HNI.out.symm
 have HV : Hid (Calls Tryz.prog 49 #[.slice B 1 cap] W0 fun e w' => e = .returned (.int .i64 (Shp.firstbad [a] : Nat)) ∧ Below W0.heap.size W0 w') := hide (descs_c [a] B cap W0 (hR.below hbw) (fun d hd => (hI d hd).below hbw) (by simp))
 show Calls Tryz.prog 15 #[.int .i64 20, .slice B 1 cap] w _
 have ha := hI a (by simp)
 have hca := hc a (by simp)
 have HIa := hide (fun W (h : Below w.heap.size w W) => ha.below h)
 obtain ⟨ad, hBa, had, c0, c1⟩ := rowd_one hR
 subst hBa
 obtain ⟨n, hn⟩ : ∃ n, Hid (a.zs.length = n) := ⟨_, hide rfl⟩
 obtain ⟨ua, hua⟩ : ∃ x, Hid (a.u = x) := ⟨_, hide rfl⟩
 rw [hn.out] at c0 hca
 rw [hua.out] at c1
 have hln : (n : Int) ≤ 1000000 := by have := ha.ls; have := hn.out; omega
 obtain ⟨fb, hfb⟩ : ∃ n, Hid (Shp.firstbad [a] = n) := ⟨_, hide rfl⟩
 rw [hfb.out] at HV
 clear hR hI ha hW0 hbw hlen hc
 go_enter Tryz.func15, Tryz.ntmps15
 go_wp2_with fail
 rw [← HW.out]
 clear HW
 refine HV.out.mono ?_
 rintro e w1 ⟨rfl, hb⟩
 replace HZ := hide (HZ.out.below hb HZ.out.lt)
 replace HB0 := hide (HB0.out.trans (hb.mono HB0.out.size))
 clear hb HV
 by_cases h0 : fb = 0
 case neg =>
  have hcd : Sf.code 20 [a] = fb := (Sf.bad_code HLN.out (by rw [hfb.out]; exact h0)).trans hfb.out
  obtain ⟨e1, e2⟩ := Sf.bad (by rw [hcd]; exact h0)
  have HD1 := hide e1
  have HD2 := hide e2
  have HCD := hide hcd
  have i1 : ((fb : Int) == 0) = false := by simp; omega
  have i2 : ((fb : Int) != 0) = true := by simp; omega
  clear hcd e1 e2 h0 c0 c1 had
  obtain ⟨z0, z1, zf0, zf1, HZf, HFf⟩ := elm_two HZ.out HB0.out (Nat.le_refl _) (.slice none 0 0) (.bool false)
  go_wp2_with fail
  refine bodyPost_ret (results_desc rfl _ _ w.heap.size _ _ rfl HZf.out) rfl ?_
  rw [HD1.out, HD2.out, HCD.out]
  exact RefE.bad rfl HFf.out
 case pos =>
 subst h0
 have HNO : Hid (Sf.lk 20 [a] = none → Sf.code 20 [a] = 101) := hide (fun h => Sf.lk_none HLN.out hfb.out h)
 have HYES : Hid (∀ d : Dsc, Sf.lk 20 [a] = some (d.zs, d.u) → Sf.shape 20 [a] = Rf.zs d ∧ Sf.kind 20 [a] = Rf.u d ∧ Sf.code 20 [a] = Shp.code d.zs) := hide (fun d h => Sf.lk_seen HLN.out hfb.out d h)
 have had1 : ad.block < w1.heap.size := Nat.lt_of_lt_of_le had HB0.out.size
 have hzl : w.heap.size < w1.heap.size := HZ.out.lt
 replace c0 : w1.cell? ad = some (.slice a.P n a.cap) := (HB0.out.cell (p := ad) had).trans c0
 replace c1 : w1.cell? ⟨ad.block, ad.off + 1, none⟩ = some (.bool ua) := (HB0.out.cell (p := ⟨ad.block, ad.off + 1, none⟩) had).trans c1
 have h1 : n = 0 → Sf.lk 20 [a] = none := fun h => by unfold Sf.lk; exact if_neg (by rw [hn.out]; omega)
 have h2 : ¬ n = 0 → Sf.lk 20 [a] = some (a.zs.dropLast, true) := fun h => by unfold Sf.lk; exact if_pos (by rw [hn.out]; omega)
 by_cases h0 : n = 0
 case pos =>
  have hcd : Sf.code 20 [a] = 101 := HNO.out (h1 h0)
  obtain ⟨e1, e2⟩ := Sf.bad (by rw [hcd]; decide)
  have HD1 := hide e1
  have HD2 := hide e2
  have HCD := hide hcd
  clear hcd e1 e2
  have hn0 : (n : Int) < 1 := by omega
  clear h1 h2 h0
  obtain ⟨W1, hW1⟩ : ∃ W, W = (w1.alloc (.cells #[.slice a.P n a.cap, .bool ua] 24)) := ⟨_, rfl⟩
  have hbA : Below w1.heap.size w1 W1 := by rw [hW1]; exact (Below.refl _ _).alloc (Nat.le_refl _) _
  have HX : Hid (Has W1 w1.heap.size 24 [.slice a.P n a.cap, .bool ua]) := hide (by rw [hW1]; exact Has.new _ _ _)
  have HZ0 := HZ
  have HBq := HB0
  have y0 := HZ.out.cell 0
  have y1 := HZ.out.cell 1
  have yf0 := HZ.out.frozen 0
  have yf1 := HZ.out.frozen 1
  replace HZ := hide (HZ.out.below hbA HZ.out.lt)
  replace HB0 := hide (HB0.out.trans (hbA.mono HB0.out.size))
  have HW1 := hide hW1
  have x0 := HX.out.cell 0
  have x1 := HX.out.cell 1
  clear hW1
  clear HW1 y0 y1 yf0 yf1 x0 x1
  obtain ⟨z0, z1, zf0, zf1, HZp, HFp⟩ := elm_two HZ0.out HBq.out (Nat.le_refl _) (.slice none 0 0) (.bool false)
  have HZf := hide (HZp.out.alloc (.cells #[.slice a.P n a.cap, .bool ua] 24))
  have HFf := hide (HFp.out.alloc HFp.out.size (.cells #[.slice a.P n a.cap, .bool ua] 24))
  go_wp2_with fail
  refine bodyPost_ret (results_desc rfl _ _ w.heap.size _ _ rfl HZf.out) rfl ?_
  rw [HD1.out, HD2.out, HCD.out]
  exact RefE.bad rfl HFf.out
 case neg =>
  have hn0 : ¬ (n : Int) < 1 := by omega
  obtain ⟨n', hn'⟩ : ∃ x, Hid (n - 1 = x) := ⟨_, hide rfl⟩
  have hn1 : (n : Int) - 1 = (n' : Int) := by rw [← hn'.out]; omega
  have hkk : wrap64 (n' : Int) = (n' : Int) := by clear hn1; rw [← hn'.out]; unfold wrap64; omega
  have hdl : Hid (a.zs.dropLast.length = n') := hide (by rw [List.length_dropLast, hn.out, hn'.out])
  have hs := fun W => cut_slice_run a.P n a.cap n' (by rw [← hn'.out]; omega) W
  obtain ⟨t1, t2, t3⟩ := HYES.out ⟨a.P, a.zs.dropLast, a.cap, true⟩ (h2 h0)
  have HT1 := hide t1
  have HT2 := hide t2
  have HT3 := hide t3
  clear h1 h2 h0 t1 t2 t3
  obtain ⟨W1, hW1⟩ : ∃ W, W = (w1.alloc (.cells #[.slice a.P n a.cap, .bool ua] 24)) := ⟨_, rfl⟩
  have hbA : Below w1.heap.size w1 W1 := by rw [hW1]; exact (Below.refl _ _).alloc (Nat.le_refl _) _
  have HX : Hid (Has W1 w1.heap.size 24 [.slice a.P n a.cap, .bool ua]) := hide (by rw [hW1]; exact Has.new _ _ _)
  have HZ0 := HZ
  have HBq := HB0
  have y0 := HZ.out.cell 0
  have y1 := HZ.out.cell 1
  have yf0 := HZ.out.frozen 0
  have yf1 := HZ.out.frozen 1
  replace HZ := hide (HZ.out.below hbA HZ.out.lt)
  replace HB0 := hide (HB0.out.trans (hbA.mono HB0.out.size))
  have HW1 := hide hW1
  have x0 := HX.out.cell 0
  have x1 := HX.out.cell 1
  clear hW1
  have hse := seen_c ⟨a.P, a.zs.dropLast, a.cap, true⟩ W1 ⟨by
   have h := (HIa.out _ HB0.out).shp.take n'
   rw [← hdl.out, List.length_dropLast, ← List.dropLast_eq_take] at h
   exact h, by have h := hdl.out; have h2 := hn'.out; show a.zs.dropLast.length ≤ 1000000; omega⟩
  have HC : Hid (Calls Tryz.prog 50 #[.agg #[.slice a.P n' a.cap, .bool true]] W1 (RefE W1 (Rf.zs ⟨a.P, a.zs.dropLast, a.cap, true⟩) (Rf.u ⟨a.P, a.zs.dropLast, a.cap, true⟩) (Shp.code a.zs.dropLast))) := hide (by rw [← hdl.out]; exact hse)
  clear hse
  go_wp2_with fail
  rw [← HW1.out]
  clear HW1 y0 y1 yf0 yf1 x0 x1
  refine HC.out.mono ?_
  rintro e W4 ⟨⟨d, rfl, hdi, hdf, hdz, hdu⟩, hb⟩
  have hz4 := HZ.out.below hb HZ.out.lt
  have hB4 := HB0.out.trans (hb.mono HB0.out.size)
  obtain ⟨z0, z1, zf0, zf1, HZf, HFf⟩ := elm_two hz4 hB4 (Nat.le_refl _) (.slice d.P d.zs.length d.cap) (.bool d.u)
  have hdl := hide (hdi.far2 hdf (by exact HZ.out.lt) (.slice d.P d.zs.length d.cap) (.bool d.u))
  have HDF := hide hdf
  have HDZ := hide hdz
  have HDU := hide hdu
  have HWZ : Hid (w.heap.size < W1.heap.size) := hide HZ.out.lt
  clear hdi hdf hdz hdu hb hz4 hB4 HC
  go_wp2_with fail
  refine bodyPost_ret (results_desc rfl _ _ w.heap.size _ _ rfl HZf.out) rfl ?_
  rw [HT1.out, HT2.out, HT3.out]
  exact ⟨⟨d, rfl, hdl.out, fun ad h => Nat.le_trans (Nat.le_of_lt HWZ.out) (HDF.out ad h), HDZ.out, HDU.out⟩, HFf.out⟩
theorem rsoft_c (op : Int) (hop : Sf.isOp op) (ds : List Dsc) (B : Option Addr) (cap : Nat) (w : World) (hR : Row w B (ds.flatMap Dsc.vals)) (hI : ∀ d ∈ ds, d.In w) (hc : ∀ d ∈ ds, d.zs.length ≤ d.cap) :
  Calls Tryz.prog 15 #[.int .i64 op, .slice B ds.length cap] w (RefE w (Sf.shape op ds) (Sf.kind op ds) (Sf.code op ds)) := by
 rcases hop with rfl | rfl | rfl | rfl
 ·exact rsoft_16 ds B cap w hR hI
 ·exact rsoft_17 ds B cap w hR hI
 ·exact rsoft_19 ds B cap w hR hI hc
 ·exact rsoft_20 ds B cap w hR hI hc
end Go.Proofs.YtgdcfjmpjhlndaaGreatDoor
