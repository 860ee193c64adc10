/-
  lodgeref3.Result of any operation, walked. By an AI agent. No person has read it.
-/
import Derived.Test.YtgdcfjmpjhlndaaGreatDoorZFOpG
import Derived.Test.YtgdcfjmpjhlndaaGreatDoorZFRefR
import Derived.Test.YtgdcfjmpjhlndaaGreatDoorZFElmY
namespace Go.Proofs.YtgdcfjmpjhlndaaGreatDoor
open Go.RowKit
set_option maxRecDepth 100000 in
set_option maxHeartbeats 4000000 in
theorem rres_soft16 (ds : List Dsc) (A B : Option Addr) (qcap cap : Nat) (w : World) (hlen : ds.length = 2) (hR : Row w B (ds.flatMap Dsc.vals)) (hI : ∀ d ∈ ds, d.In w) (hc : ∀ d ∈ ds, d.zs.length ≤ d.cap) :
    Calls Tryz.prog 38 #[.int .i64 16, .slice A 0 qcap, .slice B 2 cap] w (RefE w (Sf.shape 16 ds) (Sf.kind 16 ds) (Sf.code 16 ds)) := by
  obtain ⟨W0, hW0⟩ : ∃ W, W = w.alloc (.cells #[.slice none 0 0, .bool false] 24) := ⟨_, rfl⟩
  have HZ : Hid (Has W0 w.heap.size 24 [.slice none 0 0, .bool false]) := hide (by rw [hW0]; exact Has.new _ _ _)
  have HB0 : Hid (Below w.heap.size w W0) := hide (by rw [hW0]; exact (Below.refl _ _).alloc (Nat.le_refl _) _)
  have HW := hide hW0
  have HV := hide (rsoft_c 16 (by unfold Sf.isOp; decide) ds B cap W0 (hR.below HB0.out) (fun d hd => (hI d hd).below HB0.out) hc)
  have HWZ : Hid (w.heap.size < W0.heap.size) := hide HZ.out.lt
  obtain ⟨k, hk⟩ : ∃ n, Hid (Sf.code 16 ds = n) := ⟨_, hide rfl⟩
  obtain ⟨zs, hzs⟩ : ∃ n, Hid (Sf.shape 16 ds = n) := ⟨_, hide rfl⟩
  obtain ⟨u, hu⟩ : ∃ n, Hid (Sf.kind 16 ds = n) := ⟨_, hide rfl⟩
  rw [hk.out, hzs.out, hu.out] at HV ⊢
  rw [hlen] at HV
  clear hW0 hR hI hc hlen
  go_enter Tryz.func38, Tryz.ntmps38
  go_wp2_with fail
  rw [← HW.out]
  clear HW
  refine (rknown16 _).mono ?_
  rintro e wq ⟨rfl, hw⟩
  have hw := hw.symm
  subst hw
  go_wp2_with fail
  refine (rins16 _).mono ?_
  rintro e wq ⟨rfl, hw⟩
  have hw := hw.symm
  subst hw
  go_wp2_with fail
  refine (rargs16 _).mono ?_
  rintro e wq ⟨rfl, hw⟩
  have hw := hw.symm
  subst hw
  go_wp2_with fail
  refine HV.out.mono ?_
  rintro e W4 ⟨⟨d, rfl, hdi, hdf, hdz, hdu⟩, hb⟩
  have hz4 := HZ.out.below hb HZ.out.lt
  have hB4 := HB0.out.trans (hb.mono HB0.out.size)
  obtain ⟨z0, z1, zf0, zf1, HZf, HFf⟩ := elm_two hz4 hB4 (Nat.le_refl _) (.slice d.P d.zs.length d.cap) (.bool d.u)
  have hdl := hide (hdi.far2 hdf (by exact HWZ.out) (.slice d.P d.zs.length d.cap) (.bool d.u))
  have HDF := hide hdf
  have HDZ := hide hdz
  have HDU := hide hdu
  clear hdi hdf hdz hdu hb hz4 hB4 HV
  go_wp2_with fail
  refine bodyPost_ret (results_desc rfl _ _ w.heap.size _ _ rfl HZf.out) rfl ?_
  exact ⟨⟨d, rfl, hdl.out, fun ad h => Nat.le_trans (Nat.le_of_lt HWZ.out) (HDF.out ad h), HDZ.out, HDU.out⟩, HFf.out⟩
set_option maxRecDepth 100000 in
set_option maxHeartbeats 4000000 in
theorem rres_soft17 (ds : List Dsc) (A B : Option Addr) (qcap cap : Nat) (w : World) (hlen : ds.length = 2) (hR : Row w B (ds.flatMap Dsc.vals)) (hI : ∀ d ∈ ds, d.In w) (hc : ∀ d ∈ ds, d.zs.length ≤ d.cap) :
    Calls Tryz.prog 38 #[.int .i64 17, .slice A 0 qcap, .slice B 2 cap] w (RefE w (Sf.shape 17 ds) (Sf.kind 17 ds) (Sf.code 17 ds)) := by
  obtain ⟨W0, hW0⟩ : ∃ W, W = w.alloc (.cells #[.slice none 0 0, .bool false] 24) := ⟨_, rfl⟩
  have HZ : Hid (Has W0 w.heap.size 24 [.slice none 0 0, .bool false]) := hide (by rw [hW0]; exact Has.new _ _ _)
  have HB0 : Hid (Below w.heap.size w W0) := hide (by rw [hW0]; exact (Below.refl _ _).alloc (Nat.le_refl _) _)
  have HW := hide hW0
  have HV := hide (rsoft_c 17 (by unfold Sf.isOp; decide) ds B cap W0 (hR.below HB0.out) (fun d hd => (hI d hd).below HB0.out) hc)
  have HWZ : Hid (w.heap.size < W0.heap.size) := hide HZ.out.lt
  obtain ⟨k, hk⟩ : ∃ n, Hid (Sf.code 17 ds = n) := ⟨_, hide rfl⟩
  obtain ⟨zs, hzs⟩ : ∃ n, Hid (Sf.shape 17 ds = n) := ⟨_, hide rfl⟩
  obtain ⟨u, hu⟩ : ∃ n, Hid (Sf.kind 17 ds = n) := ⟨_, hide rfl⟩
  rw [hk.out, hzs.out, hu.out] at HV ⊢
  rw [hlen] at HV
  clear hW0 hR hI hc hlen
  go_enter Tryz.func38, Tryz.ntmps38
  go_wp2_with fail
  rw [← HW.out]
  clear HW
  refine (rknown17 _).mono ?_
  rintro e wq ⟨rfl, hw⟩
  have hw := hw.symm
  subst hw
  go_wp2_with fail
  refine (rins17 _).mono ?_
  rintro e wq ⟨rfl, hw⟩
  have hw := hw.symm
  subst hw
  go_wp2_with fail
  refine (rargs17 _).mono ?_
  rintro e wq ⟨rfl, hw⟩
  have hw := hw.symm
  subst hw
  go_wp2_with fail
  refine HV.out.mono ?_
  rintro e W4 ⟨⟨d, rfl, hdi, hdf, hdz, hdu⟩, hb⟩
  have hz4 := HZ.out.below hb HZ.out.lt
  have hB4 := HB0.out.trans (hb.mono HB0.out.size)
  obtain ⟨z0, z1, zf0, zf1, HZf, HFf⟩ := elm_two hz4 hB4 (Nat.le_refl _) (.slice d.P d.zs.length d.cap) (.bool d.u)
  have hdl := hide (hdi.far2 hdf (by exact HWZ.out) (.slice d.P d.zs.length d.cap) (.bool d.u))
  have HDF := hide hdf
  have HDZ := hide hdz
  have HDU := hide hdu
  clear hdi hdf hdz hdu hb hz4 hB4 HV
  go_wp2_with fail
  refine bodyPost_ret (results_desc rfl _ _ w.heap.size _ _ rfl HZf.out) rfl ?_
  exact ⟨⟨d, rfl, hdl.out, fun ad h => Nat.le_trans (Nat.le_of_lt HWZ.out) (HDF.out ad h), HDZ.out, HDU.out⟩, HFf.out⟩
set_option maxRecDepth 100000 in
set_option maxHeartbeats 4000000 in
theorem rres_soft19 (ds : List Dsc) (A B : Option Addr) (qcap cap : Nat) (w : World) (hlen : ds.length = 1) (hR : Row w B (ds.flatMap Dsc.vals)) (hI : ∀ d ∈ ds, d.In w) (hc : ∀ d ∈ ds, d.zs.length ≤ d.cap) :
    Calls Tryz.prog 38 #[.int .i64 19, .slice A 0 qcap, .slice B 1 cap] w (RefE w (Sf.shape 19 ds) (Sf.kind 19 ds) (Sf.code 19 ds)) := by
  obtain ⟨W0, hW0⟩ : ∃ W, W = w.alloc (.cells #[.slice none 0 0, .bool false] 24) := ⟨_, rfl⟩
  have HZ : Hid (Has W0 w.heap.size 24 [.slice none 0 0, .bool false]) := hide (by rw [hW0]; exact Has.new _ _ _)
  have HB0 : Hid (Below w.heap.size w W0) := hide (by rw [hW0]; exact (Below.refl _ _).alloc (Nat.le_refl _) _)
  have HW := hide hW0
  have HV := hide (rsoft_c 19 (by unfold Sf.isOp; decide) ds B cap W0 (hR.below HB0.out) (fun d hd => (hI d hd).below HB0.out) hc)
  have HWZ : Hid (w.heap.size < W0.heap.size) := hide HZ.out.lt
  obtain ⟨k, hk⟩ : ∃ n, Hid (Sf.code 19 ds = n) := ⟨_, hide rfl⟩
  obtain ⟨zs, hzs⟩ : ∃ n, Hid (Sf.shape 19 ds = n) := ⟨_, hide rfl⟩
  obtain ⟨u, hu⟩ : ∃ n, Hid (Sf.kind 19 ds = n) := ⟨_, hide rfl⟩
  rw [hk.out, hzs.out, hu.out] at HV ⊢
  rw [hlen] at HV
  clear hW0 hR hI hc hlen
  go_enter Tryz.func38, Tryz.ntmps38
  go_wp2_with fail
  rw [← HW.out]
  clear HW
  refine (rknown19 _).mono ?_
  rintro e wq ⟨rfl, hw⟩
  have hw := hw.symm
  subst hw
  go_wp2_with fail
  refine (rins19 _).mono ?_
  rintro e wq ⟨rfl, hw⟩
  have hw := hw.symm
  subst hw
  go_wp2_with fail
  refine (rargs19 _).mono ?_
  rintro e wq ⟨rfl, hw⟩
  have hw := hw.symm
  subst hw
  go_wp2_with fail
  refine HV.out.mono ?_
  rintro e W4 ⟨⟨d, rfl, hdi, hdf, hdz, hdu⟩, hb⟩
  have hz4 := HZ.out.below hb HZ.out.lt
  have hB4 := HB0.out.trans (hb.mono HB0.out.size)
  obtain ⟨z0, z1, zf0, zf1, HZf, HFf⟩ := elm_two hz4 hB4 (Nat.le_refl _) (.slice d.P d.zs.length d.cap) (.bool d.u)
  have hdl := hide (hdi.far2 hdf (by exact HWZ.out) (.slice d.P d.zs.length d.cap) (.bool d.u))
  have HDF := hide hdf
  have HDZ := hide hdz
  have HDU := hide hdu
  clear hdi hdf hdz hdu hb hz4 hB4 HV
  go_wp2_with fail
  refine bodyPost_ret (results_desc rfl _ _ w.heap.size _ _ rfl HZf.out) rfl ?_
  exact ⟨⟨d, rfl, hdl.out, fun ad h => Nat.le_trans (Nat.le_of_lt HWZ.out) (HDF.out ad h), HDZ.out, HDU.out⟩, HFf.out⟩
set_option maxRecDepth 100000 in
set_option maxHeartbeats 4000000 in
theorem rres_soft20 (ds : List Dsc) (A B : Option Addr) (qcap cap : Nat) (w : World) (hlen : ds.length = 1) (hR : Row w B (ds.flatMap Dsc.vals)) (hI : ∀ d ∈ ds, d.In w) (hc : ∀ d ∈ ds, d.zs.length ≤ d.cap) :
    Calls Tryz.prog 38 #[.int .i64 20, .slice A 0 qcap, .slice B 1 cap] w (RefE w (Sf.shape 20 ds) (Sf.kind 20 ds) (Sf.code 20 ds)) := by
  obtain ⟨W0, hW0⟩ : ∃ W, W = w.alloc (.cells #[.slice none 0 0, .bool false] 24) := ⟨_, rfl⟩
  have HZ : Hid (Has W0 w.heap.size 24 [.slice none 0 0, .bool false]) := hide (by rw [hW0]; exact Has.new _ _ _)
  have HB0 : Hid (Below w.heap.size w W0) := hide (by rw [hW0]; exact (Below.refl _ _).alloc (Nat.le_refl _) _)
  have HW := hide hW0
  have HV := hide (rsoft_c 20 (by unfold Sf.isOp; decide) ds B cap W0 (hR.below HB0.out) (fun d hd => (hI d hd).below HB0.out) hc)
  have HWZ : Hid (w.heap.size < W0.heap.size) := hide HZ.out.lt
  obtain ⟨k, hk⟩ : ∃ n, Hid (Sf.code 20 ds = n) := ⟨_, hide rfl⟩
  obtain ⟨zs, hzs⟩ : ∃ n, Hid (Sf.shape 20 ds = n) := ⟨_, hide rfl⟩
  obtain ⟨u, hu⟩ : ∃ n, Hid (Sf.kind 20 ds = n) := ⟨_, hide rfl⟩
  rw [hk.out, hzs.out, hu.out] at HV ⊢
  rw [hlen] at HV
  clear hW0 hR hI hc hlen
  go_enter Tryz.func38, Tryz.ntmps38
  go_wp2_with fail
  rw [← HW.out]
  clear HW
  refine (rknown20 _).mono ?_
  rintro e wq ⟨rfl, hw⟩
  have hw := hw.symm
  subst hw
  go_wp2_with fail
  refine (rins20 _).mono ?_
  rintro e wq ⟨rfl, hw⟩
  have hw := hw.symm
  subst hw
  go_wp2_with fail
  refine (rargs20 _).mono ?_
  rintro e wq ⟨rfl, hw⟩
  have hw := hw.symm
  subst hw
  go_wp2_with fail
  refine HV.out.mono ?_
  rintro e W4 ⟨⟨d, rfl, hdi, hdf, hdz, hdu⟩, hb⟩
  have hz4 := HZ.out.below hb HZ.out.lt
  have hB4 := HB0.out.trans (hb.mono HB0.out.size)
  obtain ⟨z0, z1, zf0, zf1, HZf, HFf⟩ := elm_two hz4 hB4 (Nat.le_refl _) (.slice d.P d.zs.length d.cap) (.bool d.u)
  have hdl := hide (hdi.far2 hdf (by exact HWZ.out) (.slice d.P d.zs.length d.cap) (.bool d.u))
  have HDF := hide hdf
  have HDZ := hide hdz
  have HDU := hide hdu
  clear hdi hdf hdz hdu hb hz4 hB4 HV
  go_wp2_with fail
  refine bodyPost_ret (results_desc rfl _ _ w.heap.size _ _ rfl HZf.out) rfl ?_
  exact ⟨⟨d, rfl, hdl.out, fun ad h => Nat.le_trans (Nat.le_of_lt HWZ.out) (HDF.out ad h), HDZ.out, HDU.out⟩, HFf.out⟩
/-- What a region that copies dims and lays a box keeps. -/
structure R18b (w : World) (a : Dsc) (na : Nat) (W : World) : Prop where
  low : Below w.heap.size w W
  res : Has W w.heap.size 24 [.slice none 0 0, .bool false]
  abx : Has W (w.heap.size + 1) 24 [.slice a.P na a.cap, .bool a.u]
structure R18 (w : World) (a : Dsc) (na b g : Nat) (bv xs : List Value) (W : World) : Prop where
  base : R18b w a na W
  box : Has W b 24 bv
  ints : Has W g 3 xs
theorem R18b.below {w W W' : World} {a : Dsc} {na : Nat} (h : R18b w a na W) (hb : Below W.heap.size W W') : R18b w a na W' :=
  ⟨h.low.trans (hb.mono h.low.size), h.res.below hb h.res.lt, h.abx.below hb h.abx.lt⟩
theorem R18.below {w W W' : World} {a : Dsc} {na b g : Nat} {bv xs : List Value} (h : R18 w a na b g bv xs W) (hb : Below W.heap.size W W') : R18 w a na b g bv xs W' :=
  ⟨h.base.below hb, h.box.below hb h.box.lt, h.ints.below hb h.ints.lt⟩
end Go.Proofs.YtgdcfjmpjhlndaaGreatDoor
