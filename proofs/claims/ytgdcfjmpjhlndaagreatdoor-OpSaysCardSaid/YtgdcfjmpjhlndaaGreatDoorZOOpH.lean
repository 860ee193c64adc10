/-
  lodgeref3.Result of any operation, walked. By an AI agent. No person has read it.
-/
import Derived.Test.YtgdcfjmpjhlndaaGreatDoorZOOpG
import Derived.Test.YtgdcfjmpjhlndaaGreatDoorZORefR
import Derived.Test.YtgdcfjmpjhlndaaGreatDoorZOElmY
namespace Go.Proofs.YtgdcfjmpjhlndaaGreatDoor
open Go.RowKit
def OpR (w : World) (L : Nat × List Int × Bool) (e : Ending) (w' : World) : Prop :=
 (∃ d : Dsc, e = .returned (.tuple #[.agg (dcells d.P d.zs.length d.cap d.u), .int .i64 (L.1 : Nat)]) ∧ d.In w' ∧ d.zs = L.2.1 ∧ d.u = L.2.2) ∧ Below w.heap.size w w'
theorem RefE.opr {w W : World} {zs : List Int} {u : Bool} {k : Nat} {e : Ending} (h : RefE w zs u k e W) : OpR w (k, zs, u) e W := by
 obtain ⟨⟨d, h1, h2, -, h4, h5⟩, hb⟩ := h
 exact ⟨⟨d, h1, h2, h4, h5⟩, hb⟩
theorem OpR.bad {w W : World} {k : Nat} {e : Ending} (he : e = .returned (.tuple #[.agg (dcells none 0 0 false), .int .i64 (k : Nat)])) (hb : Below w.heap.size w W) : OpR w (k, [], false) e W :=
 ⟨⟨⟨none, [], 0, false⟩, he, ⟨Ri.nil _ _, by simp⟩, rfl, rfl⟩, hb⟩
set_option maxRecDepth 100000 in
theorem rknown_c (op : Int) (w : World) : Calls Tryz.prog 25 #[.int .i64 op] w fun e w' => e = .returned (.bool (decide (Op.known op))) ∧ w' = w := by
 by_cases h1 : 4 ≤ op
 ·by_cases h2 : op ≤ 21
  ·rw [decide_eq_true (show Op.known op from ⟨h1, h2⟩)]
   go_enter Tryz.func25, Tryz.ntmps25
   go_wp2_with fail
   go_ret
   exact ⟨rfl, rfl⟩
  ·rw [decide_eq_false (show ¬ Op.known op from fun h => h2 h.2)]
   have h3 : decide (op ≤ 21) = false := decide_eq_false h2
   have h4 : (21 : Int) < op := by omega
   go_enter Tryz.func25, Tryz.ntmps25
   go_wp2_with fail
   go_ret
   exact ⟨rfl, rfl⟩
 ·rw [decide_eq_false (show ¬ Op.known op from fun h => h1 h.1)]
  have h3 : decide ((4 : Int) ≤ op) = false := decide_eq_false h1
  have h4 : op < (4 : Int) := by omega
  go_enter Tryz.func25, Tryz.ntmps25
  go_wp2_with fail
  go_ret
  exact ⟨rfl, rfl⟩
theorem rins_c (op : Int) (h1 : 12 ≤ op) (h2 : op ≤ 21) (w : World) : Calls Tryz.prog 28 #[.int .i64 op] w fun e w' => e = .returned (.int .i64 (Op.ins op : Nat)) ∧ w' = w := by
 have : op = 12 ∨ op = 13 ∨ op = 14 ∨ op = 15 ∨ op = 16 ∨ op = 17 ∨ op = 18 ∨ op = 19 ∨ op = 20 ∨ op = 21 := by omega
 rcases this with rfl | rfl | rfl | rfl | rfl | rfl | rfl | rfl | rfl | rfl
 ·exact rins12 w
 ·exact rins13 w
 ·exact rins14 w
 ·exact rins15 w
 ·exact rins16 w
 ·exact rins17 w
 ·exact rins18 w
 ·exact rins19 w
 ·exact rins20 w
 ·exact rins21 w
theorem rargs_c (op : Int) (h1 : 12 ≤ op) (h2 : op ≤ 21) (w : World) : Calls Tryz.prog 30 #[.int .i64 op] w fun e w' => e = .returned (.int .i64 (Op.args op : Nat)) ∧ w' = w := by
 have : op = 12 ∨ op = 13 ∨ op = 14 ∨ op = 15 ∨ op = 16 ∨ op = 17 ∨ op = 18 ∨ op = 19 ∨ op = 20 ∨ op = 21 := by omega
 rcases this with rfl | rfl | rfl | rfl | rfl | rfl | rfl | rfl | rfl | rfl
 ·exact rargs12 w
 ·exact rargs13 w
 ·exact rargs14 w
 ·exact rargs15 w
 ·exact rargs16 w
 ·exact rargs17 w
 ·exact rargs18 w
 ·exact rargs19 w
 ·exact rargs20 w
 ·exact rargs21 w
set_option maxRecDepth 100000 in
set_option maxHeartbeats 4000000 in
theorem rres_unknown (op : Int) (qs : List Int) (ds : List Dsc) (A B : Option Addr) (qcap cap : Nat) (w : World) (hk : ¬ Op.known op) :
  Calls Tryz.prog 38 #[.int .i64 op, .slice A qs.length qcap, .slice B ds.length cap] w (OpR w (103, [], false)) := by
 obtain ⟨W0, hW0⟩ : ∃ W, W = w.alloc (.cells #[.slice none 0 0, .bool false] 24) := ⟨_, rfl⟩
 have HZ : Hid (Has W0 w.heap.size 24 [.slice none 0 0, .bool false]) := hide (by rw [hW0]; exact Has.new _ _ _)
 have HB0 : Hid (Below w.heap.size w W0) := hide (by rw [hW0]; exact (Below.refl _ _).alloc (Nat.le_refl _) _)
 have HW := hide hW0
 have HKn := hide (fun W => rknown_c op W)
 rw [decide_eq_false hk] at HKn
 clear hk hW0
 go_enter Tryz.func38, Tryz.ntmps38
 go_wp2_with fail
 rw [← HW.out]
 clear HW
 refine (HKn.out _).mono ?_
 rintro e wq ⟨rfl, hw⟩
 have hw := hw.symm
 subst hw
 obtain ⟨z0, z1, zf0, zf1, HZf, HFf⟩ := elm_two HZ.out HB0.out (Nat.le_refl _) (.slice none 0 0) (.bool false)
 go_wp2_with fail
 refine bodyPost_ret (results_desc rfl _ _ w.heap.size _ _ rfl HZf.out) rfl ?_
 exact OpR.bad rfl HFf.out
set_option maxRecDepth 100000 in
set_option maxHeartbeats 4000000 in
theorem rres_lens (op : Int) (qs : List Int) (ds : List Dsc) (A B : Option Addr) (qcap cap : Nat) (w : World) (hk : 12 ≤ op ∧ op ≤ 21) (hf : ¬ Op.fits op qs ds) :
  Calls Tryz.prog 38 #[.int .i64 op, .slice A qs.length qcap, .slice B ds.length cap] w (OpR w (101, [], false)) := by
 obtain ⟨W0, hW0⟩ : ∃ W, W = w.alloc (.cells #[.slice none 0 0, .bool false] 24) := ⟨_, rfl⟩
 have HZ : Hid (Has W0 w.heap.size 24 [.slice none 0 0, .bool false]) := hide (by rw [hW0]; exact Has.new _ _ _)
 have HB0 : Hid (Below w.heap.size w W0) := hide (by rw [hW0]; exact (Below.refl _ _).alloc (Nat.le_refl _) _)
 have HW := hide hW0
 have HKn := hide (fun W => rknown_c op W)
 have HIn := hide (fun W => rins_c op hk.1 hk.2 W)
 have HAr := hide (fun W => rargs_c op hk.1 hk.2 W)
 rw [decide_eq_true (show Op.known op from ⟨by omega, hk.2⟩)] at HKn
 obtain ⟨n, hn⟩ : ∃ n, Hid (ds.length = n) := ⟨_, hide rfl⟩
 obtain ⟨m, hm⟩ : ∃ n, Hid (qs.length = n) := ⟨_, hide rfl⟩
 obtain ⟨i, hi⟩ : ∃ n, Hid (Op.ins op = n) := ⟨_, hide rfl⟩
 obtain ⟨j, hj⟩ : ∃ n, Hid (Op.args op = n) := ⟨_, hide rfl⟩
 unfold Op.fits at hf
 rw [hn.out, hm.out, hi.out, hj.out] at hf
 rw [hi.out] at HIn
 rw [hj.out] at HAr
 rw [hn.out, hm.out]
 have hle : ¬ op ≤ 11 := by omega
 have hle2 : decide (op ≤ 11) = false := decide_eq_false hle
 have hle3 : (11 : Int) < op := by omega
 by_cases h1 : n = i
 case neg =>
  have hb1 : ((n : Int) != (i : Int)) = true := by simp; omega
  clear hk hW0 hn hm hi hj hf h1 hle
  go_enter Tryz.func38, Tryz.ntmps38
  go_wp2_with fail
  rw [← HW.out]
  clear HW
  refine (HKn.out _).mono ?_
  rintro e wq ⟨rfl, hw⟩
  have hw := hw.symm
  subst hw
  go_wp2_with fail
  refine (HIn.out _).mono ?_
  rintro e wq ⟨rfl, hw⟩
  have hw := hw.symm
  subst hw
  obtain ⟨z0, z1, zf0, zf1, HZf, HFf⟩ := elm_two HZ.out HB0.out (Nat.le_refl _) (.slice none 0 0) (.bool false)
  go_wp2_with fail
  refine bodyPost_ret (results_desc rfl _ _ w.heap.size _ _ rfl HZf.out) rfl ?_
  exact OpR.bad rfl HFf.out
 case pos =>
  have h3 : ¬ (op ≠ 18 → m = j) := fun h => hf ⟨h1, h⟩
  have h18 : op ≠ 18 := fun h => h3 (fun h2 => absurd h h2)
  have hmj : m ≠ j := fun h => h3 (fun _ => h)
  have hb1 : ((n : Int) != (i : Int)) = false := by simp; omega
  have hb2 : ((m : Int) != (j : Int)) = true := by simp; omega
  have hb3 : (op != 18) = true := by simp; exact h18
  clear hk hW0 hn hm hi hj hf h1 h3 h18 hmj hle
  go_enter Tryz.func38, Tryz.ntmps38
  go_wp2_with fail
  rw [← HW.out]
  clear HW
  refine (HKn.out _).mono ?_
  rintro e wq ⟨rfl, hw⟩
  have hw := hw.symm
  subst hw
  go_wp2_with fail
  refine (HIn.out _).mono ?_
  rintro e wq ⟨rfl, hw⟩
  have hw := hw.symm
  subst hw
  go_wp2_with fail
  refine (HAr.out _).mono ?_
  rintro e wq ⟨rfl, hw⟩
  have hw := hw.symm
  subst hw
  obtain ⟨z0, z1, zf0, zf1, HZf, HFf⟩ := elm_two HZ.out HB0.out (Nat.le_refl _) (.slice none 0 0) (.bool false)
  go_wp2_with fail
  refine bodyPost_ret (results_desc rfl _ _ w.heap.size _ _ rfl HZf.out) rfl ?_
  exact OpR.bad rfl HFf.out
set_option maxRecDepth 100000 in
set_option maxHeartbeats 4000000 in
theorem rres_elem (op : Int) (hop : 4 ≤ op ∧ op ≤ 11) (qs : List Int) (ds : List Dsc) (A B : Option Addr) (qcap cap : Nat) (w : World) (hQ : Ri w A qs) (hR : Row w B (ds.flatMap Dsc.vals)) (hI : ∀ d ∈ ds, d.In w) (hl : ds.length ≤ 1000000) :
  Calls Tryz.prog 38 #[.int .i64 op, .slice A qs.length qcap, .slice B ds.length cap] w (OpR w (Elm.code op qs ds, Elm.shape op qs ds, Elm.kind op qs ds)) := by
 obtain ⟨W0, hW0⟩ : ∃ W, W = w.alloc (.cells #[.slice none 0 0, .bool false] 24) := ⟨_, rfl⟩
 have HZ : Hid (Has W0 w.heap.size 24 [.slice none 0 0, .bool false]) := hide (by rw [hW0]; exact Has.new _ _ _)
 have HB0 : Hid (Below w.heap.size w W0) := hide (by rw [hW0]; exact (Below.refl _ _).alloc (Nat.le_refl _) _)
 have HW := hide hW0
 have HKn := hide (fun W => rknown_c op W)
 rw [decide_eq_true (show Op.known op from ⟨hop.1, by omega⟩)] at HKn
 have HV := hide (rresult_c op qs ds A B qcap cap W0 (hQ.below HB0.out) (hR.below HB0.out) (fun d hd => (hI d hd).below HB0.out) hl)
 have HWF := hide (Elm.shape_wf (op := op) (qs := qs) hI)
 have HNO := hide (fun h : Elm.code op qs ds ≠ 0 => Elm.shape_none h)
 obtain ⟨sh, hsh⟩ : ∃ x, Hid (Elm.shape op qs ds = x) := ⟨_, hide rfl⟩
 obtain ⟨kd, hkd⟩ : ∃ x, Hid (Elm.kind op qs ds = x) := ⟨_, hide rfl⟩
 obtain ⟨cd, hcd⟩ : ∃ x, Hid (Elm.code op qs ds = x) := ⟨_, hide rfl⟩
 rw [hsh.out, hkd.out, hcd.out] at HV
 rw [hsh.out] at HWF HNO
 rw [hcd.out] at HNO
 rw [hsh.out, hkd.out, hcd.out]
 obtain ⟨n, hn⟩ : ∃ n, Hid (ds.length = n) := ⟨_, hide rfl⟩
 obtain ⟨m, hm⟩ : ∃ n, Hid (qs.length = n) := ⟨_, hide rfl⟩
 rw [hn.out, hm.out] at HV ⊢
 have hle : op ≤ 11 := hop.2
 clear hW0 hQ hR hI hop hl
 go_enter Tryz.func38, Tryz.ntmps38
 go_wp2_with fail
 rw [← HW.out]
 clear HW
 refine (HKn.out _).mono ?_
 rintro e wq ⟨rfl, hw⟩
 have hw := hw.symm
 subst hw
 go_wp2_with fail
 refine HV.out.mono ?_
 rintro e w5 ⟨⟨Q, c, rfl, hq⟩, hb⟩
 have HZ5 := hide (HZ.out.below hb HZ.out.lt)
 have HB5 := hide (HB0.out.trans (hb.mono HB0.out.size))
 have hdi : (⟨Q, sh, c, kd⟩ : Dsc).In w5 ∧ (cd = 0 → ∀ x, Q = some x → x.block ≠ w.heap.size) ∧ (cd ≠ 0 → sh = []) := by
  refine ⟨⟨?_, HWF.out.2⟩, fun h x hx => ?_, HNO.out⟩
  ·by_cases h : cd = 0
   ·obtain ⟨g, rest, rfl, -, hG⟩ := hq h
    exact hG.ri_app HWF.out.1
   ·rw [show (⟨Q, sh, c, kd⟩ : Dsc).zs = [] from HNO.out h]
    exact Ri.nil _ _
  ·obtain ⟨g, rest, rfl, hg, -⟩ := hq h
   cases hx
   have := HZ.out.lt
   show g ≠ w.heap.size
   omega
 obtain ⟨hin, hne, hno⟩ := hdi
 obtain ⟨z0, z1, zf0, zf1, HZf, HFf⟩ := elm_two HZ5.out HB5.out (Nat.le_refl _) (.slice Q sh.length c) (.bool kd)
 have HDI : Hid ((⟨Q, sh, c, kd⟩ : Dsc).In ((w5.setCell ⟨w.heap.size, 0, none⟩ (.slice Q sh.length c)).setCell ⟨w.heap.size, 1, none⟩ (.bool kd))) := hide (by
  by_cases h : cd = 0
  ·exact (hin.far (hne h) 0 _).far (hne h) 1 _
  ·exact ⟨by rw [show (⟨Q, sh, c, kd⟩ : Dsc).zs = [] from hno h]; exact Ri.nil _ _, HWF.out.2⟩)
 clear hin hne hno hq hb HV HZ HB0
 go_wp2_with fail
 refine bodyPost_ret (results_desc rfl _ _ w.heap.size _ _ rfl HZf.out) rfl ?_
 exact ⟨⟨⟨Q, sh, c, kd⟩, rfl, HDI.out, rfl, rfl⟩, HFf.out⟩
set_option maxRecDepth 100000 in
set_option maxHeartbeats 4000000 in
theorem rres_soft16 (ds : List Dsc) (A B : Option Addr) (qcap cap : Nat) (w : World) (hlen : ds.length = 2) (hR : Row w B (ds.flatMap Dsc.vals)) (hI : ∀ d ∈ ds, d.In w) (hc : ∀ d ∈ ds, d.zs.length ≤ d.cap) :
  Calls Tryz.prog 38 #[.int .i64 16, .slice A 0 qcap, .slice B 2 cap] w (RefE w (Sf.shape 16 ds) (Sf.kind 16 ds) (Sf.code 16 ds)) := by
 obtain ⟨W0, hW0⟩ : ∃ W, W = w.alloc (.cells #[.slice none 0 0, .bool false] 24) := ⟨_, rfl⟩
 have HZ : Hid (Has W0 w.heap.size 24 [.slice none 0 0, .bool false]) := hide (by rw [hW0]; exact Has.new _ _ _)
 have HB0 : Hid (Below w.heap.size w W0) := hide (by rw [hW0]; exact (Below.refl _ _).alloc (Nat.le_refl _) _)
 have HW := hide hW0
 have HV := hide (rsoft_c 16 (by unfold Sf.isOp; decide) ds B cap W0 (hR.below HB0.out) (fun d hd => (hI d hd).below HB0.out) hc)
 have HWZ : Hid (w.heap.size < W0.heap.size) := hide HZ.out.lt
 obtain ⟨k, hk⟩ : ∃ n, Hid (Sf.code 16 ds = n) := ⟨_, hide rfl⟩
 obtain ⟨zs, hzs⟩ : ∃ n, Hid (Sf.shape 16 ds = n) := ⟨_, hide rfl⟩
 obtain ⟨u, hu⟩ : ∃ n, Hid (Sf.kind 16 ds = n) := ⟨_, hide rfl⟩
 rw [hk.out, hzs.out, hu.out] at HV ⊢
 rw [hlen] at HV
 clear hW0 hR hI hc hlen
 go_enter Tryz.func38, Tryz.ntmps38
 go_wp2_with fail
 rw [← HW.out]
 clear HW
 refine (rknown16 _).mono ?_
 rintro e wq ⟨rfl, hw⟩
 have hw := hw.symm
 subst hw
 go_wp2_with fail
 refine (rins16 _).mono ?_
 rintro e wq ⟨rfl, hw⟩
 have hw := hw.symm
 subst hw
 go_wp2_with fail
 refine (rargs16 _).mono ?_
 rintro e wq ⟨rfl, hw⟩
 have hw := hw.symm
 subst hw
 go_wp2_with fail
 refine HV.out.mono ?_
 rintro e W4 ⟨⟨d, rfl, hdi, hdf, hdz, hdu⟩, hb⟩
 have hz4 := HZ.out.below hb HZ.out.lt
 have hB4 := HB0.out.trans (hb.mono HB0.out.size)
 obtain ⟨z0, z1, zf0, zf1, HZf, HFf⟩ := elm_two hz4 hB4 (Nat.le_refl _) (.slice d.P d.zs.length d.cap) (.bool d.u)
 have hdl := hide (hdi.far2 hdf (by exact HWZ.out) (.slice d.P d.zs.length d.cap) (.bool d.u))
 have HDF := hide hdf
 have HDZ := hide hdz
 have HDU := hide hdu
 clear hdi hdf hdz hdu hb hz4 hB4 HV
 go_wp2_with fail
 refine bodyPost_ret (results_desc rfl _ _ w.heap.size _ _ rfl HZf.out) rfl ?_
 exact ⟨⟨d, rfl, hdl.out, fun ad h => Nat.le_trans (Nat.le_of_lt HWZ.out) (HDF.out ad h), HDZ.out, HDU.out⟩, HFf.out⟩
set_option maxRecDepth 100000 in
set_option maxHeartbeats 4000000 in
theorem rres_soft17 (ds : List Dsc) (A B : Option Addr) (qcap cap : Nat) (w : World) (hlen : ds.length = 2) (hR : Row w B (ds.flatMap Dsc.vals)) (hI : ∀ d ∈ ds, d.In w) (hc : ∀ d ∈ ds, d.zs.length ≤ d.cap) :
  Calls Tryz.prog 38 #[.int .i64 17, .slice A 0 qcap, .slice B 2 cap] w (RefE w (Sf.shape 17 ds) (Sf.kind 17 ds) (Sf.code 17 ds)) := by
 obtain ⟨W0, hW0⟩ : ∃ W, W = w.alloc (.cells #[.slice none 0 0, .bool false] 24) := ⟨_, rfl⟩
 have HZ : Hid (Has W0 w.heap.size 24 [.slice none 0 0, .bool false]) := hide (by rw [hW0]; exact Has.new _ _ _)
 have HB0 : Hid (Below w.heap.size w W0) := hide (by rw [hW0]; exact (Below.refl _ _).alloc (Nat.le_refl _) _)
 have HW := hide hW0
 have HV := hide (rsoft_c 17 (by unfold Sf.isOp; decide) ds B cap W0 (hR.below HB0.out) (fun d hd => (hI d hd).below HB0.out) hc)
 have HWZ : Hid (w.heap.size < W0.heap.size) := hide HZ.out.lt
 obtain ⟨k, hk⟩ : ∃ n, Hid (Sf.code 17 ds = n) := ⟨_, hide rfl⟩
 obtain ⟨zs, hzs⟩ : ∃ n, Hid (Sf.shape 17 ds = n) := ⟨_, hide rfl⟩
 obtain ⟨u, hu⟩ : ∃ n, Hid (Sf.kind 17 ds = n) := ⟨_, hide rfl⟩
 rw [hk.out, hzs.out, hu.out] at HV ⊢
 rw [hlen] at HV
 clear hW0 hR hI hc hlen
 go_enter Tryz.func38, Tryz.ntmps38
 go_wp2_with fail
 rw [← HW.out]
 clear HW
 refine (rknown17 _).mono ?_
 rintro e wq ⟨rfl, hw⟩
 have hw := hw.symm
 subst hw
 go_wp2_with fail
 refine (rins17 _).mono ?_
 rintro e wq ⟨rfl, hw⟩
 have hw := hw.symm
 subst hw
 go_wp2_with fail
 refine (rargs17 _).mono ?_
 rintro e wq ⟨rfl, hw⟩
 have hw := hw.symm
 subst hw
 go_wp2_with fail
 refine HV.out.mono ?_
 rintro e W4 ⟨⟨d, rfl, hdi, hdf, hdz, hdu⟩, hb⟩
 have hz4 := HZ.out.below hb HZ.out.lt
 have hB4 := HB0.out.trans (hb.mono HB0.out.size)
 obtain ⟨z0, z1, zf0, zf1, HZf, HFf⟩ := elm_two hz4 hB4 (Nat.le_refl _) (.slice d.P d.zs.length d.cap) (.bool d.u)
 have hdl := hide (hdi.far2 hdf (by exact HWZ.out) (.slice d.P d.zs.length d.cap) (.bool d.u))
 have HDF := hide hdf
 have HDZ := hide hdz
 have HDU := hide hdu
 clear hdi hdf hdz hdu hb hz4 hB4 HV
 go_wp2_with fail
 refine bodyPost_ret (results_desc rfl _ _ w.heap.size _ _ rfl HZf.out) rfl ?_
 exact ⟨⟨d, rfl, hdl.out, fun ad h => Nat.le_trans (Nat.le_of_lt HWZ.out) (HDF.out ad h), HDZ.out, HDU.out⟩, HFf.out⟩
set_option maxRecDepth 100000 in
set_option maxHeartbeats 4000000 in
theorem rres_soft19 (ds : List Dsc) (A B : Option Addr) (qcap cap : Nat) (w : World) (hlen : ds.length = 1) (hR : Row w B (ds.flatMap Dsc.vals)) (hI : ∀ d ∈ ds, d.In w) (hc : ∀ d ∈ ds, d.zs.length ≤ d.cap) :
  Calls Tryz.prog 38 #[.int .i64 19, .slice A 0 qcap, .slice B 1 cap] w (RefE w (Sf.shape 19 ds) (Sf.kind 19 ds) (Sf.code 19 ds)) := by
 obtain ⟨W0, hW0⟩ : ∃ W, W = w.alloc (.cells #[.slice none 0 0, .bool false] 24) := ⟨_, rfl⟩
 have HZ : Hid (Has W0 w.heap.size 24 [.slice none 0 0, .bool false]) := hide (by rw [hW0]; exact Has.new _ _ _)
 have HB0 : Hid (Below w.heap.size w W0) := hide (by rw [hW0]; exact (Below.refl _ _).alloc (Nat.le_refl _) _)
 have HW := hide hW0
 have HV := hide (rsoft_c 19 (by unfold Sf.isOp; decide) ds B cap W0 (hR.below HB0.out) (fun d hd => (hI d hd).below HB0.out) hc)
 have HWZ : Hid (w.heap.size < W0.heap.size) := hide HZ.out.lt
 obtain ⟨k, hk⟩ : ∃ n, Hid (Sf.code 19 ds = n) := ⟨_, hide rfl⟩
 obtain ⟨zs, hzs⟩ : ∃ n, Hid (Sf.shape 19 ds = n) := ⟨_, hide rfl⟩
 obtain ⟨u, hu⟩ : ∃ n, Hid (Sf.kind 19 ds = n) := ⟨_, hide rfl⟩
 rw [hk.out, hzs.out, hu.out] at HV ⊢
 rw [hlen] at HV
 clear hW0 hR hI hc hlen
 go_enter Tryz.func38, Tryz.ntmps38
 go_wp2_with fail
 rw [← HW.out]
 clear HW
 refine (rknown19 _).mono ?_
 rintro e wq ⟨rfl, hw⟩
 have hw := hw.symm
 subst hw
 go_wp2_with fail
 refine (rins19 _).mono ?_
 rintro e wq ⟨rfl, hw⟩
 have hw := hw.symm
 subst hw
 go_wp2_with fail
 refine (rargs19 _).mono ?_
 rintro e wq ⟨rfl, hw⟩
 have hw := hw.symm
 subst hw
 go_wp2_with fail
 refine HV.out.mono ?_
 rintro e W4 ⟨⟨d, rfl, hdi, hdf, hdz, hdu⟩, hb⟩
 have hz4 := HZ.out.below hb HZ.out.lt
 have hB4 := HB0.out.trans (hb.mono HB0.out.size)
 obtain ⟨z0, z1, zf0, zf1, HZf, HFf⟩ := elm_two hz4 hB4 (Nat.le_refl _) (.slice d.P d.zs.length d.cap) (.bool d.u)
 have hdl := hide (hdi.far2 hdf (by exact HWZ.out) (.slice d.P d.zs.length d.cap) (.bool d.u))
 have HDF := hide hdf
 have HDZ := hide hdz
 have HDU := hide hdu
 clear hdi hdf hdz hdu hb hz4 hB4 HV
 go_wp2_with fail
 refine bodyPost_ret (results_desc rfl _ _ w.heap.size _ _ rfl HZf.out) rfl ?_
 exact ⟨⟨d, rfl, hdl.out, fun ad h => Nat.le_trans (Nat.le_of_lt HWZ.out) (HDF.out ad h), HDZ.out, HDU.out⟩, HFf.out⟩
set_option maxRecDepth 100000 in
set_option maxHeartbeats 4000000 in
theorem rres_soft20 (ds : List Dsc) (A B : Option Addr) (qcap cap : Nat) (w : World) (hlen : ds.length = 1) (hR : Row w B (ds.flatMap Dsc.vals)) (hI : ∀ d ∈ ds, d.In w) (hc : ∀ d ∈ ds, d.zs.length ≤ d.cap) :
  Calls Tryz.prog 38 #[.int .i64 20, .slice A 0 qcap, .slice B 1 cap] w (RefE w (Sf.shape 20 ds) (Sf.kind 20 ds) (Sf.code 20 ds)) := by
 obtain ⟨W0, hW0⟩ : ∃ W, W = w.alloc (.cells #[.slice none 0 0, .bool false] 24) := ⟨_, rfl⟩
 have HZ : Hid (Has W0 w.heap.size 24 [.slice none 0 0, .bool false]) := hide (by rw [hW0]; exact Has.new _ _ _)
 have HB0 : Hid (Below w.heap.size w W0) := hide (by rw [hW0]; exact (Below.refl _ _).alloc (Nat.le_refl _) _)
 have HW := hide hW0
 have HV := hide (rsoft_c 20 (by unfold Sf.isOp; decide) ds B cap W0 (hR.below HB0.out) (fun d hd => (hI d hd).below HB0.out) hc)
 have HWZ : Hid (w.heap.size < W0.heap.size) := hide HZ.out.lt
 obtain ⟨k, hk⟩ : ∃ n, Hid (Sf.code 20 ds = n) := ⟨_, hide rfl⟩
 obtain ⟨zs, hzs⟩ : ∃ n, Hid (Sf.shape 20 ds = n) := ⟨_, hide rfl⟩
 obtain ⟨u, hu⟩ : ∃ n, Hid (Sf.kind 20 ds = n) := ⟨_, hide rfl⟩
 rw [hk.out, hzs.out, hu.out] at HV ⊢
 rw [hlen] at HV
 clear hW0 hR hI hc hlen
 go_enter Tryz.func38, Tryz.ntmps38
 go_wp2_with fail
 rw [← HW.out]
 clear HW
 refine (rknown20 _).mono ?_
 rintro e wq ⟨rfl, hw⟩
 have hw := hw.symm
 subst hw
 go_wp2_with fail
 refine (rins20 _).mono ?_
 rintro e wq ⟨rfl, hw⟩
 have hw := hw.symm
 subst hw
 go_wp2_with fail
 refine (rargs20 _).mono ?_
 rintro e wq ⟨rfl, hw⟩
 have hw := hw.symm
 subst hw
 go_wp2_with fail
 refine HV.out.mono ?_
 rintro e W4 ⟨⟨d, rfl, hdi, hdf, hdz, hdu⟩, hb⟩
 have hz4 := HZ.out.below hb HZ.out.lt
 have hB4 := HB0.out.trans (hb.mono HB0.out.size)
 obtain ⟨z0, z1, zf0, zf1, HZf, HFf⟩ := elm_two hz4 hB4 (Nat.le_refl _) (.slice d.P d.zs.length d.cap) (.bool d.u)
 have hdl := hide (hdi.far2 hdf (by exact HWZ.out) (.slice d.P d.zs.length d.cap) (.bool d.u))
 have HDF := hide hdf
 have HDZ := hide hdz
 have HDU := hide hdu
 clear hdi hdf hdz hdu hb hz4 hB4 HV
 go_wp2_with fail
 refine bodyPost_ret (results_desc rfl _ _ w.heap.size _ _ rfl HZf.out) rfl ?_
 exact ⟨⟨d, rfl, hdl.out, fun ad h => Nat.le_trans (Nat.le_of_lt HWZ.out) (HDF.out ad h), HDZ.out, HDU.out⟩, HFf.out⟩
structure R18b (w : World) (a : Dsc) (na : Nat) (W : World) : Prop where
 low : Below w.heap.size w W
 res : Has W w.heap.size 24 [.slice none 0 0, .bool false]
 abx : Has W (w.heap.size + 1) 24 [.slice a.P na a.cap, .bool a.u]
structure R18 (w : World) (a : Dsc) (na b g : Nat) (bv xs : List Value) (W : World) : Prop where
 base : R18b w a na W
 box : Has W b 24 bv
 ints : Has W g 3 xs
theorem R18b.below {w W W' : World} {a : Dsc} {na : Nat} (h : R18b w a na W) (hb : Below W.heap.size W W') : R18b w a na W' :=
 ⟨h.low.trans (hb.mono h.low.size), h.res.below hb h.res.lt, h.abx.below hb h.abx.lt⟩
theorem R18.below {w W W' : World} {a : Dsc} {na b g : Nat} {bv xs : List Value} (h : R18 w a na b g bv xs W) (hb : Below W.heap.size W W') : R18 w a na b g bv xs W' :=
 ⟨h.base.below hb, h.box.below hb h.box.lt, h.ints.below hb h.ints.lt⟩
theorem r18_set {w W : World} {a : Dsc} {na b g : Nat} {xs : List Value} {x y : Value} (v1 v2 : Value) (h : R18b w a na W) (hb : Has W b 24 [x, y]) (hl : w.heap.size + 1 < b) (hg : Has W g 3 xs) (hgb : b < g) :
  R18 w a na b g [v1, v2] xs ((W.setCell ⟨b, 0, none⟩ v1).setCell ⟨b, 1, none⟩ v2) :=
 have h1 : w.heap.size ≠ b := by omega
 have h2 : w.heap.size + 1 ≠ b := by omega
 have h3 : g ≠ b := by omega
 ⟨⟨(h.low.setCell (p := ⟨b, 0, none⟩) (by show w.heap.size ≤ b; omega) v1).setCell (p := ⟨b, 1, none⟩) (by show w.heap.size ≤ b; omega) v2,
  (h.res.far (p := ⟨b, 0, none⟩) h1 v1).far (p := ⟨b, 1, none⟩) h1 v2, (h.abx.far (p := ⟨b, 0, none⟩) h2 v1).far (p := ⟨b, 1, none⟩) h2 v2⟩, (hb.set_ 0 v1).set_ 1 v2,
  (hg.far (p := ⟨b, 0, none⟩) h3 v1).far (p := ⟨b, 1, none⟩) h3 v2⟩
theorem r18_new {w W : World} {a : Dsc} {na g : Nat} {xs : List Value} (v1 v2 : Value) (h : R18b w a na W) (hg : Has W g 3 xs) :
  R18 w a na W.heap.size g [v1, v2] xs (W.alloc (Obj.cells #[v1, v2] 24)) :=
 ⟨⟨h.low.alloc h.low.size _, h.res.alloc _, h.abx.alloc _⟩, Has.new W _ _, hg.alloc _⟩
set_option maxRecDepth 100000 in
set_option maxHeartbeats 8000000 in
theorem rres_shape (qs : List Int) (a : Dsc) (A B : Option Addr) (qcap cap : Nat) (w : World) (hQ : Ri w A qs) (hql : qs.length ≤ 1000000) (hR : Row w B ([a].flatMap Dsc.vals)) (ha : a.In w) :
  Calls Tryz.prog 38 #[.int .i64 18, .slice A qs.length qcap, .slice B 1 cap] w (OpR w (Op.rcode qs a, Op.rshape qs a, Op.rkind qs a)) := by
 obtain ⟨W0, hW0⟩ : ∃ W, W = w.alloc (.cells #[.slice none 0 0, .bool false] 24) := ⟨_, rfl⟩
 have hbw : Below w.heap.size w W0 := by rw [hW0]; exact (Below.refl _ _).alloc (Nat.le_refl _) _
 have hz0 : Has W0 w.heap.size 24 [.slice none 0 0, .bool false] := by rw [hW0]; exact Has.new _ _ _
 obtain ⟨W1, hW1⟩ : ∃ W, W = W0.alloc (.cells #[.slice a.P a.zs.length a.cap, .bool a.u] 24) := ⟨_, rfl⟩
 have hs0 : W0.heap.size = w.heap.size + 1 := by rw [hW0]; simp
 have hb1 : Below W0.heap.size W0 W1 := by rw [hW1]; exact (Below.refl _ _).alloc (Nat.le_refl _) _
 have HR1 : Hid (R18b w a a.zs.length W1) := hide ⟨hbw.trans (hb1.mono hbw.size), by rw [hW1]; exact hz0.alloc _, by rw [hW1, ← hs0]; exact Has.new _ _ _⟩
 obtain ⟨pr, hpr, hprl, r0', r1'⟩ := row_dsc1 hR
 subst hpr
 have r0 : W0.cell? pr = some (.slice a.P a.zs.length a.cap) := (hbw.cell hprl).trans r0'
 have r1 : W0.cell? ⟨pr.block, pr.off + 1, none⟩ = some (.bool a.u) := (hbw.cell (p := ⟨pr.block, pr.off + 1, none⟩) hprl).trans r1'
 have HV := hide (refvalid_c a.zs a.P a.cap a.u W1 (ha.shp.below HR1.out.low) (by have := ha.ls; omega))
 have HEd := hide (fun W (h : Below w.heap.size w W) => refelems_c a.zs a.P a.cap W (ha.shp.below h) (by have := ha.ls; omega))
 have HIn := hide (fun W (h : Below w.heap.size w W) => refints_c qs A qcap W (hQ.below h) hql)
 have HWF : Hid (∀ z ∈ qs, (Lit.int .i64 z).wf = true) := hide hQ.1
 have HEq := hide (fun W g c rest (h : Has W g 3 (i64s qs ++ rest)) => refelems_c qs (some ⟨g, 0, none⟩) c W (h.ri_app HWF.out) (by omega))
 have HVq := hide (fun W g c rest (h : Has W g 3 (i64s qs ++ rest)) => refvalid_c qs (some ⟨g, 0, none⟩) c a.u W (h.ri_app HWF.out) (by omega))
 have HBAD : Hid (Op.rcode qs a ≠ 0 → Op.rshape qs a = [] ∧ Op.rkind qs a = false) := hide Op.rbad
 have HGOOD : Hid (Op.rcode qs a = 0 → Op.rshape qs a = qs ∧ Op.rkind qs a = a.u) := hide (fun h => by unfold Op.rshape Op.rkind; rw [if_pos h, if_pos h]; exact ⟨rfl, rfl⟩)
 obtain ⟨kd, hk⟩ : ∃ k, Hid (Shp.code a.zs = k) := ⟨_, hide rfl⟩
 obtain ⟨kq, hk2⟩ : ∃ k, Hid (Shp.code qs = k) := ⟨_, hide rfl⟩
 obtain ⟨ed, hed⟩ : ∃ k, Hid (Shp.elems a.zs = k) := ⟨_, hide rfl⟩
 obtain ⟨eq, heq⟩ : ∃ k, Hid (Shp.elems qs = k) := ⟨_, hide rfl⟩
 rw [hk.out] at HV
 rw [hk2.out] at HVq
 rw [hed.out] at HEd
 rw [heq.out] at HEq
 have HC1 : Hid (kd ≠ 0 → Op.rcode qs a = kd) := hide (fun h => by unfold Op.rcode; rw [if_pos (by rw [hk.out]; exact h), hk.out])
 have HC2 : Hid (kd = 0 → kq ≠ 0 → Op.rcode qs a = kq) := hide (fun h h2 => by unfold Op.rcode; rw [if_neg (by rw [hk.out, h]; decide), if_pos (by rw [hk2.out]; exact h2), hk2.out])
 have HC3 : Hid (kd = 0 → kq = 0 → eq ≠ ed → Op.rcode qs a = 101) := hide (fun h h2 h3 => by unfold Op.rcode; rw [if_neg (by rw [hk.out, h]; decide), if_neg (by rw [hk2.out, h2]; decide), if_pos (by rw [heq.out, hed.out]; exact h3)])
 have HC0 : Hid (kd = 0 → kq = 0 → eq = ed → Op.rcode qs a = 0) := hide (fun h h2 h3 => by unfold Op.rcode; rw [if_neg (by rw [hk.out, h]; decide), if_neg (by rw [hk2.out, h2]; decide), if_neg (by rw [heq.out, hed.out, h3]; simp)])
 obtain ⟨n, hn⟩ : ∃ n, Hid (qs.length = n) := ⟨_, hide rfl⟩
 obtain ⟨na, hna⟩ : ∃ n, Hid (a.zs.length = n) := ⟨_, hide rfl⟩
 obtain ⟨KC, hKC⟩ : ∃ n, Hid (Op.rcode qs a = n) := ⟨_, hide rfl⟩
 obtain ⟨SH, hSH⟩ : ∃ n, Hid (Op.rshape qs a = n) := ⟨_, hide rfl⟩
 obtain ⟨KD, hKD⟩ : ∃ n, Hid (Op.rkind qs a = n) := ⟨_, hide rfl⟩
 rw [hKC.out] at HC0 HC1 HC2 HC3
 rw [hKC.out, hSH.out, hKD.out] at HBAD HGOOD
 rw [hKC.out, hSH.out, hKD.out]
 have HLN := hide (hn.out ▸ hql)
 have HW := hide hW0
 have HW1 := hide hW1
 have HS0 := hide hs0
 rw [hna.out] at HV HR1 HW1 r0 HEd
 rw [hn.out] at HIn HEq HVq ⊢
 clear hR ha hW0 hW1 hbw hb1 hz0 hs0 r0' r1' hprl hQ hql
 go_enter Tryz.func38, Tryz.ntmps38
 go_wp2_with fail
 rw [← HW.out]
 clear HW
 refine (rknown18 _).mono ?_
 rintro e wq ⟨rfl, hw⟩
 have hw := hw.symm
 subst hw
 go_wp2_with fail
 have hs := HS0.out
 refine (rins18 _).mono ?_
 rintro e wq ⟨rfl, hw⟩
 have hw := hw.symm
 subst hw
 go_wp2_with fail
 rw [← HW1.out]
 clear HW1 r0 r1
 refine HV.out.mono ?_
 rintro e w1 ⟨rfl, hb⟩
 replace HR1 := hide (HR1.out.below hb)
 clear hb HV
 by_cases h0 : kd = 0
 case neg =>
  have hcd := HC1.out h0
  obtain ⟨e1, e2⟩ := HBAD.out (by rw [hcd]; exact h0)
  have HD1 := hide e1
  have HD2 := hide e2
  have HCD := hide hcd
  have h1 : ((kd : Int) == 0) = false := by simp; omega
  have h2 : ((kd : Int) != 0) = true := by simp; omega
  clear e1 e2 hcd h0
  obtain ⟨z0, z1, zf0, zf1, HZf, HFf⟩ := elm_two HR1.out.res HR1.out.low (Nat.le_refl _) (.slice none 0 0) (.bool false)
  go_wp2_with fail
  refine bodyPost_ret (results_desc rfl _ _ w.heap.size _ _ rfl HZf.out) rfl ?_
  rw [HD1.out, HD2.out, HCD.out]
  exact OpR.bad rfl HFf.out
 case pos =>
 subst h0
 have HA1 : Hid (R18b w a na (w1.alloc (Obj.cells #[.slice none 0 0, .bool false] 24)).drew) := hide (HR1.out.below ((Below.refl w1.heap.size w1).alloc (Nat.le_refl _) (Obj.cells #[.slice none 0 0, .bool false] 24)).drew)
 have HA0 : Hid (R18b w a na w1.drew) := hide (HR1.out.below (Below.refl w1.heap.size w1).drew)
 have HAb : Hid (Has ((w1.alloc (Obj.cells #[.slice none 0 0, .bool false] 24)).drew) w1.heap.size 24 [.slice none 0 0, .bool false]) := hide ((Has.new w1 24 [.slice none 0 0, .bool false]).drewN 1)
 have hlw : Hid (w.heap.size + 1 < w1.heap.size) := hide HR1.out.abx.lt
 have c1 : w1.cell? ⟨w.heap.size + 1, 1, none⟩ = some (.bool a.u) := HR1.out.abx.cell 1
 have a1 : (w1.alloc (Obj.cells #[.slice none 0 0, .bool false] 24)).cell? ⟨w.heap.size + 1, 1, none⟩ = some (.bool a.u) := (HR1.out.abx.alloc _).cell 1
 go_wp2_with fail
 go_region_law (first
  | (go_simp; go_at_call 70; refine (HIn.out _ HA1.out.low).mono ?_; rintro e w5 ⟨⟨g, c, rest, rfl, hgg, hnc, hcm, hg⟩, hb⟩; have hbx := HAb.out.below hb HAb.out.lt; have k0 : w5.cell? ⟨w1.heap.size, 0, none⟩ = some (.slice none 0 0) := hbx.cell 0; have k1 : w5.cell? ⟨w1.heap.size, 1, none⟩ = some (.bool false) := hbx.cell 1; have f0 := hbx.frozen 0; have f1 := hbx.frozen 1; have hr5 := HA1.out.below hb; have j0 : w5.cell? ⟨w.heap.size + 1, 0, none⟩ = some (.slice a.P na a.cap) := hr5.abx.cell 0; have j1 : w5.cell? ⟨w.heap.size + 1, 1, none⟩ = some (.bool a.u) := hr5.abx.cell 1; have HF := hide (r18_set (.slice (some ⟨g, 0, none⟩) n c) (.bool a.u) hr5 hbx hlw.out hg (by simp at hgg; omega)); obtain ⟨F, hFe⟩ : ∃ F, Hid ((w5.setCell ⟨w1.heap.size, 0, none⟩ (.slice (some ⟨g, 0, none⟩) n c)).setCell ⟨w1.heap.size, 1, none⟩ (.bool a.u) = F) := ⟨_, hide rfl⟩; rw [hFe.out] at HF; obtain ⟨bx, hbx2⟩ : ∃ b, Hid (w1.heap.size = b) := ⟨_, hide rfl⟩; rw [hbx2.out] at HF; have b0 : F.cell? ⟨w1.heap.size, 0, none⟩ = some (.slice (some ⟨g, 0, none⟩) n c) := (by rw [hbx2.out]; exact HF.out.box.cell 0); have b1 : F.cell? ⟨w1.heap.size, 1, none⟩ = some (.bool a.u) := (by rw [hbx2.out]; exact HF.out.box.cell 1); clear hr5 hb hg hbx)
  | (go_simp; go_at_call 70; refine (HIn.out _ HA0.out.low).mono ?_; rintro e w5 ⟨⟨g, c, rest, rfl, hgg, hnc, hcm, hg⟩, hb⟩; have hr5 := HA0.out.below hb; have j0 : w5.cell? ⟨w.heap.size + 1, 0, none⟩ = some (.slice a.P na a.cap) := hr5.abx.cell 0; have j1 : w5.cell? ⟨w.heap.size + 1, 1, none⟩ = some (.bool a.u) := hr5.abx.cell 1; have j2 : (w5.alloc (Obj.cells #[.slice none 0 0, .bool false] 24)).cell? ⟨w.heap.size + 1, 1, none⟩ = some (.bool a.u) := (hr5.abx.alloc _).cell 1; have HF := hide (r18_new (.slice (some ⟨g, 0, none⟩) n c) (.bool a.u) hr5 hg); obtain ⟨F, hFe⟩ : ∃ F, Hid (w5.alloc (Obj.cells #[.slice (some ⟨g, 0, none⟩) n c, .bool a.u] 24) = F) := ⟨_, hide rfl⟩; rw [hFe.out] at HF; obtain ⟨bx, hbx2⟩ : ∃ b, Hid (w5.heap.size = b) := ⟨_, hide rfl⟩; rw [hbx2.out] at HF; have b0 : F.cell? ⟨w5.heap.size, 0, none⟩ = some (.slice (some ⟨g, 0, none⟩) n c) := (by rw [hbx2.out]; exact HF.out.box.cell 0); have b1 : F.cell? ⟨w5.heap.size, 1, none⟩ = some (.bool a.u) := (by rw [hbx2.out]; exact HF.out.box.cell 1); clear hr5 hb hg))
 all_goals
  have hFe' := hFe.out
  rw [hFe', hbx2.out]
  rw [hbx2.out] at b0 b1
  clear hFe hFe'
  go_wp2_with fail
  refine (HVq.out _ _ c rest HF.out.ints).mono ?_
  rintro e w6 ⟨rfl, hb⟩
  replace HF := hide (HF.out.below hb)
  clear hb b0 b1
  by_cases h0 : kq = 0
  case neg =>
   have hcd := HC2.out (by simp) h0
   obtain ⟨e1, e2⟩ := HBAD.out (by rw [hcd]; exact h0)
   have HD1 := hide e1
   have HD2 := hide e2
   have HCD := hide hcd
   have h1 : ((kq : Int) == 0) = false := by simp; omega
   have h2 : ((kq : Int) != 0) = true := by simp; omega
   clear e1 e2 hcd h0
   obtain ⟨z0, z1, zf0, zf1, HZf, HFf⟩ := elm_two HF.out.base.res HF.out.base.low (Nat.le_refl _) (.slice none 0 0) (.bool false)
   go_wp2_with fail
   refine bodyPost_ret (results_desc rfl _ _ w.heap.size _ _ rfl HZf.out) rfl ?_
   rw [HD1.out, HD2.out, HCD.out]
   exact OpR.bad rfl HFf.out
  case pos =>
  subst h0
  have hS0 : w6.drew.cell? ⟨bx, 0, none⟩ = some (.slice (some ⟨g, 0, none⟩) n c) ∧ w6.drew.cell? ⟨w.heap.size + 1, 0, none⟩ = some (.slice a.P na a.cap) := ⟨HF.out.box.cell 0, HF.out.base.abx.cell 0⟩
  replace HF := hide (HF.out.below (Below.refl w6.heap.size w6).drew)
  go_wp2_with fail
  go_region_held3 (fun W => W.cell? ⟨bx, 0, none⟩ = some (.slice (some ⟨g, 0, none⟩) n c) ∧ W.cell? ⟨w.heap.size + 1, 0, none⟩ = some (.slice a.P na a.cap))
   (first | with_reducible exact hS0 | with_reducible exact hS1 | with_reducible exact hS2 | with_reducible assumption)
   (first | (go_at_call 54; (with_reducible refine (HEq.out _ _ c rest HF.out.ints).mono ?_); rintro e w7 ⟨rfl, hb⟩; have HF7 := hide (HF.out.below hb); have hS1 : w7.cell? ⟨bx, 0, none⟩ = some (.slice (some ⟨g, 0, none⟩) n c) ∧ w7.cell? ⟨w.heap.size + 1, 0, none⟩ = some (.slice a.P na a.cap) := ⟨HF7.out.box.cell 0, HF7.out.base.abx.cell 0⟩; clear hb) | (go_at_call 54; (with_reducible refine (HEd.out _ HF7.out.base.low).mono ?_); rintro e w8 ⟨rfl, hb⟩; have HF8 := hide (HF7.out.below hb); have hS2 : w8.cell? ⟨bx, 0, none⟩ = some (.slice (some ⟨g, 0, none⟩) n c) ∧ w8.cell? ⟨w.heap.size + 1, 0, none⟩ = some (.slice a.P na a.cap) := ⟨HF8.out.box.cell 0, HF8.out.base.abx.cell 0⟩; clear hb))
  by_cases h3 : eq = ed
  case neg =>
   have hcd := HC3.out (by simp) (by simp) h3
   obtain ⟨e1, e2⟩ := HBAD.out (by rw [hcd]; decide)
   have HD1 := hide e1
   have HD2 := hide e2
   have HCD := hide hcd
   have h1 : (eq == ed) = false := by simp; exact h3
   have h2 : (eq != ed) = true := by simp; exact h3
   clear e1 e2 hcd h3
   obtain ⟨z0, z1, zf0, zf1, HZf, HFf⟩ := elm_two HF8.out.base.res HF8.out.base.low (Nat.le_refl _) (.slice none 0 0) (.bool false)
   go_wp2_with fail
   refine bodyPost_ret (results_desc rfl _ _ w.heap.size _ _ rfl HZf.out) rfl ?_
   rw [HD1.out, HD2.out, HCD.out]
   exact OpR.bad rfl HFf.out
  case pos =>
  subst h3
  have hcd := HC0.out (by simp) (by simp) (by simp)
  obtain ⟨e1, e2⟩ := HGOOD.out hcd
  have HD1 := hide e1
  have HD2 := hide e2
  have HCD := hide hcd
  have h1 : (eq == eq) = true := by simp
  have h2 : (eq != eq) = false := by simp
  clear e1 e2 hcd
  have b0 : w8.cell? ⟨bx, 0, none⟩ = some (.slice (some ⟨g, 0, none⟩) n c) := hS2.1
  have b1 : w8.cell? ⟨bx, 1, none⟩ = some (.bool a.u) := HF8.out.box.cell 1
  have hgl : Hid (w.heap.size < g) := hide (by have h5 := hlw.out; simp at hgg; omega)
  obtain ⟨z0, z1, zf0, zf1, HZf, HFf⟩ := elm_two HF8.out.base.res HF8.out.base.low (Nat.le_refl _) (.slice (some ⟨g, 0, none⟩) n c) (.bool a.u)
  have HG := hide ((HF8.out.ints.far (p := ⟨w.heap.size, 0, none⟩) (Nat.ne_of_gt hgl.out) (.slice (some ⟨g, 0, none⟩) n c)).far (p := ⟨w.heap.size, 1, none⟩) (Nat.ne_of_gt hgl.out) (.bool a.u))
  clear hS0 hS1 hS2
  go_wp2_with fail
  refine bodyPost_ret (results_desc rfl _ _ w.heap.size _ _ rfl HZf.out) rfl ?_
  rw [HD1.out, HD2.out, HCD.out]
  exact ⟨⟨⟨some ⟨g, 0, none⟩, qs, c, a.u⟩, by rw [hn.out]; rfl, ⟨HG.out.ri_app HWF.out, by rw [hn.out]; exact HLN.out⟩, rfl, rfl⟩, HFf.out⟩
theorem Elm.look_low (op : Int) (hop : 4 ≤ op ∧ op ≤ 11) (qs : List Int) (ds : List Dsc) : Op.look op qs ds = (Elm.code op qs ds, Elm.shape op qs ds, Elm.kind op qs ds) := by
 unfold Op.look
 rw [if_neg (fun h => h ⟨hop.1, by omega⟩)]
 by_cases hf : Op.fits op qs ds
 ·rw [if_neg (fun h => h hf)]
  exact if_pos hop.2
 ·rw [if_pos hf]
  obtain ⟨e1, e2⟩ := Op.elem_lens op hop
  have hk : Elm.known op = true := by unfold Elm.known; simp; omega
  have hc : Elm.code op qs ds = 101 := by
   unfold Elm.code
   rw [if_neg (by rw [hk]; simp), if_pos]
   unfold Op.fits at hf
   rw [e1, e2] at hf
   by_cases h1 : ds.length = Elm.nins op
   ·exact .inr (fun h => hf ⟨h1, fun _ => h⟩)
   ·exact .inl h1
  obtain ⟨b1, b2⟩ := Elm.bad_shape (op := op) (qs := qs) (ds := ds) (by rw [hc]; decide)
  rw [hc, b1, b2]
theorem Op.turn_code (d : Dsc) : Op.tcode d = Mat.tcode d ∧ Op.tshape d = Rf.tzs d ∧ Op.tkind d = Rf.tu d := by
 have h : Op.tcode d = Mat.tcode d := by unfold Op.tcode Mat.tcode; rfl
 refine ⟨h, ?_, ?_⟩
 ·unfold Op.tshape Rf.tzs
  rw [h]
 ·unfold Op.tkind Rf.tu
  rw [h]
theorem rres_c (op : Int) (qs : List Int) (ds : List Dsc) (A B : Option Addr) (qcap cap : Nat) (w : World) (hQ : Ri w A qs) (hql : qs.length ≤ 1000000) (hR : Row w B (ds.flatMap Dsc.vals)) (hI : ∀ d ∈ ds, d.In w) (hl : ds.length ≤ 1000000) (hc : ∀ d ∈ ds, d.zs.length ≤ d.cap) :
  Calls Tryz.prog 38 #[.int .i64 op, .slice A qs.length qcap, .slice B ds.length cap] w (OpR w (Op.look op qs ds)) := by
 by_cases hk : Op.known op
 case neg =>
  have e : Op.look op qs ds = (103, [], false) := if_pos hk
  rw [e]
  exact rres_unknown op qs ds A B qcap cap w hk
 case pos =>
 by_cases h11 : op ≤ 11
 ·rw [Elm.look_low op ⟨hk.1, h11⟩]
  exact rres_elem op ⟨hk.1, h11⟩ qs ds A B qcap cap w hQ hR hI hl
 by_cases hf : Op.fits op qs ds
 case neg =>
  have e : Op.look op qs ds = (101, [], false) := by unfold Op.look; rw [if_neg (fun h => h hk), if_pos hf]
  rw [e]
  exact rres_lens op qs ds A B qcap cap w ⟨by omega, hk.2⟩ hf
 case pos =>
 have e : Op.look op qs ds = Op.look2 op qs ds := by unfold Op.look; rw [if_neg (fun h => h hk), if_neg (fun h => h hf)]
 rw [e]
 obtain ⟨h1, h2⟩ := hf
 have hk2 := hk.2
 have : op = 12 ∨ op = 13 ∨ op = 14 ∨ op = 15 ∨ op = 16 ∨ op = 17 ∨ op = 18 ∨ op = 19 ∨ op = 20 ∨ op = 21 := by omega
 clear h11 hk hk2 e
 rcases this with rfl | rfl | rfl | rfl | rfl | rfl | rfl | rfl | rfl | rfl
 ·have h1 : ds.length = 2 := h1
  have h2 : qs.length = 2 := h2 (by decide)
  match ds, h1, qs, h2 with
  | [a, b], _, [za, zb], _ => exact (rres_mat za zb a b A B qcap cap w hQ hR (hI a (by simp)) (hI b (by simp))).mono fun _ _ h => h.opr
 ·have h1 : ds.length = 2 := h1
  have h2 : qs.length = 3 := h2 (by decide)
  rw [h2]
  match ds, h1 with
  | [a, b], _ => exact (rres_conv qs a b A B qcap cap w hQ h2 hR (hI a (by simp)) (hI b (by simp))).mono fun _ _ h => h.opr
 ·have h1 : ds.length = 1 := h1
  match ds, h1 with
  | [a], _ => exact (rres_pool14 qs a A B qcap cap w hQ hR (hI a (by simp))).mono fun _ _ h => h.opr
 ·have h1 : ds.length = 1 := h1
  match ds, h1 with
  | [a], _ => exact (rres_pool15 qs a A B qcap cap w hQ hR (hI a (by simp))).mono fun _ _ h => h.opr
 ·have h1 : ds.length = 2 := h1
  have h2 : qs.length = 0 := h2 (by decide)
  rw [h2, h1]
  exact (rres_soft16 ds A B qcap cap w h1 hR hI hc).mono fun _ _ h => h.opr
 ·have h1 : ds.length = 2 := h1
  have h2 : qs.length = 0 := h2 (by decide)
  rw [h2, h1]
  exact (rres_soft17 ds A B qcap cap w h1 hR hI hc).mono fun _ _ h => h.opr
 ·have h1 : ds.length = 1 := h1
  match ds, h1 with
  | [a], _ => exact rres_shape qs a A B qcap cap w hQ hql hR (hI a (by simp))
 ·have h1 : ds.length = 1 := h1
  have h2 : qs.length = 0 := h2 (by decide)
  rw [h2, h1]
  exact (rres_soft19 ds A B qcap cap w h1 hR hI hc).mono fun _ _ h => h.opr
 ·have h1 : ds.length = 1 := h1
  have h2 : qs.length = 0 := h2 (by decide)
  rw [h2, h1]
  exact (rres_soft20 ds A B qcap cap w h1 hR hI hc).mono fun _ _ h => h.opr
 ·have h1 : ds.length = 1 := h1
  have h2 : qs.length = 0 := h2 (by decide)
  rw [h2]
  match ds, h1 with
  | [a], _ =>
   obtain ⟨t1, t2, t3⟩ := Op.turn_code a
   show Calls _ _ _ w (OpR w (Op.tcode a, Op.tshape a, Op.tkind a))
   rw [t1, t2, t3]
   exact (rres_turn a A B qcap cap w hR (hI a (by simp))).mono fun _ _ h => h.opr
end Go.Proofs.YtgdcfjmpjhlndaaGreatDoor
