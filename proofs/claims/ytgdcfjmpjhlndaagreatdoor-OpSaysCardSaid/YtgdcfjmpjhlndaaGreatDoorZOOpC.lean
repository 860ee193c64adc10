/-
  What an operation makes of what looks so; package op's Result, walked. By an AI agent. No person has read it.
-/
import Derived.Test.YtgdcfjmpjhlndaaGreatDoorZOOpB
import Derived.Test.YtgdcfjmpjhlndaaGreatDoorZOElmR
import Derived.Test.YtgdcfjmpjhlndaaGreatDoorZOSftN
import Derived.Test.YtgdcfjmpjhlndaaGreatDoorZOCnvC
namespace Go.Proofs.YtgdcfjmpjhlndaaGreatDoor
open Go.RowKit
def Op.no : Dsc := ⟨none, [], 0, false⟩
def Op.look2 (op : Int) (qs : List Int) (ds : List Dsc) : Nat × List Int × Bool :=
 if op ≤ 11 then (Elm.code op qs ds, Elm.shape op qs ds, Elm.kind op qs ds)
 else if op = 12 then (Mat.code (qs.getD 0 0) (qs.getD 1 0) (ds.getD 0 Op.no) (ds.getD 1 Op.no), Mat.shape (qs.getD 0 0) (qs.getD 1 0) (ds.getD 0 Op.no) (ds.getD 1 Op.no), Mat.kind (qs.getD 0 0) (qs.getD 1 0) (ds.getD 0 Op.no) (ds.getD 1 Op.no))
 else if op = 13 then (Cv.code qs (ds.getD 0 Op.no) (ds.getD 1 Op.no), Cv.shape qs (ds.getD 0 Op.no) (ds.getD 1 Op.no), Cv.kind qs (ds.getD 0 Op.no) (ds.getD 1 Op.no))
 else if op = 14 ∨ op = 15 then (Pl.code qs (ds.getD 0 Op.no), Pl.shape qs (ds.getD 0 Op.no), Pl.kind qs (ds.getD 0 Op.no))
 else if op = 18 then (Op.rcode qs (ds.getD 0 Op.no), Op.rshape qs (ds.getD 0 Op.no), Op.rkind qs (ds.getD 0 Op.no))
 else if op = 21 then (Op.tcode (ds.getD 0 Op.no), Op.tshape (ds.getD 0 Op.no), Op.tkind (ds.getD 0 Op.no))
 else (Sf.code op ds, Sf.shape op ds, Sf.kind op ds)
def Op.fits (op : Int) (qs : List Int) (ds : List Dsc) : Prop := ds.length = Op.ins op ∧ (op ≠ 18 → qs.length = Op.args op)
instance (op : Int) (qs : List Int) (ds : List Dsc) : Decidable (Op.fits op qs ds) := inferInstanceAs (Decidable (_ ∧ _))
def Op.look (op : Int) (qs : List Int) (ds : List Dsc) : Nat × List Int × Bool :=
 if ¬ Op.known op then (103, [], false) else if ¬ Op.fits op qs ds then (101, [], false) else Op.look2 op qs ds
def OpE (w : World) (ah am ar ak : Addr) (L : Nat × List Int × Bool) (e : Ending) (w' : World) : Prop :=
 (∃ d : Dsc, e = .returned (.tuple #[.agg (dcells d.P d.zs.length d.cap d.u), Elm.err ah am ar ak L.1]) ∧ d.In w' ∧ d.zs = L.2.1 ∧ d.u = L.2.2) ∧ Below w.heap.size w w'
theorem Op.err_known {ah am ar ak : Addr} {k : Nat} (h : Cel.known k) : Elm.err ah am ar ak k = Tens.err ah am ar k := by
 unfold Elm.err
 unfold Cel.known at h
 rw [if_neg (by omega)]
theorem OpE.bad {w W : World} {ah am ar ak : Addr} {k : Nat} {x : Value} {e : Ending} (he : e = .returned (.tuple #[.agg (dcells none 0 0 false), x])) (hx : x = Elm.err ah am ar ak k) (hb : Below w.heap.size w W) : OpE w ah am ar ak (k, [], false) e W :=
 ⟨⟨⟨none, [], 0, false⟩, by rw [he, hx]; rfl, ⟨Ri.nil _ _, by simp⟩, rfl, rfl⟩, hb⟩
set_option maxRecDepth 100000 in
set_option maxHeartbeats 4000000 in
theorem opresult_unknown (op : Int) (qs : List Int) (ds : List Dsc) (A B : Option Addr) (qcap cap : Nat) (ah am ar ak : Addr) (w : World) (hk : ¬ Op.known op) (hE : E4 w ah am ar ak) :
  Calls Tryz.prog 84 #[.int .i64 op, .slice A qs.length qcap, .slice B ds.length cap] w (OpE w ah am ar ak (103, [], false)) := by
 obtain ⟨W0, hW0⟩ : ∃ W, W = w.alloc (.cells #[.slice none 0 0, .bool false] 24) := ⟨_, rfl⟩
 have HZ : Hid (Has W0 w.heap.size 24 [.slice none 0 0, .bool false]) := hide (by rw [hW0]; exact Has.new _ _ _)
 have HB0 : Hid (Below w.heap.size w W0) := hide (by rw [hW0]; exact (Below.refl _ _).alloc (Nat.le_refl _) _)
 have HW := hide hW0
 have HKn := hide (fun W => opknown_c op W)
 have HEe := hide hE.2
 rw [decide_eq_false hk] at HKn
 clear hk hE hW0
 go_enter Tryz.func84, Tryz.ntmps84
 go_wp2_with fail
 rw [← HW.out]
 clear HW
 refine (HKn.out _).mono ?_
 rintro e wq ⟨rfl, hw⟩
 have hw := hw.symm
 subst hw
 clear HKn
 obtain ⟨z0, z1, zf0, zf1, HZf, HFf⟩ := elm_twod HZ.out HB0.out (Nat.le_refl _) (.slice none 0 0) (.bool false)
 have hs5 : W0.drew.cell? ⟨0, 0, none⟩ = some (errv ak) := (HEe.out.below HB0.out).1
 have hglt : 0 < w.heap.size := HEe.out.2.1
 have hS9 := hide (HEe.out.below HFf.out).1
 go_wp2_with fail
 go_region_held3 (fun W => W.cell? ⟨0, 0, none⟩ = some (errv ak))
  (first | exact hs5 | assumption | exact hS9.out)
  (first | fail)
 go_wp2_with fail
 refine bodyPost_ret (results_desc rfl _ _ w.heap.size _ _ rfl HZf.out) rfl ?_
 exact OpE.bad rfl rfl HFf.out
set_option maxRecDepth 100000 in
set_option maxHeartbeats 4000000 in
theorem opresult_lens (op : Int) (qs : List Int) (ds : List Dsc) (A B : Option Addr) (qcap cap : Nat) (ah am ar ak : Addr) (w : World) (hk : Op.known op) (hf : ¬ Op.fits op qs ds) (hE : E4 w ah am ar ak) (hK : Kz w) :
  Calls Tryz.prog 84 #[.int .i64 op, .slice A qs.length qcap, .slice B ds.length cap] w (OpE w ah am ar ak (101, [], false)) := by
 obtain ⟨W0, hW0⟩ : ∃ W, W = w.alloc (.cells #[.slice none 0 0, .bool false] 24) := ⟨_, rfl⟩
 have HZ : Hid (Has W0 w.heap.size 24 [.slice none 0 0, .bool false]) := hide (by rw [hW0]; exact Has.new _ _ _)
 have HB0 : Hid (Below w.heap.size w W0) := hide (by rw [hW0]; exact (Below.refl _ _).alloc (Nat.le_refl _) _)
 have HW := hide hW0
 have HKn := hide (fun W => opknown_c op W)
 have HIn := hide (fun W (h : Below w.heap.size w W) => opins_c op W (hK.below h))
 have HAr := hide (fun W (h : Below w.heap.size w W) => opargs_c op W (hK.below h))
 have HEe := hide hE.1.1
 rw [decide_eq_true hk] at HKn
 obtain ⟨n, hn⟩ : ∃ n, Hid (ds.length = n) := ⟨_, hide rfl⟩
 obtain ⟨m, hm⟩ : ∃ n, Hid (qs.length = n) := ⟨_, hide rfl⟩
 obtain ⟨i, hi⟩ : ∃ n, Hid (Op.ins op = n) := ⟨_, hide rfl⟩
 obtain ⟨j, hj⟩ : ∃ n, Hid (Op.args op = n) := ⟨_, hide rfl⟩
 unfold Op.fits at hf
 rw [hn.out, hm.out, hi.out, hj.out] at hf
 rw [hi.out] at HIn
 rw [hj.out] at HAr
 rw [hn.out, hm.out]
 by_cases h1 : n = i
 case neg =>
  have hb1 : ((n : Int) != (i : Int)) = true := by simp; omega
  clear hk hE hK hW0 hn hm hi hj hf h1
  go_enter Tryz.func84, Tryz.ntmps84
  go_wp2_with fail
  rw [← HW.out]
  clear HW
  refine (HKn.out _).mono ?_
  rintro e wq ⟨rfl, hw⟩
  have hw := hw.symm
  subst hw
  clear HKn
  go_wp2_with fail
  refine (HIn.out _ HB0.out).mono ?_
  rintro e w1 ⟨rfl, hb⟩
  replace HZ := hide (HZ.out.below hb HZ.out.lt)
  replace HB0 := hide (HB0.out.trans (hb.mono HB0.out.size))
  clear hb HIn
  obtain ⟨z0, z1, zf0, zf1, HZf, HFf⟩ := elm_twod HZ.out HB0.out (Nat.le_refl _) (.slice none 0 0) (.bool false)
  have hs5 : w1.drew.cell? ⟨1, 0, none⟩ = some (errv ah) := (HEe.out.below HB0.out).1
  have hglt : 1 < w.heap.size := HEe.out.2.1
  have hS9 := hide (HEe.out.below HFf.out).1
  go_wp2_with fail
  go_region_held3 (fun W => W.cell? ⟨1, 0, none⟩ = some (errv ah))
   (first | exact hs5 | assumption | exact hS9.out)
   (first | fail)
  go_wp2_with fail
  refine bodyPost_ret (results_desc rfl _ _ w.heap.size _ _ rfl HZf.out) rfl ?_
  exact OpE.bad rfl rfl HFf.out
 case pos =>
  have h3 : ¬ (op ≠ 18 → m = j) := fun h => hf ⟨h1, h⟩
  have h18 : op ≠ 18 := fun h => h3 (fun h2 => absurd h h2)
  have hmj : m ≠ j := fun h => h3 (fun _ => h)
  have hb1 : ((n : Int) != (i : Int)) = false := by simp; omega
  have hb2 : ((m : Int) != (j : Int)) = true := by simp; omega
  have hb3 : (op != 18) = true := by simp; exact h18
  clear hk hE hK hW0 hn hm hi hj hf h1 h3 h18 hmj
  go_enter Tryz.func84, Tryz.ntmps84
  go_wp2_with fail
  rw [← HW.out]
  clear HW
  refine (HKn.out _).mono ?_
  rintro e wq ⟨rfl, hw⟩
  have hw := hw.symm
  subst hw
  clear HKn
  go_wp2_with fail
  refine (HIn.out _ HB0.out).mono ?_
  rintro e w1 ⟨rfl, hb⟩
  replace HZ := hide (HZ.out.below hb HZ.out.lt)
  replace HB0 := hide (HB0.out.trans (hb.mono HB0.out.size))
  clear hb HIn
  go_wp2_with fail
  refine (HAr.out _ HB0.out).mono ?_
  rintro e w2 ⟨rfl, hb⟩
  replace HZ := hide (HZ.out.below hb HZ.out.lt)
  replace HB0 := hide (HB0.out.trans (hb.mono HB0.out.size))
  clear hb HAr
  obtain ⟨z0, z1, zf0, zf1, HZf, HFf⟩ := elm_twod HZ.out HB0.out (Nat.le_refl _) (.slice none 0 0) (.bool false)
  have hs5 : w2.drew.cell? ⟨1, 0, none⟩ = some (errv ah) := (HEe.out.below HB0.out).1
  have hglt : 1 < w.heap.size := HEe.out.2.1
  have hS9 := hide (HEe.out.below HFf.out).1
  go_wp2_with fail
  go_region_held3 (fun W => W.cell? ⟨1, 0, none⟩ = some (errv ah))
   (first | exact hs5 | assumption | exact hS9.out)
   (first | fail)
  go_wp2_with fail
  refine bodyPost_ret (results_desc rfl _ _ w.heap.size _ _ rfl HZf.out) rfl ?_
  exact OpE.bad rfl rfl HFf.out
set_option maxRecDepth 100000 in
set_option maxHeartbeats 4000000 in
theorem opresult_14 (qs : List Int) (a : Dsc) (A B : Option Addr) (qcap cap : Nat) (ah am ar ak : Addr) (w : World) (hQ : Ri w A qs) (hqs : qs.length = 2) (hR : Row w B ([a].flatMap Dsc.vals)) (ha : a.In w) (hE : E4 w ah am ar ak) (hK : Kz w) :
  Calls Tryz.prog 84 #[.int .i64 14, .slice A 2 qcap, .slice B 1 cap] w (OpE w ah am ar ak (Pl.code qs a, Pl.shape qs a, Pl.kind qs a)) := by
 obtain ⟨W0, hW0⟩ : ∃ W, W = w.alloc (.cells #[.slice none 0 0, .bool false] 24) := ⟨_, rfl⟩
 have HZ : Hid (Has W0 w.heap.size 24 [.slice none 0 0, .bool false]) := hide (by rw [hW0]; exact Has.new _ _ _)
 have HB0 : Hid (Below w.heap.size w W0) := hide (by rw [hW0]; exact (Below.refl _ _).alloc (Nat.le_refl _) _)
 have HW := hide hW0
 have HKn := hide (fun W => opknown_c 14 W)
 have HIn := hide (fun W (h : Below w.heap.size w W) => opins_c 14 W (hK.below h))
 have HAr := hide (fun W (h : Below w.heap.size w W) => opargs_c 14 W (hK.below h))
 have HE := hide (fun W (h : Below w.heap.size w W) => hE.below h)
 have HR := hide (fun W (h : Below w.heap.size w W) => hR.below h)
 have HV := hide (fun W (h : Below w.heap.size w W) => presult_c qs A qcap a ah am ar W (hQ.below h) (by omega) (ha.below h) (hE.1.below h))
 rw [decide_eq_true (show Op.known 14 by decide)] at HKn
 rw [show Op.ins 14 = 1 from rfl] at HIn
 rw [show Op.args 14 = 2 from rfl] at HAr
 rw [hqs] at HV
 clear hE hK hW0 HE hR
 go_enter Tryz.func84, Tryz.ntmps84
 go_wp2_with fail
 rw [← HW.out]
 clear HW
 refine (HKn.out _).mono ?_
 rintro e wq ⟨rfl, hw⟩
 have hw := hw.symm
 subst hw
 clear HKn
 go_wp2_with fail
 refine (HIn.out _ HB0.out).mono ?_
 rintro e w1 ⟨rfl, hb⟩
 replace HZ := hide (HZ.out.below hb HZ.out.lt)
 replace HB0 := hide (HB0.out.trans (hb.mono HB0.out.size))
 clear hb HIn
 go_wp2_with fail
 refine (HAr.out _ HB0.out).mono ?_
 rintro e w2 ⟨rfl, hb⟩
 replace HZ := hide (HZ.out.below hb HZ.out.lt)
 replace HB0 := hide (HB0.out.trans (hb.mono HB0.out.size))
 clear hb HAr
 obtain ⟨ad, hB, had, c0, c1⟩ := rowd_one (HR.out w2 HB0.out)
 subst hB
 go_wp2_with fail
 refine (HV.out _ HB0.out).mono ?_
 intro e w5 hD
 obtain ⟨⟨d, rfl, hdi, hfr, hdz, hdu⟩, hb⟩ := hD
 have hne : ∀ x, d.P = some x → x.block ≠ w.heap.size := fun x h => Nat.ne_of_gt (Nat.lt_of_lt_of_le (Nat.lt_succ_of_lt HZ.out.lt) (hfr x h))
 have HZ5 := hide (HZ.out.below hb HZ.out.lt)
 have HB5 := hide (HB0.out.trans (hb.mono HB0.out.size))
 obtain ⟨z0, z1, zf0, zf1, HZf, HFf⟩ := elm_two HZ5.out HB5.out (Nat.le_refl _) (.slice d.P d.zs.length d.cap) (.bool d.u)
 have HDI := hide ((hdi.far hne 0 (.slice d.P d.zs.length d.cap)).far hne 1 (.bool d.u))
 have HDZ := hide hdz
 have HDU := hide hdu
 clear hb hdi hdz hdu hfr hne HZ HB0 HV HR c0 c1 had
 go_wp2_with fail
 refine bodyPost_ret (results_desc rfl _ _ w.heap.size _ _ rfl HZf.out) rfl ?_
 exact ⟨⟨d, by show _ = Ending.returned (.tuple #[.agg (dcells d.P d.zs.length d.cap d.u), Elm.err ah am ar ak _]); rw [Op.err_known (Pl.code_known qs a)]; rfl, HDI.out, HDZ.out, HDU.out⟩, HFf.out⟩
set_option maxRecDepth 100000 in
set_option maxHeartbeats 4000000 in
theorem opresult_15 (qs : List Int) (a : Dsc) (A B : Option Addr) (qcap cap : Nat) (ah am ar ak : Addr) (w : World) (hQ : Ri w A qs) (hqs : qs.length = 2) (hR : Row w B ([a].flatMap Dsc.vals)) (ha : a.In w) (hE : E4 w ah am ar ak) (hK : Kz w) :
  Calls Tryz.prog 84 #[.int .i64 15, .slice A 2 qcap, .slice B 1 cap] w (OpE w ah am ar ak (Pl.code qs a, Pl.shape qs a, Pl.kind qs a)) := by
 obtain ⟨W0, hW0⟩ : ∃ W, W = w.alloc (.cells #[.slice none 0 0, .bool false] 24) := ⟨_, rfl⟩
 have HZ : Hid (Has W0 w.heap.size 24 [.slice none 0 0, .bool false]) := hide (by rw [hW0]; exact Has.new _ _ _)
 have HB0 : Hid (Below w.heap.size w W0) := hide (by rw [hW0]; exact (Below.refl _ _).alloc (Nat.le_refl _) _)
 have HW := hide hW0
 have HKn := hide (fun W => opknown_c 15 W)
 have HIn := hide (fun W (h : Below w.heap.size w W) => opins_c 15 W (hK.below h))
 have HAr := hide (fun W (h : Below w.heap.size w W) => opargs_c 15 W (hK.below h))
 have HE := hide (fun W (h : Below w.heap.size w W) => hE.below h)
 have HR := hide (fun W (h : Below w.heap.size w W) => hR.below h)
 have HV := hide (fun W (h : Below w.heap.size w W) => presult_c qs A qcap a ah am ar W (hQ.below h) (by omega) (ha.below h) (hE.1.below h))
 rw [decide_eq_true (show Op.known 15 by decide)] at HKn
 rw [show Op.ins 15 = 1 from rfl] at HIn
 rw [show Op.args 15 = 2 from rfl] at HAr
 rw [hqs] at HV
 clear hE hK hW0 HE hR
 go_enter Tryz.func84, Tryz.ntmps84
 go_wp2_with fail
 rw [← HW.out]
 clear HW
 refine (HKn.out _).mono ?_
 rintro e wq ⟨rfl, hw⟩
 have hw := hw.symm
 subst hw
 clear HKn
 go_wp2_with fail
 refine (HIn.out _ HB0.out).mono ?_
 rintro e w1 ⟨rfl, hb⟩
 replace HZ := hide (HZ.out.below hb HZ.out.lt)
 replace HB0 := hide (HB0.out.trans (hb.mono HB0.out.size))
 clear hb HIn
 go_wp2_with fail
 refine (HAr.out _ HB0.out).mono ?_
 rintro e w2 ⟨rfl, hb⟩
 replace HZ := hide (HZ.out.below hb HZ.out.lt)
 replace HB0 := hide (HB0.out.trans (hb.mono HB0.out.size))
 clear hb HAr
 obtain ⟨ad, hB, had, c0, c1⟩ := rowd_one (HR.out w2 HB0.out)
 subst hB
 go_wp2_with fail
 refine (HV.out _ HB0.out).mono ?_
 intro e w5 hD
 obtain ⟨⟨d, rfl, hdi, hfr, hdz, hdu⟩, hb⟩ := hD
 have hne : ∀ x, d.P = some x → x.block ≠ w.heap.size := fun x h => Nat.ne_of_gt (Nat.lt_of_lt_of_le (Nat.lt_succ_of_lt HZ.out.lt) (hfr x h))
 have HZ5 := hide (HZ.out.below hb HZ.out.lt)
 have HB5 := hide (HB0.out.trans (hb.mono HB0.out.size))
 obtain ⟨z0, z1, zf0, zf1, HZf, HFf⟩ := elm_two HZ5.out HB5.out (Nat.le_refl _) (.slice d.P d.zs.length d.cap) (.bool d.u)
 have HDI := hide ((hdi.far hne 0 (.slice d.P d.zs.length d.cap)).far hne 1 (.bool d.u))
 have HDZ := hide hdz
 have HDU := hide hdu
 clear hb hdi hdz hdu hfr hne HZ HB0 HV HR c0 c1 had
 go_wp2_with fail
 refine bodyPost_ret (results_desc rfl _ _ w.heap.size _ _ rfl HZf.out) rfl ?_
 exact ⟨⟨d, by show _ = Ending.returned (.tuple #[.agg (dcells d.P d.zs.length d.cap d.u), Elm.err ah am ar ak _]); rw [Op.err_known (Pl.code_known qs a)]; rfl, HDI.out, HDZ.out, HDU.out⟩, HFf.out⟩
set_option maxRecDepth 100000 in
set_option maxHeartbeats 4000000 in
theorem opresult_16 (ds : List Dsc) (A B : Option Addr) (qcap cap : Nat) (ah am ar ak : Addr) (w : World) (hlen : ds.length = 2) (hR : Row w B (ds.flatMap Dsc.vals)) (hI : ∀ d ∈ ds, d.In w) (hE : E4 w ah am ar ak) (hK : Kz w) :
  Calls Tryz.prog 84 #[.int .i64 16, .slice A 0 qcap, .slice B 2 cap] w (OpE w ah am ar ak (Sf.code 16 ds, Sf.shape 16 ds, Sf.kind 16 ds)) := by
 obtain ⟨W0, hW0⟩ : ∃ W, W = w.alloc (.cells #[.slice none 0 0, .bool false] 24) := ⟨_, rfl⟩
 have HZ : Hid (Has W0 w.heap.size 24 [.slice none 0 0, .bool false]) := hide (by rw [hW0]; exact Has.new _ _ _)
 have HB0 : Hid (Below w.heap.size w W0) := hide (by rw [hW0]; exact (Below.refl _ _).alloc (Nat.le_refl _) _)
 have HW := hide hW0
 have HKn := hide (fun W => opknown_c 16 W)
 have HIn := hide (fun W (h : Below w.heap.size w W) => opins_c 16 W (hK.below h))
 have HAr := hide (fun W (h : Below w.heap.size w W) => opargs_c 16 W (hK.below h))
 have HE := hide (fun W (h : Below w.heap.size w W) => hE.below h)
 have HR := hide (fun W (h : Below w.heap.size w W) => hR.below h)
 have HV := hide (fun W (h : Below w.heap.size w W) => sresult_c 16 (by unfold Sf.isOp; decide) ds B cap ah am ar W (hR.below h) (fun d hd => (hI d hd).below h) (by omega) (hE.1.below h))
 rw [decide_eq_true (show Op.known 16 by decide)] at HKn
 rw [show Op.ins 16 = 2 from rfl] at HIn
 rw [show Op.args 16 = 0 from rfl] at HAr
 rw [hlen] at HV
 clear hE hK hW0 HE hR
 go_enter Tryz.func84, Tryz.ntmps84
 go_wp2_with fail
 rw [← HW.out]
 clear HW
 refine (HKn.out _).mono ?_
 rintro e wq ⟨rfl, hw⟩
 have hw := hw.symm
 subst hw
 clear HKn
 go_wp2_with fail
 refine (HIn.out _ HB0.out).mono ?_
 rintro e w1 ⟨rfl, hb⟩
 replace HZ := hide (HZ.out.below hb HZ.out.lt)
 replace HB0 := hide (HB0.out.trans (hb.mono HB0.out.size))
 clear hb HIn
 go_wp2_with fail
 refine (HAr.out _ HB0.out).mono ?_
 rintro e w2 ⟨rfl, hb⟩
 replace HZ := hide (HZ.out.below hb HZ.out.lt)
 replace HB0 := hide (HB0.out.trans (hb.mono HB0.out.size))
 clear hb HAr
 go_wp2_with fail
 refine (HV.out _ HB0.out).mono ?_
 intro e w5 hD
 obtain ⟨⟨d, rfl, hdi, hfr, hdz, hdu⟩, hb⟩ := hD
 have hne : ∀ x, d.P = some x → x.block ≠ w.heap.size := fun x h => Nat.ne_of_gt (Nat.lt_of_lt_of_le (Nat.lt_succ_of_lt HZ.out.lt) (hfr x h))
 have HZ5 := hide (HZ.out.below hb HZ.out.lt)
 have HB5 := hide (HB0.out.trans (hb.mono HB0.out.size))
 obtain ⟨z0, z1, zf0, zf1, HZf, HFf⟩ := elm_two HZ5.out HB5.out (Nat.le_refl _) (.slice d.P d.zs.length d.cap) (.bool d.u)
 have HDI := hide ((hdi.far hne 0 (.slice d.P d.zs.length d.cap)).far hne 1 (.bool d.u))
 have HDZ := hide hdz
 have HDU := hide hdu
 clear hb hdi hdz hdu hfr hne HZ HB0 HV HR
 go_wp2_with fail
 refine bodyPost_ret (results_desc rfl _ _ w.heap.size _ _ rfl HZf.out) rfl ?_
 exact ⟨⟨d, by show _ = Ending.returned (.tuple #[.agg (dcells d.P d.zs.length d.cap d.u), Elm.err ah am ar ak _]); rw [Op.err_known (Sf.code_known 16 ds)]; rfl, HDI.out, HDZ.out, HDU.out⟩, HFf.out⟩
set_option maxRecDepth 100000 in
set_option maxHeartbeats 4000000 in
theorem opresult_17 (ds : List Dsc) (A B : Option Addr) (qcap cap : Nat) (ah am ar ak : Addr) (w : World) (hlen : ds.length = 2) (hR : Row w B (ds.flatMap Dsc.vals)) (hI : ∀ d ∈ ds, d.In w) (hE : E4 w ah am ar ak) (hK : Kz w) :
  Calls Tryz.prog 84 #[.int .i64 17, .slice A 0 qcap, .slice B 2 cap] w (OpE w ah am ar ak (Sf.code 17 ds, Sf.shape 17 ds, Sf.kind 17 ds)) := by
 obtain ⟨W0, hW0⟩ : ∃ W, W = w.alloc (.cells #[.slice none 0 0, .bool false] 24) := ⟨_, rfl⟩
 have HZ : Hid (Has W0 w.heap.size 24 [.slice none 0 0, .bool false]) := hide (by rw [hW0]; exact Has.new _ _ _)
 have HB0 : Hid (Below w.heap.size w W0) := hide (by rw [hW0]; exact (Below.refl _ _).alloc (Nat.le_refl _) _)
 have HW := hide hW0
 have HKn := hide (fun W => opknown_c 17 W)
 have HIn := hide (fun W (h : Below w.heap.size w W) => opins_c 17 W (hK.below h))
 have HAr := hide (fun W (h : Below w.heap.size w W) => opargs_c 17 W (hK.below h))
 have HE := hide (fun W (h : Below w.heap.size w W) => hE.below h)
 have HR := hide (fun W (h : Below w.heap.size w W) => hR.below h)
 have HV := hide (fun W (h : Below w.heap.size w W) => sresult_c 17 (by unfold Sf.isOp; decide) ds B cap ah am ar W (hR.below h) (fun d hd => (hI d hd).below h) (by omega) (hE.1.below h))
 rw [decide_eq_true (show Op.known 17 by decide)] at HKn
 rw [show Op.ins 17 = 2 from rfl] at HIn
 rw [show Op.args 17 = 0 from rfl] at HAr
 rw [hlen] at HV
 clear hE hK hW0 HE hR
 go_enter Tryz.func84, Tryz.ntmps84
 go_wp2_with fail
 rw [← HW.out]
 clear HW
 refine (HKn.out _).mono ?_
 rintro e wq ⟨rfl, hw⟩
 have hw := hw.symm
 subst hw
 clear HKn
 go_wp2_with fail
 refine (HIn.out _ HB0.out).mono ?_
 rintro e w1 ⟨rfl, hb⟩
 replace HZ := hide (HZ.out.below hb HZ.out.lt)
 replace HB0 := hide (HB0.out.trans (hb.mono HB0.out.size))
 clear hb HIn
 go_wp2_with fail
 refine (HAr.out _ HB0.out).mono ?_
 rintro e w2 ⟨rfl, hb⟩
 replace HZ := hide (HZ.out.below hb HZ.out.lt)
 replace HB0 := hide (HB0.out.trans (hb.mono HB0.out.size))
 clear hb HAr
 go_wp2_with fail
 refine (HV.out _ HB0.out).mono ?_
 intro e w5 hD
 obtain ⟨⟨d, rfl, hdi, hfr, hdz, hdu⟩, hb⟩ := hD
 have hne : ∀ x, d.P = some x → x.block ≠ w.heap.size := fun x h => Nat.ne_of_gt (Nat.lt_of_lt_of_le (Nat.lt_succ_of_lt HZ.out.lt) (hfr x h))
 have HZ5 := hide (HZ.out.below hb HZ.out.lt)
 have HB5 := hide (HB0.out.trans (hb.mono HB0.out.size))
 obtain ⟨z0, z1, zf0, zf1, HZf, HFf⟩ := elm_two HZ5.out HB5.out (Nat.le_refl _) (.slice d.P d.zs.length d.cap) (.bool d.u)
 have HDI := hide ((hdi.far hne 0 (.slice d.P d.zs.length d.cap)).far hne 1 (.bool d.u))
 have HDZ := hide hdz
 have HDU := hide hdu
 clear hb hdi hdz hdu hfr hne HZ HB0 HV HR
 go_wp2_with fail
 refine bodyPost_ret (results_desc rfl _ _ w.heap.size _ _ rfl HZf.out) rfl ?_
 exact ⟨⟨d, by show _ = Ending.returned (.tuple #[.agg (dcells d.P d.zs.length d.cap d.u), Elm.err ah am ar ak _]); rw [Op.err_known (Sf.code_known 17 ds)]; rfl, HDI.out, HDZ.out, HDU.out⟩, HFf.out⟩
set_option maxRecDepth 100000 in
set_option maxHeartbeats 4000000 in
theorem opresult_19 (ds : List Dsc) (A B : Option Addr) (qcap cap : Nat) (ah am ar ak : Addr) (w : World) (hlen : ds.length = 1) (hR : Row w B (ds.flatMap Dsc.vals)) (hI : ∀ d ∈ ds, d.In w) (hE : E4 w ah am ar ak) (hK : Kz w) :
  Calls Tryz.prog 84 #[.int .i64 19, .slice A 0 qcap, .slice B 1 cap] w (OpE w ah am ar ak (Sf.code 19 ds, Sf.shape 19 ds, Sf.kind 19 ds)) := by
 obtain ⟨W0, hW0⟩ : ∃ W, W = w.alloc (.cells #[.slice none 0 0, .bool false] 24) := ⟨_, rfl⟩
 have HZ : Hid (Has W0 w.heap.size 24 [.slice none 0 0, .bool false]) := hide (by rw [hW0]; exact Has.new _ _ _)
 have HB0 : Hid (Below w.heap.size w W0) := hide (by rw [hW0]; exact (Below.refl _ _).alloc (Nat.le_refl _) _)
 have HW := hide hW0
 have HKn := hide (fun W => opknown_c 19 W)
 have HIn := hide (fun W (h : Below w.heap.size w W) => opins_c 19 W (hK.below h))
 have HAr := hide (fun W (h : Below w.heap.size w W) => opargs_c 19 W (hK.below h))
 have HE := hide (fun W (h : Below w.heap.size w W) => hE.below h)
 have HR := hide (fun W (h : Below w.heap.size w W) => hR.below h)
 have HV := hide (fun W (h : Below w.heap.size w W) => sresult_c 19 (by unfold Sf.isOp; decide) ds B cap ah am ar W (hR.below h) (fun d hd => (hI d hd).below h) (by omega) (hE.1.below h))
 rw [decide_eq_true (show Op.known 19 by decide)] at HKn
 rw [show Op.ins 19 = 1 from rfl] at HIn
 rw [show Op.args 19 = 0 from rfl] at HAr
 rw [hlen] at HV
 clear hE hK hW0 HE hR
 go_enter Tryz.func84, Tryz.ntmps84
 go_wp2_with fail
 rw [← HW.out]
 clear HW
 refine (HKn.out _).mono ?_
 rintro e wq ⟨rfl, hw⟩
 have hw := hw.symm
 subst hw
 clear HKn
 go_wp2_with fail
 refine (HIn.out _ HB0.out).mono ?_
 rintro e w1 ⟨rfl, hb⟩
 replace HZ := hide (HZ.out.below hb HZ.out.lt)
 replace HB0 := hide (HB0.out.trans (hb.mono HB0.out.size))
 clear hb HIn
 go_wp2_with fail
 refine (HAr.out _ HB0.out).mono ?_
 rintro e w2 ⟨rfl, hb⟩
 replace HZ := hide (HZ.out.below hb HZ.out.lt)
 replace HB0 := hide (HB0.out.trans (hb.mono HB0.out.size))
 clear hb HAr
 go_wp2_with fail
 refine (HV.out _ HB0.out).mono ?_
 intro e w5 hD
 obtain ⟨⟨d, rfl, hdi, hfr, hdz, hdu⟩, hb⟩ := hD
 have hne : ∀ x, d.P = some x → x.block ≠ w.heap.size := fun x h => Nat.ne_of_gt (Nat.lt_of_lt_of_le (Nat.lt_succ_of_lt HZ.out.lt) (hfr x h))
 have HZ5 := hide (HZ.out.below hb HZ.out.lt)
 have HB5 := hide (HB0.out.trans (hb.mono HB0.out.size))
 obtain ⟨z0, z1, zf0, zf1, HZf, HFf⟩ := elm_two HZ5.out HB5.out (Nat.le_refl _) (.slice d.P d.zs.length d.cap) (.bool d.u)
 have HDI := hide ((hdi.far hne 0 (.slice d.P d.zs.length d.cap)).far hne 1 (.bool d.u))
 have HDZ := hide hdz
 have HDU := hide hdu
 clear hb hdi hdz hdu hfr hne HZ HB0 HV HR
 go_wp2_with fail
 refine bodyPost_ret (results_desc rfl _ _ w.heap.size _ _ rfl HZf.out) rfl ?_
 exact ⟨⟨d, by show _ = Ending.returned (.tuple #[.agg (dcells d.P d.zs.length d.cap d.u), Elm.err ah am ar ak _]); rw [Op.err_known (Sf.code_known 19 ds)]; rfl, HDI.out, HDZ.out, HDU.out⟩, HFf.out⟩
set_option maxRecDepth 100000 in
set_option maxHeartbeats 4000000 in
theorem opresult_20 (ds : List Dsc) (A B : Option Addr) (qcap cap : Nat) (ah am ar ak : Addr) (w : World) (hlen : ds.length = 1) (hR : Row w B (ds.flatMap Dsc.vals)) (hI : ∀ d ∈ ds, d.In w) (hE : E4 w ah am ar ak) (hK : Kz w) :
  Calls Tryz.prog 84 #[.int .i64 20, .slice A 0 qcap, .slice B 1 cap] w (OpE w ah am ar ak (Sf.code 20 ds, Sf.shape 20 ds, Sf.kind 20 ds)) := by
 obtain ⟨W0, hW0⟩ : ∃ W, W = w.alloc (.cells #[.slice none 0 0, .bool false] 24) := ⟨_, rfl⟩
 have HZ : Hid (Has W0 w.heap.size 24 [.slice none 0 0, .bool false]) := hide (by rw [hW0]; exact Has.new _ _ _)
 have HB0 : Hid (Below w.heap.size w W0) := hide (by rw [hW0]; exact (Below.refl _ _).alloc (Nat.le_refl _) _)
 have HW := hide hW0
 have HKn := hide (fun W => opknown_c 20 W)
 have HIn := hide (fun W (h : Below w.heap.size w W) => opins_c 20 W (hK.below h))
 have HAr := hide (fun W (h : Below w.heap.size w W) => opargs_c 20 W (hK.below h))
 have HE := hide (fun W (h : Below w.heap.size w W) => hE.below h)
 have HR := hide (fun W (h : Below w.heap.size w W) => hR.below h)
 have HV := hide (fun W (h : Below w.heap.size w W) => sresult_c 20 (by unfold Sf.isOp; decide) ds B cap ah am ar W (hR.below h) (fun d hd => (hI d hd).below h) (by omega) (hE.1.below h))
 rw [decide_eq_true (show Op.known 20 by decide)] at HKn
 rw [show Op.ins 20 = 1 from rfl] at HIn
 rw [show Op.args 20 = 0 from rfl] at HAr
 rw [hlen] at HV
 clear hE hK hW0 HE hR
 go_enter Tryz.func84, Tryz.ntmps84
 go_wp2_with fail
 rw [← HW.out]
 clear HW
 refine (HKn.out _).mono ?_
 rintro e wq ⟨rfl, hw⟩
 have hw := hw.symm
 subst hw
 clear HKn
 go_wp2_with fail
 refine (HIn.out _ HB0.out).mono ?_
 rintro e w1 ⟨rfl, hb⟩
 replace HZ := hide (HZ.out.below hb HZ.out.lt)
 replace HB0 := hide (HB0.out.trans (hb.mono HB0.out.size))
 clear hb HIn
 go_wp2_with fail
 refine (HAr.out _ HB0.out).mono ?_
 rintro e w2 ⟨rfl, hb⟩
 replace HZ := hide (HZ.out.below hb HZ.out.lt)
 replace HB0 := hide (HB0.out.trans (hb.mono HB0.out.size))
 clear hb HAr
 go_wp2_with fail
 refine (HV.out _ HB0.out).mono ?_
 intro e w5 hD
 obtain ⟨⟨d, rfl, hdi, hfr, hdz, hdu⟩, hb⟩ := hD
 have hne : ∀ x, d.P = some x → x.block ≠ w.heap.size := fun x h => Nat.ne_of_gt (Nat.lt_of_lt_of_le (Nat.lt_succ_of_lt HZ.out.lt) (hfr x h))
 have HZ5 := hide (HZ.out.below hb HZ.out.lt)
 have HB5 := hide (HB0.out.trans (hb.mono HB0.out.size))
 obtain ⟨z0, z1, zf0, zf1, HZf, HFf⟩ := elm_two HZ5.out HB5.out (Nat.le_refl _) (.slice d.P d.zs.length d.cap) (.bool d.u)
 have HDI := hide ((hdi.far hne 0 (.slice d.P d.zs.length d.cap)).far hne 1 (.bool d.u))
 have HDZ := hide hdz
 have HDU := hide hdu
 clear hb hdi hdz hdu hfr hne HZ HB0 HV HR
 go_wp2_with fail
 refine bodyPost_ret (results_desc rfl _ _ w.heap.size _ _ rfl HZf.out) rfl ?_
 exact ⟨⟨d, by show _ = Ending.returned (.tuple #[.agg (dcells d.P d.zs.length d.cap d.u), Elm.err ah am ar ak _]); rw [Op.err_known (Sf.code_known 20 ds)]; rfl, HDI.out, HDZ.out, HDU.out⟩, HFf.out⟩
set_option maxRecDepth 100000 in
set_option maxHeartbeats 4000000 in
theorem opresult_18 (qs : List Int) (a : Dsc) (A B : Option Addr) (qcap cap : Nat) (ah am ar ak : Addr) (w : World) (hQ : Ri w A qs) (hql : qs.length ≤ 1000000) (hR : Row w B ([a].flatMap Dsc.vals)) (ha : a.In w) (hE : E4 w ah am ar ak) (hK : Kz w) :
  Calls Tryz.prog 84 #[.int .i64 18, .slice A qs.length qcap, .slice B 1 cap] w (OpE w ah am ar ak (Op.rcode qs a, Op.rshape qs a, Op.rkind qs a)) := by
 obtain ⟨W0, hW0⟩ : ∃ W, W = w.alloc (.cells #[.slice none 0 0, .bool false] 24) := ⟨_, rfl⟩
 have HZ : Hid (Has W0 w.heap.size 24 [.slice none 0 0, .bool false]) := hide (by rw [hW0]; exact Has.new _ _ _)
 have HB0 : Hid (Below w.heap.size w W0) := hide (by rw [hW0]; exact (Below.refl _ _).alloc (Nat.le_refl _) _)
 have HW := hide hW0
 have HKn := hide (fun W => opknown_c 18 W)
 have HIn := hide (fun W (h : Below w.heap.size w W) => opins_c 18 W (hK.below h))
 have HE := hide (fun W (h : Below w.heap.size w W) => hE.below h)
 have HR := hide (fun W (h : Below w.heap.size w W) => hR.below h)
 have HV := hide (fun W (h : Below w.heap.size w W) => opreshaped_c qs A qcap a ah am ar W (hQ.below h) hql (ha.below h) (hE.1.below h))
 rw [decide_eq_true (show Op.known 18 by decide)] at HKn
 rw [show Op.ins 18 = 1 from rfl] at HIn
 clear hE hK hW0 HE hR
 go_enter Tryz.func84, Tryz.ntmps84
 go_wp2_with fail
 rw [← HW.out]
 clear HW
 refine (HKn.out _).mono ?_
 rintro e wq ⟨rfl, hw⟩
 have hw := hw.symm
 subst hw
 clear HKn
 go_wp2_with fail
 refine (HIn.out _ HB0.out).mono ?_
 rintro e w1 ⟨rfl, hb⟩
 replace HZ := hide (HZ.out.below hb HZ.out.lt)
 replace HB0 := hide (HB0.out.trans (hb.mono HB0.out.size))
 clear hb HIn
 obtain ⟨ad, hB, had, c0, c1⟩ := rowd_one (HR.out w1 HB0.out)
 subst hB
 go_wp2_with fail
 refine (HV.out _ HB0.out).mono ?_
 intro e w5 hD
 obtain ⟨⟨d, rfl, hdi, hfr, hdz, hdu⟩, hb⟩ := hD
 have hne : ∀ x, d.P = some x → x.block ≠ w.heap.size := fun x h => Nat.ne_of_gt (Nat.lt_of_lt_of_le (Nat.lt_succ_of_lt HZ.out.lt) (hfr x h))
 have HZ5 := hide (HZ.out.below hb HZ.out.lt)
 have HB5 := hide (HB0.out.trans (hb.mono HB0.out.size))
 obtain ⟨z0, z1, zf0, zf1, HZf, HFf⟩ := elm_two HZ5.out HB5.out (Nat.le_refl _) (.slice d.P d.zs.length d.cap) (.bool d.u)
 have HDI := hide ((hdi.far hne 0 (.slice d.P d.zs.length d.cap)).far hne 1 (.bool d.u))
 have HDZ := hide hdz
 have HDU := hide hdu
 clear hb hdi hdz hdu hfr hne HZ HB0 HV HR c0 c1 had
 go_wp2_with fail
 refine bodyPost_ret (results_desc rfl _ _ w.heap.size _ _ rfl HZf.out) rfl ?_
 exact ⟨⟨d, by show _ = Ending.returned (.tuple #[.agg (dcells d.P d.zs.length d.cap d.u), Elm.err ah am ar ak _]); rw [Op.err_known (Op.rcode_known qs a)]; rfl, HDI.out, HDZ.out, HDU.out⟩, HFf.out⟩
set_option maxRecDepth 100000 in
set_option maxHeartbeats 4000000 in
theorem opresult_21 (a : Dsc) (A B : Option Addr) (qcap cap : Nat) (ah am ar ak : Addr) (w : World) (hR : Row w B ([a].flatMap Dsc.vals)) (ha : a.In w) (hE : E4 w ah am ar ak) (hK : Kz w) :
  Calls Tryz.prog 84 #[.int .i64 21, .slice A 0 qcap, .slice B 1 cap] w (OpE w ah am ar ak (Op.tcode a, Op.tshape a, Op.tkind a)) := by
 obtain ⟨W0, hW0⟩ : ∃ W, W = w.alloc (.cells #[.slice none 0 0, .bool false] 24) := ⟨_, rfl⟩
 have HZ : Hid (Has W0 w.heap.size 24 [.slice none 0 0, .bool false]) := hide (by rw [hW0]; exact Has.new _ _ _)
 have HB0 : Hid (Below w.heap.size w W0) := hide (by rw [hW0]; exact (Below.refl _ _).alloc (Nat.le_refl _) _)
 have HW := hide hW0
 have HKn := hide (fun W => opknown_c 21 W)
 have HIn := hide (fun W (h : Below w.heap.size w W) => opins_c 21 W (hK.below h))
 have HAr := hide (fun W (h : Below w.heap.size w W) => opargs_c 21 W (hK.below h))
 have HE := hide (fun W (h : Below w.heap.size w W) => hE.below h)
 have HR := hide (fun W (h : Below w.heap.size w W) => hR.below h)
 have HV := hide (fun W (h : Below w.heap.size w W) => opturned_c a ah am ar W (ha.below h) (hE.1.below h))
 rw [decide_eq_true (show Op.known 21 by decide)] at HKn
 rw [show Op.ins 21 = 1 from rfl] at HIn
 rw [show Op.args 21 = 0 from rfl] at HAr
 clear hE hK hW0 HE hR
 go_enter Tryz.func84, Tryz.ntmps84
 go_wp2_with fail
 rw [← HW.out]
 clear HW
 refine (HKn.out _).mono ?_
 rintro e wq ⟨rfl, hw⟩
 have hw := hw.symm
 subst hw
 clear HKn
 go_wp2_with fail
 refine (HIn.out _ HB0.out).mono ?_
 rintro e w1 ⟨rfl, hb⟩
 replace HZ := hide (HZ.out.below hb HZ.out.lt)
 replace HB0 := hide (HB0.out.trans (hb.mono HB0.out.size))
 clear hb HIn
 go_wp2_with fail
 refine (HAr.out _ HB0.out).mono ?_
 rintro e w2 ⟨rfl, hb⟩
 replace HZ := hide (HZ.out.below hb HZ.out.lt)
 replace HB0 := hide (HB0.out.trans (hb.mono HB0.out.size))
 clear hb HAr
 obtain ⟨ad, hB, had, c0, c1⟩ := rowd_one (HR.out w2 HB0.out)
 subst hB
 go_wp2_with fail
 refine (HV.out _ HB0.out).mono ?_
 intro e w5 hD
 obtain ⟨⟨d, rfl, hdi, hfr, hdz, hdu⟩, hb⟩ := hD
 have hne : ∀ x, d.P = some x → x.block ≠ w.heap.size := fun x h => Nat.ne_of_gt (Nat.lt_of_lt_of_le (Nat.lt_succ_of_lt HZ.out.lt) (hfr x h))
 have HZ5 := hide (HZ.out.below hb HZ.out.lt)
 have HB5 := hide (HB0.out.trans (hb.mono HB0.out.size))
 obtain ⟨z0, z1, zf0, zf1, HZf, HFf⟩ := elm_two HZ5.out HB5.out (Nat.le_refl _) (.slice d.P d.zs.length d.cap) (.bool d.u)
 have HDI := hide ((hdi.far hne 0 (.slice d.P d.zs.length d.cap)).far hne 1 (.bool d.u))
 have HDZ := hide hdz
 have HDU := hide hdu
 clear hb hdi hdz hdu hfr hne HZ HB0 HV HR c0 c1 had
 go_wp2_with fail
 refine bodyPost_ret (results_desc rfl _ _ w.heap.size _ _ rfl HZf.out) rfl ?_
 exact ⟨⟨d, by show _ = Ending.returned (.tuple #[.agg (dcells d.P d.zs.length d.cap d.u), Elm.err ah am ar ak _]); rw [Op.err_known (Op.tcode_known a)]; rfl, HDI.out, HDZ.out, HDU.out⟩, HFf.out⟩
set_option maxRecDepth 100000 in
set_option maxHeartbeats 4000000 in
theorem opresult_13 (qs : List Int) (a b : Dsc) (A B : Option Addr) (qcap cap : Nat) (ah am ar ak : Addr) (w : World) (hQ : Ri w A qs) (hqs : qs.length = 3) (hR : Row w B ([a, b].flatMap Dsc.vals)) (ha : a.In w) (hb : b.In w) (hE : E4 w ah am ar ak) (hK : Kz w) :
  Calls Tryz.prog 84 #[.int .i64 13, .slice A 3 qcap, .slice B 2 cap] w (OpE w ah am ar ak (Cv.code qs a b, Cv.shape qs a b, Cv.kind qs a b)) := by
 obtain ⟨W0, hW0⟩ : ∃ W, W = w.alloc (.cells #[.slice none 0 0, .bool false] 24) := ⟨_, rfl⟩
 have HZ : Hid (Has W0 w.heap.size 24 [.slice none 0 0, .bool false]) := hide (by rw [hW0]; exact Has.new _ _ _)
 have HB0 : Hid (Below w.heap.size w W0) := hide (by rw [hW0]; exact (Below.refl _ _).alloc (Nat.le_refl _) _)
 have HW := hide hW0
 have HKn := hide (fun W => opknown_c 13 W)
 have HIn := hide (fun W (h : Below w.heap.size w W) => opins_c 13 W (hK.below h))
 have HAr := hide (fun W (h : Below w.heap.size w W) => opargs_c 13 W (hK.below h))
 have HE := hide (fun W (h : Below w.heap.size w W) => hE.below h)
 have HR := hide (fun W (h : Below w.heap.size w W) => hR.below h)
 have HV := hide (fun W (h : Below w.heap.size w W) => cresult_c qs A qcap a b ah am ar W (hQ.below h) (by omega) (ha.below h) (hb.below h) (hE.1.below h))
 rw [decide_eq_true (show Op.known 13 by decide)] at HKn
 rw [show Op.ins 13 = 2 from rfl] at HIn
 rw [show Op.args 13 = 3 from rfl] at HAr
 rw [hqs] at HV
 clear hb
 clear hE hK hW0 HE hR
 go_enter Tryz.func84, Tryz.ntmps84
 go_wp2_with fail
 rw [← HW.out]
 clear HW
 refine (HKn.out _).mono ?_
 rintro e wq ⟨rfl, hw⟩
 have hw := hw.symm
 subst hw
 clear HKn
 go_wp2_with fail
 refine (HIn.out _ HB0.out).mono ?_
 rintro e w1 ⟨rfl, hb⟩
 replace HZ := hide (HZ.out.below hb HZ.out.lt)
 replace HB0 := hide (HB0.out.trans (hb.mono HB0.out.size))
 clear hb HIn
 go_wp2_with fail
 refine (HAr.out _ HB0.out).mono ?_
 rintro e w2 ⟨rfl, hb⟩
 replace HZ := hide (HZ.out.below hb HZ.out.lt)
 replace HB0 := hide (HB0.out.trans (hb.mono HB0.out.size))
 clear hb HAr
 obtain ⟨ad, hB, had, e0, e1, e2, e3⟩ := rowd_two (HR.out w (Below.refl _ _))
 subst hB
 have HBd := hide HB0.out.drew
 have HZd := hide (HZ.out.drewN 1)
 have hS0 : w2.drew.cell? ad = some (.slice a.P a.zs.length a.cap) ∧ w2.drew.cell? ⟨ad.block, ad.off + 1, none⟩ = some (.bool a.u) ∧ w2.drew.cell? ⟨ad.block, ad.off + 2, none⟩ = some (.slice b.P b.zs.length b.cap) ∧ w2.drew.cell? ⟨ad.block, ad.off + 3, none⟩ = some (.bool b.u) := ⟨(HBd.out.cell (p := ad) had).trans e0, (HBd.out.cell (p := ⟨ad.block, ad.off + 1, none⟩) had).trans e1, (HBd.out.cell (p := ⟨ad.block, ad.off + 2, none⟩) had).trans e2, (HBd.out.cell (p := ⟨ad.block, ad.off + 3, none⟩) had).trans e3⟩
 have ge0 := (HB0.out.cell (p := ad) had).trans e0
 have ge1 := (HB0.out.cell (p := ⟨ad.block, ad.off + 1, none⟩) had).trans e1
 have ge2 := (HB0.out.cell (p := ⟨ad.block, ad.off + 2, none⟩) had).trans e2
 have ge3 := (HB0.out.cell (p := ⟨ad.block, ad.off + 3, none⟩) had).trans e3
 go_wp2_with fail
 go_region_held3 (fun W => W.cell? ad = some (.slice a.P a.zs.length a.cap) ∧ W.cell? ⟨ad.block, ad.off + 1, none⟩ = some (.bool a.u) ∧ W.cell? ⟨ad.block, ad.off + 2, none⟩ = some (.slice b.P b.zs.length b.cap) ∧ W.cell? ⟨ad.block, ad.off + 3, none⟩ = some (.bool b.u))
  (first | with_reducible exact hS0 | with_reducible exact hS1 | with_reducible exact hS2 | with_reducible assumption)
  (first
   | (go_at_call 98; (with_reducible refine (HV.out _ HBd.out).mono ?_); intro e w5 hD; obtain ⟨⟨d, rfl, hdi, hfr, hdz, hdu⟩, hb⟩ := hD; have hne : ∀ x, d.P = some x → x.block ≠ w.heap.size := (fun x h => Nat.ne_of_gt (Nat.lt_of_lt_of_le (Nat.lt_succ_of_lt HZd.out.lt) (hfr x h))); have HZ5 := hide (HZd.out.below hb HZd.out.lt); have HB5 := hide (HBd.out.trans (hb.mono HBd.out.size)); obtain ⟨z0, z1, zf0, zf1, HZf, HFf⟩ := elm_two HZ5.out HB5.out (Nat.le_refl _) (.slice d.P d.zs.length d.cap) (.bool d.u); have HDI := hide ((hdi.far hne 0 (.slice d.P d.zs.length d.cap)).far hne 1 (.bool d.u)); have HDZ := hide hdz; have HDU := hide hdu; have hS1 : w5.cell? ad = some (.slice a.P a.zs.length a.cap) ∧ w5.cell? ⟨ad.block, ad.off + 1, none⟩ = some (.bool a.u) ∧ w5.cell? ⟨ad.block, ad.off + 2, none⟩ = some (.slice b.P b.zs.length b.cap) ∧ w5.cell? ⟨ad.block, ad.off + 3, none⟩ = some (.bool b.u) := ⟨(HB5.out.cell (p := ad) had).trans e0, (HB5.out.cell (p := ⟨ad.block, ad.off + 1, none⟩) had).trans e1, (HB5.out.cell (p := ⟨ad.block, ad.off + 2, none⟩) had).trans e2, (HB5.out.cell (p := ⟨ad.block, ad.off + 3, none⟩) had).trans e3⟩; have hS2 : ((w5.setCell ⟨w.heap.size, 0, none⟩ (.slice d.P d.zs.length d.cap)).setCell ⟨w.heap.size, 1, none⟩ (.bool d.u)).cell? ad = some (.slice a.P a.zs.length a.cap) ∧ ((w5.setCell ⟨w.heap.size, 0, none⟩ (.slice d.P d.zs.length d.cap)).setCell ⟨w.heap.size, 1, none⟩ (.bool d.u)).cell? ⟨ad.block, ad.off + 1, none⟩ = some (.bool a.u) ∧ ((w5.setCell ⟨w.heap.size, 0, none⟩ (.slice d.P d.zs.length d.cap)).setCell ⟨w.heap.size, 1, none⟩ (.bool d.u)).cell? ⟨ad.block, ad.off + 2, none⟩ = some (.slice b.P b.zs.length b.cap) ∧ ((w5.setCell ⟨w.heap.size, 0, none⟩ (.slice d.P d.zs.length d.cap)).setCell ⟨w.heap.size, 1, none⟩ (.bool d.u)).cell? ⟨ad.block, ad.off + 3, none⟩ = some (.bool b.u) := ⟨(HFf.out.cell (p := ad) had).trans e0, (HFf.out.cell (p := ⟨ad.block, ad.off + 1, none⟩) had).trans e1, (HFf.out.cell (p := ⟨ad.block, ad.off + 2, none⟩) had).trans e2, (HFf.out.cell (p := ⟨ad.block, ad.off + 3, none⟩) had).trans e3⟩; clear hdz hdu hne hfr hdi hb))
 go_wp2_with fail
 refine bodyPost_ret (results_desc rfl _ _ w.heap.size _ _ rfl HZf.out) rfl ?_
 exact ⟨⟨d, by show _ = Ending.returned (.tuple #[.agg (dcells d.P d.zs.length d.cap d.u), Elm.err ah am ar ak _]); rw [Op.err_known (Cv.code_known qs a b)]; rfl, HDI.out, HDZ.out, HDU.out⟩, HFf.out⟩
set_option maxRecDepth 100000 in
set_option maxHeartbeats 4000000 in
theorem opresult_12 (za zb : Int) (a b : Dsc) (A B : Option Addr) (qcap cap : Nat) (ah am ar ak : Addr) (w : World) (hQ : Ri w A [za, zb]) (hR : Row w B ([a, b].flatMap Dsc.vals)) (ha : a.In w) (hb : b.In w) (hE : E4 w ah am ar ak) (hK : Kz w) :
  Calls Tryz.prog 84 #[.int .i64 12, .slice A 2 qcap, .slice B 2 cap] w (OpE w ah am ar ak (Mat.code za zb a b, Mat.shape za zb a b, Mat.kind za zb a b)) := by
 obtain ⟨W0, hW0⟩ : ∃ W, W = w.alloc (.cells #[.slice none 0 0, .bool false] 24) := ⟨_, rfl⟩
 have HZ : Hid (Has W0 w.heap.size 24 [.slice none 0 0, .bool false]) := hide (by rw [hW0]; exact Has.new _ _ _)
 have HB0 : Hid (Below w.heap.size w W0) := hide (by rw [hW0]; exact (Below.refl _ _).alloc (Nat.le_refl _) _)
 have HW := hide hW0
 have HKn := hide (fun W => opknown_c 12 W)
 have HIn := hide (fun W (h : Below w.heap.size w W) => opins_c 12 W (hK.below h))
 have HAr := hide (fun W (h : Below w.heap.size w W) => opargs_c 12 W (hK.below h))
 have HE := hide (fun W (h : Below w.heap.size w W) => hE.below h)
 have HR := hide (fun W (h : Below w.heap.size w W) => hR.below h)
 have HV := hide (fun W (h : Below w.heap.size w W) => mresult_c za zb a b ah am ar W (ha.below h) (hb.below h) (hE.1.below h))
 rw [decide_eq_true (show Op.known 12 by decide)] at HKn
 rw [show Op.ins 12 = 2 from rfl] at HIn
 rw [show Op.args 12 = 2 from rfl] at HAr
 have HQ := hide (fun W (h : Below w.heap.size w W) => hQ.below h)
 clear hb hQ
 clear hE hK hW0 HE hR
 go_enter Tryz.func84, Tryz.ntmps84
 go_wp2_with fail
 rw [← HW.out]
 clear HW
 refine (HKn.out _).mono ?_
 rintro e wq ⟨rfl, hw⟩
 have hw := hw.symm
 subst hw
 clear HKn
 go_wp2_with fail
 refine (HIn.out _ HB0.out).mono ?_
 rintro e w1 ⟨rfl, hb⟩
 replace HZ := hide (HZ.out.below hb HZ.out.lt)
 replace HB0 := hide (HB0.out.trans (hb.mono HB0.out.size))
 clear hb HIn
 go_wp2_with fail
 refine (HAr.out _ HB0.out).mono ?_
 rintro e w2 ⟨rfl, hb⟩
 replace HZ := hide (HZ.out.below hb HZ.out.lt)
 replace HB0 := hide (HB0.out.trans (hb.mono HB0.out.size))
 clear hb HAr
 obtain ⟨ad, hB, had, e0, e1, e2, e3⟩ := rowd_two (HR.out w (Below.refl _ _))
 subst hB
 obtain ⟨aq, hA, f0, f1⟩ := ri_pair (HQ.out w (Below.refl _ _))
 have haq : aq.block < w.heap.size := by obtain ⟨x, h3, h4, -⟩ := (HQ.out w (Below.refl _ _)).2 (by simp); rw [hA] at h3; rw [Option.some.inj h3]; exact h4
 subst hA
 have HBd := hide HB0.out.drew
 have HZd := hide (HZ.out.drewN 1)
 have hS0 : w2.drew.cell? ad = some (.slice a.P a.zs.length a.cap) ∧ w2.drew.cell? ⟨ad.block, ad.off + 1, none⟩ = some (.bool a.u) ∧ w2.drew.cell? ⟨ad.block, ad.off + 2, none⟩ = some (.slice b.P b.zs.length b.cap) ∧ w2.drew.cell? ⟨ad.block, ad.off + 3, none⟩ = some (.bool b.u) ∧ w2.drew.cell? aq = some (.int .i64 za) ∧ w2.drew.cell? ⟨aq.block, aq.off + 1, none⟩ = some (.int .i64 zb) := ⟨(HBd.out.cell (p := ad) had).trans e0, (HBd.out.cell (p := ⟨ad.block, ad.off + 1, none⟩) had).trans e1, (HBd.out.cell (p := ⟨ad.block, ad.off + 2, none⟩) had).trans e2, (HBd.out.cell (p := ⟨ad.block, ad.off + 3, none⟩) had).trans e3, (HBd.out.cell (p := aq) haq).trans f0, (HBd.out.cell (p := ⟨aq.block, aq.off + 1, none⟩) haq).trans f1⟩
 have ge0 := (HB0.out.cell (p := ad) had).trans e0
 have ge1 := (HB0.out.cell (p := ⟨ad.block, ad.off + 1, none⟩) had).trans e1
 have ge2 := (HB0.out.cell (p := ⟨ad.block, ad.off + 2, none⟩) had).trans e2
 have ge3 := (HB0.out.cell (p := ⟨ad.block, ad.off + 3, none⟩) had).trans e3
 have gf0 := (HB0.out.cell (p := aq) haq).trans f0
 have gf1 := (HB0.out.cell (p := ⟨aq.block, aq.off + 1, none⟩) haq).trans f1
 go_wp2_with fail
 go_region_held3 (fun W => W.cell? ad = some (.slice a.P a.zs.length a.cap) ∧ W.cell? ⟨ad.block, ad.off + 1, none⟩ = some (.bool a.u) ∧ W.cell? ⟨ad.block, ad.off + 2, none⟩ = some (.slice b.P b.zs.length b.cap) ∧ W.cell? ⟨ad.block, ad.off + 3, none⟩ = some (.bool b.u) ∧ W.cell? aq = some (.int .i64 za) ∧ W.cell? ⟨aq.block, aq.off + 1, none⟩ = some (.int .i64 zb))
  (first | with_reducible exact hS0 | with_reducible exact hS1 | with_reducible exact hS2 | with_reducible assumption)
  (first
   | (go_at_call 97; (with_reducible refine (HV.out _ HBd.out).mono ?_); intro e w5 hD; obtain ⟨⟨d, rfl, hdi, hfr, hdz, hdu⟩, hb⟩ := hD; have hne : ∀ x, d.P = some x → x.block ≠ w.heap.size := (fun x h => Nat.ne_of_gt (Nat.lt_of_lt_of_le (Nat.lt_succ_of_lt HZd.out.lt) (hfr x h))); have HZ5 := hide (HZd.out.below hb HZd.out.lt); have HB5 := hide (HBd.out.trans (hb.mono HBd.out.size)); obtain ⟨z0, z1, zf0, zf1, HZf, HFf⟩ := elm_two HZ5.out HB5.out (Nat.le_refl _) (.slice d.P d.zs.length d.cap) (.bool d.u); have HDI := hide ((hdi.far hne 0 (.slice d.P d.zs.length d.cap)).far hne 1 (.bool d.u)); have HDZ := hide hdz; have HDU := hide hdu; have hS1 : w5.cell? ad = some (.slice a.P a.zs.length a.cap) ∧ w5.cell? ⟨ad.block, ad.off + 1, none⟩ = some (.bool a.u) ∧ w5.cell? ⟨ad.block, ad.off + 2, none⟩ = some (.slice b.P b.zs.length b.cap) ∧ w5.cell? ⟨ad.block, ad.off + 3, none⟩ = some (.bool b.u) ∧ w5.cell? aq = some (.int .i64 za) ∧ w5.cell? ⟨aq.block, aq.off + 1, none⟩ = some (.int .i64 zb) := ⟨(HB5.out.cell (p := ad) had).trans e0, (HB5.out.cell (p := ⟨ad.block, ad.off + 1, none⟩) had).trans e1, (HB5.out.cell (p := ⟨ad.block, ad.off + 2, none⟩) had).trans e2, (HB5.out.cell (p := ⟨ad.block, ad.off + 3, none⟩) had).trans e3, (HB5.out.cell (p := aq) haq).trans f0, (HB5.out.cell (p := ⟨aq.block, aq.off + 1, none⟩) haq).trans f1⟩; have hS2 : ((w5.setCell ⟨w.heap.size, 0, none⟩ (.slice d.P d.zs.length d.cap)).setCell ⟨w.heap.size, 1, none⟩ (.bool d.u)).cell? ad = some (.slice a.P a.zs.length a.cap) ∧ ((w5.setCell ⟨w.heap.size, 0, none⟩ (.slice d.P d.zs.length d.cap)).setCell ⟨w.heap.size, 1, none⟩ (.bool d.u)).cell? ⟨ad.block, ad.off + 1, none⟩ = some (.bool a.u) ∧ ((w5.setCell ⟨w.heap.size, 0, none⟩ (.slice d.P d.zs.length d.cap)).setCell ⟨w.heap.size, 1, none⟩ (.bool d.u)).cell? ⟨ad.block, ad.off + 2, none⟩ = some (.slice b.P b.zs.length b.cap) ∧ ((w5.setCell ⟨w.heap.size, 0, none⟩ (.slice d.P d.zs.length d.cap)).setCell ⟨w.heap.size, 1, none⟩ (.bool d.u)).cell? ⟨ad.block, ad.off + 3, none⟩ = some (.bool b.u) ∧ ((w5.setCell ⟨w.heap.size, 0, none⟩ (.slice d.P d.zs.length d.cap)).setCell ⟨w.heap.size, 1, none⟩ (.bool d.u)).cell? aq = some (.int .i64 za) ∧ ((w5.setCell ⟨w.heap.size, 0, none⟩ (.slice d.P d.zs.length d.cap)).setCell ⟨w.heap.size, 1, none⟩ (.bool d.u)).cell? ⟨aq.block, aq.off + 1, none⟩ = some (.int .i64 zb) := ⟨(HFf.out.cell (p := ad) had).trans e0, (HFf.out.cell (p := ⟨ad.block, ad.off + 1, none⟩) had).trans e1, (HFf.out.cell (p := ⟨ad.block, ad.off + 2, none⟩) had).trans e2, (HFf.out.cell (p := ⟨ad.block, ad.off + 3, none⟩) had).trans e3, (HFf.out.cell (p := aq) haq).trans f0, (HFf.out.cell (p := ⟨aq.block, aq.off + 1, none⟩) haq).trans f1⟩; clear hdz hdu hne hfr hdi hb))
 go_wp2_with fail
 refine bodyPost_ret (results_desc rfl _ _ w.heap.size _ _ rfl HZf.out) rfl ?_
 exact ⟨⟨d, by show _ = Ending.returned (.tuple #[.agg (dcells d.P d.zs.length d.cap d.u), Elm.err ah am ar ak _]); rw [Op.err_known (Mat.code_known za zb a b)]; rfl, HDI.out, HDZ.out, HDU.out⟩, HFf.out⟩
theorem Op.elem_lens (op : Int) (h : 4 ≤ op ∧ op ≤ 11) : Op.ins op = Elm.nins op ∧ Op.args op = Elm.nargs op := by
 have : op = 4 ∨ op = 5 ∨ op = 6 ∨ op = 7 ∨ op = 8 ∨ op = 9 ∨ op = 10 ∨ op = 11 := by omega
 rcases this with rfl | rfl | rfl | rfl | rfl | rfl | rfl | rfl <;> exact ⟨by decide, by decide⟩
theorem Elm.shape_wf {op : Int} {qs : List Int} {ds : List Dsc} {w : World} (hI : ∀ d ∈ ds, d.In w) : (∀ z ∈ Elm.shape op qs ds, (Lit.int .i64 z).wf = true) ∧ (Elm.shape op qs ds).length ≤ 1000000 := by
 unfold Elm.shape
 split
 ·cases ds with
  | nil => exact ⟨(fun z hz => by cases hz), by simp⟩
  | cons d l => exact ⟨(hI d (List.mem_cons_self ..)).shp.1, (hI d (List.mem_cons_self ..)).ls⟩
 ·exact ⟨(fun z hz => by cases hz), by simp⟩
theorem Elm.shape_none {op : Int} {qs : List Int} {ds : List Dsc} (h : Elm.code op qs ds ≠ 0) : Elm.shape op qs ds = [] := if_neg h
set_option maxRecDepth 100000 in
set_option maxHeartbeats 4000000 in
theorem opresult_elem (op : Int) (hop : 4 ≤ op ∧ op ≤ 11) (qs : List Int) (ds : List Dsc) (A B : Option Addr) (qcap cap : Nat) (ah am ar ak : Addr) (w : World) (hqs : qs.length = Op.args op) (hds : ds.length = Op.ins op) (hQ : Ri w A qs) (hR : Row w B (ds.flatMap Dsc.vals)) (hI : ∀ d ∈ ds, d.In w) (hl : ds.length ≤ 1000000) (hE : E4 w ah am ar ak) (hK : Kz w) :
  Calls Tryz.prog 84 #[.int .i64 op, .slice A qs.length qcap, .slice B ds.length cap] w (OpE w ah am ar ak (Elm.code op qs ds, Elm.shape op qs ds, Elm.kind op qs ds)) := by
 obtain ⟨W0, hW0⟩ : ∃ W, W = w.alloc (.cells #[.slice none 0 0, .bool false] 24) := ⟨_, rfl⟩
 have HZ : Hid (Has W0 w.heap.size 24 [.slice none 0 0, .bool false]) := hide (by rw [hW0]; exact Has.new _ _ _)
 have HB0 : Hid (Below w.heap.size w W0) := hide (by rw [hW0]; exact (Below.refl _ _).alloc (Nat.le_refl _) _)
 have HW := hide hW0
 have HKn := hide (fun W => opknown_c op W)
 have HIn := hide (fun W (h : Below w.heap.size w W) => opins_c op W (hK.below h))
 have HAr := hide (fun W (h : Below w.heap.size w W) => opargs_c op W (hK.below h))
 have HE := hide (fun W (h : Below w.heap.size w W) => hE.below h)
 have HV := hide (fun W (h : Below w.heap.size w W) => result_c op qs ds A B qcap cap ah am ar ak W (hQ.below h) (hR.below h) (fun d hd => (hI d hd).below h) hl (hE.below h))
 rw [decide_eq_true (show Op.known op from ⟨hop.1, by omega⟩)] at HKn
 have HWF := hide (Elm.shape_wf (op := op) (qs := qs) hI)
 have HNO := hide (fun h : Elm.code op qs ds ≠ 0 => Elm.shape_none h)
 obtain ⟨sh, hsh⟩ : ∃ x, Hid (Elm.shape op qs ds = x) := ⟨_, hide rfl⟩
 obtain ⟨kd, hkd⟩ : ∃ x, Hid (Elm.kind op qs ds = x) := ⟨_, hide rfl⟩
 obtain ⟨cd, hcd⟩ : ∃ x, Hid (Elm.code op qs ds = x) := ⟨_, hide rfl⟩
 rw [hsh.out, hkd.out, hcd.out] at HV
 rw [hsh.out] at HWF HNO
 rw [hcd.out] at HNO
 rw [hsh.out, hkd.out, hcd.out]
 obtain ⟨n, hn⟩ : ∃ n, Hid (ds.length = n) := ⟨_, hide rfl⟩
 obtain ⟨m, hm⟩ : ∃ n, Hid (qs.length = n) := ⟨_, hide rfl⟩
 rw [← hds] at HIn
 rw [← hqs] at HAr
 rw [hn.out] at HIn HV ⊢
 rw [hm.out] at HAr HV ⊢
 have hn1 : ((n : Int) != (n : Int)) = false := by simp
 have hm1 : ((m : Int) != (m : Int)) = false := by simp
 have h18 : (op != 18) = true := by simp; omega
 have b12 : (op == 12) = false := by simp; omega
 have b13 : (op == 13) = false := by simp; omega
 have b14 : (op == 14) = false := by simp; omega
 have b15 : (op == 15) = false := by simp; omega
 have b16 : (op == 16) = false := by simp; omega
 have b17 : (op == 17) = false := by simp; omega
 have b19 : (op == 19) = false := by simp; omega
 have b20 : (op == 20) = false := by simp; omega
 have b18 : (op == 18) = false := by simp; omega
 have b21 : (op == 21) = false := by simp; omega
 clear hE hK hW0 HE hQ hR hI hop hqs hds hl
 go_enter Tryz.func84, Tryz.ntmps84
 go_wp2_with fail
 rw [← HW.out]
 clear HW
 refine (HKn.out _).mono ?_
 rintro e wq ⟨rfl, hw⟩
 have hw := hw.symm
 subst hw
 clear HKn
 go_wp2_with fail
 refine (HIn.out _ HB0.out).mono ?_
 rintro e w1 ⟨rfl, hb⟩
 replace HZ := hide (HZ.out.below hb HZ.out.lt)
 replace HB0 := hide (HB0.out.trans (hb.mono HB0.out.size))
 clear hb HIn
 go_wp2_with fail
 refine (HAr.out _ HB0.out).mono ?_
 rintro e w2 ⟨rfl, hb⟩
 replace HZ := hide (HZ.out.below hb HZ.out.lt)
 replace HB0 := hide (HB0.out.trans (hb.mono HB0.out.size))
 clear hb HAr
 go_wp2_with fail
 refine (HV.out _ HB0.out).mono ?_
 rintro e w5 ⟨⟨Q, c, x, rfl, hx, hq⟩, hb⟩
 have HZ5 := hide (HZ.out.below hb HZ.out.lt)
 have HB5 := hide (HB0.out.trans (hb.mono HB0.out.size))
 have hdi : (⟨Q, sh, c, kd⟩ : Dsc).In w5 ∧ (cd = 0 → ∀ x, Q = some x → x.block ≠ w.heap.size) ∧ (cd ≠ 0 → sh = []) := by
  refine ⟨⟨?_, HWF.out.2⟩, fun h x hx => ?_, HNO.out⟩
  ·by_cases h : cd = 0
   ·obtain ⟨g, rest, rfl, -, -, -, hG⟩ := hq h
    exact hG.ri_app HWF.out.1
   ·rw [show (⟨Q, sh, c, kd⟩ : Dsc).zs = [] from HNO.out h]
    exact Ri.nil _ _
  ·obtain ⟨g, rest, rfl, hg, -⟩ := hq h
   cases hx
   have := HZ.out.lt
   show g ≠ _
   omega
 obtain ⟨z0, z1, zf0, zf1, HZf, HFf⟩ := elm_two HZ5.out HB5.out (Nat.le_refl _) (.slice Q sh.length c) (.bool kd)
 have HDI : Hid ((⟨Q, sh, c, kd⟩ : Dsc).In ((w5.setCell ⟨w.heap.size, 0, none⟩ (.slice Q sh.length c)).setCell ⟨w.heap.size, 1, none⟩ (.bool kd))) := hide (by
  by_cases h : cd = 0
  ·exact (hdi.1.far (hdi.2.1 h) 0 _).far (hdi.2.1 h) 1 _
  ·refine ⟨?_, hdi.1.ls⟩
   rw [show (⟨Q, sh, c, kd⟩ : Dsc).zs = [] from hdi.2.2 h]
   exact Ri.nil _ _)
 subst hx
 clear hb hdi hq HZ HB0 HV HWF HNO
 go_wp2_with fail
 refine bodyPost_ret (results_desc rfl _ _ w.heap.size _ _ rfl HZf.out) rfl ?_
 exact ⟨⟨⟨Q, sh, c, kd⟩, rfl, HDI.out, rfl, rfl⟩, HFf.out⟩
set_option maxRecDepth 100000 in
theorem opresult_c (op : Int) (qs : List Int) (ds : List Dsc) (A B : Option Addr) (qcap cap : Nat) (ah am ar ak : Addr) (w : World) (hQ : Ri w A qs) (hql : qs.length ≤ 1000000) (hR : Row w B (ds.flatMap Dsc.vals)) (hI : ∀ d ∈ ds, d.In w) (hl : ds.length ≤ 1000000) (hE : E4 w ah am ar ak) (hK : Kz w) :
  Calls Tryz.prog 84 #[.int .i64 op, .slice A qs.length qcap, .slice B ds.length cap] w (OpE w ah am ar ak (Op.look op qs ds)) := by
 by_cases hk : Op.known op
 case neg =>
  have e : Op.look op qs ds = (103, [], false) := if_pos hk
  rw [e]
  exact opresult_unknown op qs ds A B qcap cap ah am ar ak w hk hE
 case pos =>
 by_cases hf : Op.fits op qs ds
 case neg =>
  have e : Op.look op qs ds = (101, [], false) := by unfold Op.look; rw [if_neg (fun h => h hk), if_pos hf]
  rw [e]
  exact opresult_lens op qs ds A B qcap cap ah am ar ak w hk hf hE hK
 case pos =>
 have e : Op.look op qs ds = Op.look2 op qs ds := by unfold Op.look; rw [if_neg (fun h => h hk), if_neg (fun h => h hf)]
 rw [e]
 obtain ⟨h1, h2⟩ := hf
 by_cases h11 : op ≤ 11
 ·have e2 : Op.look2 op qs ds = (Elm.code op qs ds, Elm.shape op qs ds, Elm.kind op qs ds) := if_pos h11
  rw [e2]
  exact opresult_elem op ⟨hk.1, h11⟩ qs ds A B qcap cap ah am ar ak w (h2 (by omega)) h1 hQ hR hI hl hE hK
 have hk2 := hk.2
 have : op = 12 ∨ op = 13 ∨ op = 14 ∨ op = 15 ∨ op = 16 ∨ op = 17 ∨ op = 18 ∨ op = 19 ∨ op = 20 ∨ op = 21 := by omega
 clear h11 hk hk2 e
 rcases this with rfl | rfl | rfl | rfl | rfl | rfl | rfl | rfl | rfl | rfl
 ·have h1 : ds.length = 2 := h1
  have h2 : qs.length = 2 := h2 (by decide)
  match ds, h1, qs, h2 with
  | [a, b], _, [za, zb], _ => exact opresult_12 za zb a b A B qcap cap ah am ar ak w hQ hR (hI a (by simp)) (hI b (by simp)) hE hK
 ·have h1 : ds.length = 2 := h1
  have h2 : qs.length = 3 := h2 (by decide)
  rw [h2]
  match ds, h1 with
  | [a, b], _ => exact opresult_13 qs a b A B qcap cap ah am ar ak w hQ h2 hR (hI a (by simp)) (hI b (by simp)) hE hK
 ·have h1 : ds.length = 1 := h1
  have h2 : qs.length = 2 := h2 (by decide)
  rw [h2]
  match ds, h1 with
  | [a], _ => exact opresult_14 qs a A B qcap cap ah am ar ak w hQ h2 hR (hI a (by simp)) hE hK
 ·have h1 : ds.length = 1 := h1
  have h2 : qs.length = 2 := h2 (by decide)
  rw [h2]
  match ds, h1 with
  | [a], _ => exact opresult_15 qs a A B qcap cap ah am ar ak w hQ h2 hR (hI a (by simp)) hE hK
 ·have h1 : ds.length = 2 := h1
  have h2 : qs.length = 0 := h2 (by decide)
  rw [h2, h1]
  exact opresult_16 ds A B qcap cap ah am ar ak w h1 hR hI hE hK
 ·have h1 : ds.length = 2 := h1
  have h2 : qs.length = 0 := h2 (by decide)
  rw [h2, h1]
  exact opresult_17 ds A B qcap cap ah am ar ak w h1 hR hI hE hK
 ·have h1 : ds.length = 1 := h1
  match ds, h1 with
  | [a], _ => exact opresult_18 qs a A B qcap cap ah am ar ak w hQ hql hR (hI a (by simp)) hE hK
 ·have h1 : ds.length = 1 := h1
  have h2 : qs.length = 0 := h2 (by decide)
  rw [h2, h1]
  exact opresult_19 ds A B qcap cap ah am ar ak w h1 hR hI hE hK
 ·have h1 : ds.length = 1 := h1
  have h2 : qs.length = 0 := h2 (by decide)
  rw [h2, h1]
  exact opresult_20 ds A B qcap cap ah am ar ak w h1 hR hI hE hK
 ·have h1 : ds.length = 1 := h1
  have h2 : qs.length = 0 := h2 (by decide)
  rw [h2]
  match ds, h1 with
  | [a], _ => exact opresult_21 a A B qcap cap ah am ar ak w hR (hI a (by simp)) hE hK
end Go.Proofs.YtgdcfjmpjhlndaaGreatDoor
