/-
  The reference's Result of each operation, walked: lodgeref3.seen, MatResult, ConvResult, PoolResult, Known, Ins, Args, Result of MatMul, Turn, Conv, the pools. By an AI agent. No person has read it.
-/
import Derived.Test.YtgdcfjmpjhlndaaGreatDoorZOElmN
import Derived.Test.YtgdcfjmpjhlndaaGreatDoorZOCelC
import Derived.Test.YtgdcfjmpjhlndaaGreatDoorZOMatN
import Derived.Test.YtgdcfjmpjhlndaaGreatDoorZOElmS
import Derived.Test.YtgdcfjmpjhlndaaGreatDoorZOErrB
import Derived.Test.YtgdcfjmpjhlndaaGreatDoorZOCnvC
import Derived.Test.YtgdcfjmpjhlndaaGreatDoorZOPolE
import Derived.RegionTactic
namespace Go.Proofs.YtgdcfjmpjhlndaaGreatDoor
open Go.RowKit
def RefE (w : World) (zs : List Int) (u : Bool) (k : Nat) (e : Ending) (w' : World) : Prop :=
 (∃ d : Dsc, e = .returned (.tuple #[.agg (dcells d.P d.zs.length d.cap d.u), .int .i64 (k : Nat)]) ∧ d.In w' ∧ d.Fresh w.heap.size ∧ d.zs = zs ∧ d.u = u) ∧ Below w.heap.size w w'
theorem RefE.bad {w W : World} {k : Nat} {e : Ending} (he : e = .returned (.tuple #[.agg (dcells none 0 0 false), .int .i64 (k : Nat)])) (hb : Below w.heap.size w W) : RefE w [] false k e W :=
 ⟨⟨⟨none, [], 0, false⟩, he, ⟨Ri.nil _ _, by simp⟩, (fun ad h => by cases h), rfl, rfl⟩, hb⟩
def Rf.zs (d : Dsc) : List Int := if Shp.code d.zs = 0 then d.zs else []
def Rf.u (d : Dsc) : Bool := if Shp.code d.zs = 0 then d.u else false
set_option maxRecDepth 100000 in
set_option maxHeartbeats 4000000 in
theorem seen_c (d : Dsc) (w : World) (hd : d.In w) :
  Calls Tryz.prog 50 #[.agg (dcells d.P d.zs.length d.cap d.u)] w (RefE w (Rf.zs d) (Rf.u d) (Shp.code d.zs)) := by
 obtain ⟨W0, hW0⟩ : ∃ W, W = (w.alloc (.cells #[.slice d.P d.zs.length d.cap, .bool d.u] 24)).alloc (.cells #[.slice none 0 0, .bool false] 24) := ⟨_, rfl⟩
 have HA : Hid (Has W0 w.heap.size 24 [.slice d.P d.zs.length d.cap, .bool d.u]) := hide (by rw [hW0]; exact (Has.new w 24 _).alloc _)
 have HZ : Hid (Has W0 (w.heap.size + 1) 24 [.slice none 0 0, .bool false]) := hide (by rw [hW0]; exact box_at _ _ _ _ (by simp))
 have HB : Hid (Below w.heap.size w W0) := hide (by rw [hW0]; exact ((Below.refl _ _).alloc (Nat.le_refl _) _).alloc (by simp) _)
 have HV := hide (refvalid_c d.zs d.P d.cap d.u W0 (hd.shp.below HB.out) (by have := hd.ls; omega))
 have HD := hide (fun W (h : Below w.heap.size w W) => rdesc_c d.zs d.P d.cap d.u W (hd.shp.below h) hd.ls)
 have HL := hide hd.ls
 have HWf := hide hd.shp.1
 obtain ⟨n, hn⟩ : ∃ n, Hid (d.zs.length = n) := ⟨_, hide rfl⟩
 obtain ⟨k, hk⟩ : ∃ k, Hid (Shp.code d.zs = k) := ⟨_, hide rfl⟩
 have HR1 : Hid (k = 0 → Rf.zs d = d.zs ∧ Rf.u d = d.u) := hide (fun h => by unfold Rf.zs Rf.u; rw [hk.out, if_pos h, if_pos h]; exact ⟨rfl, rfl⟩)
 have HR2 : Hid (k ≠ 0 → Rf.zs d = [] ∧ Rf.u d = false) := hide (fun h => by unfold Rf.zs Rf.u; rw [hk.out, if_neg h, if_neg h]; exact ⟨rfl, rfl⟩)
 have hkc := Shp.code_is d.zs
 rw [hk.out] at HV hkc ⊢
 have HW := hide hW0
 have HLn : Hid (d.zs.length = n) := hn
 rw [hn.out] at HA HV HD HW ⊢
 have c0 := HA.out.cell 0
 have c1 := HA.out.cell 1
 clear hd hW0
 go_enter Tryz.func50, Tryz.ntmps50
 go_wp2_with fail
 rw [← HW.out]
 clear HW c0 c1
 refine HV.out.mono ?_
 rintro e w1 ⟨rfl, hb⟩
 replace HA := hide (HA.out.below hb HA.out.lt)
 replace HZ := hide (HZ.out.below hb HZ.out.lt)
 replace HB := hide (HB.out.trans (hb.mono HB.out.size))
 clear hb HV
 by_cases h0 : k = 0
 case neg =>
  obtain ⟨e1, e2⟩ := HR2.out h0
  have h1 : ((k : Int) == 0) = false := by simp; omega
  have h2 : ((k : Int) != 0) = true := by simp; omega
  obtain ⟨z0, z1, zf0, zf1, HZf, HFf⟩ := elm_two HZ.out HB.out (Nat.le_add_right _ 1) (.slice none 0 0) (.bool false)
  have HE1 := hide e1
  have HE2 := hide e2
  clear e1 e2 hkc h0
  go_wp2_with fail
  refine bodyPost_ret (results_desc rfl _ _ (w.heap.size + 1) _ _ rfl HZf.out) rfl ?_
  rw [HE1.out, HE2.out]
  exact RefE.bad rfl HFf.out
 case pos =>
  subst h0
  obtain ⟨e1, e2⟩ := HR1.out rfl
  have HE1 := hide e1
  have HE2 := hide e2
  have c0 := HA.out.cell 0
  have c1 := HA.out.cell 1
  clear hkc e1 e2
  go_wp2_with fail
  clear c0 c1
  refine (HD.out _ HB.out).mono ?_
  rintro e w2 ⟨⟨g, c, rest, rfl, hg, hC⟩, hb⟩
  have hz := HZ.out.below hb HZ.out.lt
  have hB := HB.out.trans (hb.mono HB.out.size)
  have hgs := HB.out.size
  have hzl := HZ.out.lt
  obtain ⟨z0, z1, zf0, zf1, HZf, HFf⟩ := elm_two hz hB (Nat.le_add_right _ 1) (.slice (some ⟨g, 0, none⟩) n c) (.bool d.u)
  have HC2 := hide ((hC.far (p := ⟨w.heap.size + 1, 0, none⟩) (by show g ≠ w.heap.size + 1; omega) (.slice (some ⟨g, 0, none⟩) n c)).far (p := ⟨w.heap.size + 1, 1, none⟩) (by show g ≠ w.heap.size + 1; omega) (.bool d.u))
  have hg2 : w.heap.size ≤ g := by omega
  clear hz hB hb hgs hzl hC
  go_wp2_with fail
  refine bodyPost_ret (results_desc rfl _ _ (w.heap.size + 1) _ _ rfl HZf.out) rfl ?_
  rw [HE1.out, HE2.out]
  exact ⟨⟨⟨some ⟨g, 0, none⟩, d.zs, c, d.u⟩, by rw [HLn.out]; rfl, ⟨HC2.out.ri_app HWf.out, HL.out⟩, (fun ad h => by cases h; exact hg2), rfl, rfl⟩, HFf.out⟩
theorem Tens.fit_narrow (n : Int) : Tens.fit false n = decide (Tens.narrow n = n) := by
 unfold Tens.fit Tens.narrow
 rw [if_neg (by decide)]
 by_cases h : -128 ≤ n ∧ n ≤ 127
 ·rw [decide_eq_true h, decide_eq_true (by omega)]
 ·rw [decide_eq_false h, decide_eq_false (by omega)]
abbrev RmS (p0 p1 p2 p3 : Addr) (v0 v1 v2 v3 : Value) (W : World) : Prop := W.cell? p0 = some v0 ∧ W.cell? p1 = some v1 ∧ W.cell? p2 = some v2 ∧ W.cell? p3 = some v3
theorem RmS.keep {p0 p1 p2 p3 : Addr} {v0 v1 v2 v3 : Value} {W W' : World} (h : RmS p0 p1 p2 p3 v0 v1 v2 v3 W) (l0 : p0.block < W.heap.size) (l1 : p1.block < W.heap.size) (l2 : p2.block < W.heap.size) (l3 : p3.block < W.heap.size) (hB : Below W.heap.size W W') : RmS p0 p1 p2 p3 v0 v1 v2 v3 W' := by
 obtain ⟨h0, h1, h2, h3⟩ := h
 exact ⟨(hB.cell l0).trans h0, (hB.cell l1).trans h1, (hB.cell l2).trans h2, (hB.cell l3).trans h3⟩
theorem RmS.far2 {p0 p1 p2 p3 : Addr} {v0 v1 v2 v3 : Value} {W : World} (h : RmS p0 p1 p2 p3 v0 v1 v2 v3 W) {b : Nat} (l0 : b ≠ p0.block) (l1 : b ≠ p1.block) (l2 : b ≠ p2.block) (l3 : b ≠ p3.block) (x y : Value) : RmS p0 p1 p2 p3 v0 v1 v2 v3 ((W.setCell ⟨b, 0, none⟩ x).setCell ⟨b, 1, none⟩ y) := by
 obtain ⟨h0, h1, h2, h3⟩ := h
 have f : ∀ (V : World) (p : Addr) (i : Nat) (z v : Value), b ≠ p.block → V.cell? p = some v → (V.setCell ⟨b, i, none⟩ z).cell? p = some v := fun V p i z v hn hc => by
  rw [World.cell?_setCell_far _ _ _ _ (by exact hn)]
  exact hc
 exact ⟨f _ _ _ _ _ l0 (f _ _ _ _ _ l0 h0), f _ _ _ _ _ l1 (f _ _ _ _ _ l1 h1), f _ _ _ _ _ l2 (f _ _ _ _ _ l2 h2), f _ _ _ _ _ l3 (f _ _ _ _ _ l3 h3)⟩
set_option maxRecDepth 100000 in
set_option maxHeartbeats 8000000 in
theorem rmat_c (za zb : Int) (a b : Dsc) (w : World) (ha : a.In w) (hb : b.In w) :
  Calls Tryz.prog 67 #[.int .i64 za, .int .i64 zb, .agg (dcells a.P a.zs.length a.cap a.u), .agg (dcells b.P b.zs.length b.cap b.u)] w (RefE w (Mat.shape za zb a b) (Mat.kind za zb a b) (Mat.code za zb a b)) := by
 obtain ⟨W0, hW0⟩ : ∃ W, W = ((((w.alloc (.cells #[.slice a.P a.zs.length a.cap, .bool a.u] 24)).alloc (.cells #[.slice b.P b.zs.length b.cap, .bool b.u] 24)).alloc (.cells #[.slice none 0 0, .bool false] 24)).alloc (.cells #[.slice a.P a.zs.length a.cap, .bool a.u, .slice b.P b.zs.length b.cap, .bool b.u] 24)) := ⟨_, rfl⟩
 have HA : Hid (Has W0 w.heap.size 24 [.slice a.P a.zs.length a.cap, .bool a.u]) := hide (by rw [hW0]; exact (((Has.new w 24 _).alloc _).alloc _).alloc _)
 have HB : Hid (Has W0 (w.heap.size + 1) 24 [.slice b.P b.zs.length b.cap, .bool b.u]) := hide (by rw [hW0]; exact ((box_at _ _ _ _ (by simp)).alloc _).alloc _)
 have HZ : Hid (Has W0 (w.heap.size + 2) 24 [.slice none 0 0, .bool false]) := hide (by rw [hW0]; exact (box_at _ _ _ _ (by simp)).alloc _)
 have HS : Hid (Has W0 (w.heap.size + 3) 24 ([a, b].flatMap Dsc.vals)) := hide (by rw [hW0]; exact box_at _ _ _ _ (by simp))
 have HB0 : Hid (Below w.heap.size w W0) := hide (by rw [hW0]; exact ((((Below.refl _ _).alloc (Nat.le_refl _) _).alloc (by simp) _).alloc (by simp; omega) _).alloc (by simp; omega) _)
 have HW := hide hW0
 have HDS := hide (descs_c [a, b] (some ⟨w.heap.size + 3, 0, none⟩) 2 W0 HS.out.row (fun d hd => by
  simp at hd
  rcases hd with rfl | rfl
  ·exact ha.below HB0.out
  ·exact hb.below HB0.out) (by simp))
 have HIa := hide (fun W (h : Below w.heap.size w W) => ha.shp.below h)
 have HIb := hide (fun W (h : Below w.heap.size w W) => hb.shp.below h)
 have HNW := hide (fun n W => rnarrow_c n W)
 obtain ⟨F, hF⟩ : ∃ n, Hid (Shp.firstbad [a, b] = n) := ⟨_, hide rfl⟩
 rw [hF.out] at HDS
 clear ha hb hW0 HS
 go_enter Tryz.func67, Tryz.ntmps67
 go_wp2_with fail
 rw [← HW.out]
 clear HW
 refine HDS.out.mono ?_
 rintro e w1 ⟨rfl, hb⟩
 replace HA := hide (HA.out.below hb HA.out.lt)
 replace HB := hide (HB.out.below hb HB.out.lt)
 replace HZ := hide (HZ.out.below hb HZ.out.lt)
 replace HB0 := hide (HB0.out.trans (hb.mono HB0.out.size))
 clear hb HDS
 by_cases h0 : F = 0
 case neg =>
  have hcd : Mat.code za zb a b = F := by
   unfold Mat.code
   rw [hF.out, if_pos h0]
  obtain ⟨e1, e2⟩ := Mat.bad (by rw [hcd]; exact h0)
  have HD1 := hide e1
  have HD2 := hide e2
  have HCD := hide hcd
  have h1 : ((F : Int) == 0) = false := by simp; omega
  have h2 : ((F : Int) != 0) = true := by simp; omega
  clear e1 e2 hcd h0
  obtain ⟨z0, z1, zf0, zf1, HZf, HFf⟩ := elm_two HZ.out HB0.out (Nat.le_add_right _ 2) (.slice none 0 0) (.bool false)
  go_wp2_with fail
  refine bodyPost_ret (results_desc rfl _ _ (w.heap.size + 2) _ _ rfl HZf.out) rfl ?_
  rw [HD1.out, HD2.out, HCD.out]
  exact RefE.bad rfl HFf.out
 case pos =>
 subst h0
 have HFB := hF
 have hcode : ∀ k, (¬ (a.u = true ∨ b.u = true ∨ a.zs.length ≠ 2 ∨ b.zs.length ≠ 2 ∨ a.zs.getD 1 0 ≠ b.zs.getD 0 0) → False) → k = 101 → Mat.code za zb a b = k := fun k h hk => by
  unfold Mat.code
  rw [if_neg (by rw [HFB.out]; simp), if_pos (Classical.byContradiction h), hk]
 have HC101 : Hid (¬ (¬ (a.u = true ∨ b.u = true ∨ a.zs.length ≠ 2 ∨ b.zs.length ≠ 2 ∨ a.zs.getD 1 0 ≠ b.zs.getD 0 0)) → Mat.code za zb a b = 101 ∧ Mat.shape za zb a b = [] ∧ Mat.kind za zb a b = false) := hide (fun h => by
  have h1 := hcode 101 h rfl
  have h2 := Mat.bad (by rw [h1]; decide)
  exact ⟨h1, h2.1, h2.2⟩)
 have HC102 : Hid (¬ (a.u = true ∨ b.u = true ∨ a.zs.length ≠ 2 ∨ b.zs.length ≠ 2 ∨ a.zs.getD 1 0 ≠ b.zs.getD 0 0) → (Tens.narrow za ≠ za ∨ Tens.narrow zb ≠ zb) → Mat.code za zb a b = 102 ∧ Mat.shape za zb a b = [] ∧ Mat.kind za zb a b = false) := hide (fun h h' => by
  have h1 : Mat.code za zb a b = 102 := by
   unfold Mat.code
   rw [if_neg (by rw [HFB.out]; simp), if_neg h, if_pos h']
  have h2 := Mat.bad (by rw [h1]; decide)
  exact ⟨h1, h2.1, h2.2⟩)
 clear hcode
 obtain ⟨na, hna⟩ : ∃ n, Hid (a.zs.length = n) := ⟨_, hide rfl⟩
 obtain ⟨nb, hnb⟩ : ∃ n, Hid (b.zs.length = n) := ⟨_, hide rfl⟩
 rw [hna.out, hnb.out] at HC101 HC102
 rw [hna.out] at HA
 rw [hnb.out] at HB
 obtain ⟨ua, hua⟩ : ∃ n, Hid (a.u = n) := ⟨_, hide rfl⟩
 obtain ⟨ub, hub⟩ : ∃ n, Hid (b.u = n) := ⟨_, hide rfl⟩
 rw [hua.out, hub.out] at HC101 HC102
 rw [hua.out] at HA
 rw [hub.out] at HB
 have a0 : w1.cell? ⟨w.heap.size, 0, none⟩ = some (.slice a.P na a.cap) := HA.out.cell 0
 have a1 : w1.cell? ⟨w.heap.size, 1, none⟩ = some (.bool ua) := HA.out.cell 1
 have b0 : w1.cell? ⟨w.heap.size + 1, 0, none⟩ = some (.slice b.P nb b.cap) := HB.out.cell 0
 have b1 : w1.cell? ⟨w.heap.size + 1, 1, none⟩ = some (.bool ub) := HB.out.cell 1
 have hq1 : ((0 : Int) == 0) = true := rfl
 have hq2 : ((0 : Int) != 0) = false := rfl
 go_wp2_with fail
 clear hq1 hq2
 by_cases h1 : na = 2
 case neg =>
  have i1 : ((na : Int) == 2) = false := by simp; omega
  have i2 : ((na : Int) != 2) = true := by simp; omega
  obtain ⟨e0, e1, e2⟩ := HC101.out (by exact fun h => h (.inr (.inr (.inl h1))))
  have HCD := hide e0
  have HD1 := hide e1
  have HD2 := hide e2
  clear e0 e1 e2 HC101
  go_quiet (fail)
  clear a0 a1 b0 b1
  replace HZ := hide (HZ.out.drewN nq)
  replace HB0 := hide (below_drewN HB0.out nq)
  generalize w1.drewN nq = W3 at *
  obtain ⟨z0, z1, zf0, zf1, HZf, HFf⟩ := elm_two HZ.out HB0.out (Nat.le_add_right _ 2) (.slice none 0 0) (.bool false)
  go_wp2_with fail
  refine bodyPost_ret (results_desc rfl _ _ (w.heap.size + 2) _ _ rfl HZf.out) rfl ?_
  rw [HD1.out, HD2.out, HCD.out]
  exact RefE.bad rfl HFf.out
 case pos =>
 subst h1
 by_cases h2 : nb = 2
 case neg =>
  have i1 : ((nb : Int) == 2) = false := by simp; omega
  have i2 : ((nb : Int) != 2) = true := by simp; omega
  obtain ⟨e0, e1, e2⟩ := HC101.out (by exact fun h => h (.inr (.inr (.inr (.inl h2)))))
  have HCD := hide e0
  have HD1 := hide e1
  have HD2 := hide e2
  clear e0 e1 e2 HC101
  go_quiet (fail)
  clear a0 a1 b0 b1
  replace HZ := hide (HZ.out.drewN nq)
  replace HB0 := hide (below_drewN HB0.out nq)
  generalize w1.drewN nq = W3 at *
  obtain ⟨z0, z1, zf0, zf1, HZf, HFf⟩ := elm_two HZ.out HB0.out (Nat.le_add_right _ 2) (.slice none 0 0) (.bool false)
  go_wp2_with fail
  refine bodyPost_ret (results_desc rfl _ _ (w.heap.size + 2) _ _ rfl HZf.out) rfl ?_
  rw [HD1.out, HD2.out, HCD.out]
  exact RefE.bad rfl HFf.out
 case pos =>
 subst h2
 cases ua
 case true =>
  obtain ⟨e0, e1, e2⟩ := HC101.out (by exact fun h => h (.inl rfl))
  have HCD := hide e0
  have HD1 := hide e1
  have HD2 := hide e2
  clear e0 e1 e2 HC101
  go_quiet (fail)
  clear a0 a1 b0 b1
  replace HZ := hide (HZ.out.drewN nq)
  replace HB0 := hide (below_drewN HB0.out nq)
  generalize w1.drewN nq = W3 at *
  obtain ⟨z0, z1, zf0, zf1, HZf, HFf⟩ := elm_two HZ.out HB0.out (Nat.le_add_right _ 2) (.slice none 0 0) (.bool false)
  go_wp2_with fail
  refine bodyPost_ret (results_desc rfl _ _ (w.heap.size + 2) _ _ rfl HZf.out) rfl ?_
  rw [HD1.out, HD2.out, HCD.out]
  exact RefE.bad rfl HFf.out
 case false =>
 cases ub
 case true =>
  obtain ⟨e0, e1, e2⟩ := HC101.out (by exact fun h => h (.inr (.inl rfl)))
  have HCD := hide e0
  have HD1 := hide e1
  have HD2 := hide e2
  clear e0 e1 e2 HC101
  go_quiet (fail)
  clear a0 a1 b0 b1
  replace HZ := hide (HZ.out.drewN nq)
  replace HB0 := hide (below_drewN HB0.out nq)
  generalize w1.drewN nq = W3 at *
  obtain ⟨z0, z1, zf0, zf1, HZf, HFf⟩ := elm_two HZ.out HB0.out (Nat.le_add_right _ 2) (.slice none 0 0) (.bool false)
  go_wp2_with fail
  refine bodyPost_ret (results_desc rfl _ _ (w.heap.size + 2) _ _ rfl HZf.out) rfl ?_
  rw [HD1.out, HD2.out, HCD.out]
  exact RefE.bad rfl HFf.out
 case false =>
 obtain ⟨x0, x1, hax⟩ : ∃ x y, Hid (a.zs = [x, y]) := by
  match hz : a.zs, hna.out with
  | [x, y], _ => exact ⟨x, y, hide rfl⟩
 obtain ⟨y0, y1, hbx⟩ : ∃ x y, Hid (b.zs = [x, y]) := by
  match hz : b.zs, hnb.out with
  | [x, y], _ => exact ⟨x, y, hide rfl⟩
 have hra := HIa.out w1 HB0.out
 have hrb := HIb.out w1 HB0.out
 rw [hax.out] at hra HC101 HC102
 rw [hbx.out] at hrb HC101 HC102
 obtain ⟨pa, epa, p0, p1⟩ := ri_pair hra
 obtain ⟨pb, epb, q0, q1⟩ := ri_pair hrb
 have HPL : Hid (pa.block < w.heap.size) := hide (by obtain ⟨ad, h1, h2, -⟩ := (HIa.out w (Below.refl _ _)).2 (by rw [hax.out]; simp); rw [epa] at h1; rw [Option.some.inj h1]; exact h2)
 have HQL : Hid (pb.block < w.heap.size) := hide (by obtain ⟨ad, h1, h2, -⟩ := (HIb.out w (Below.refl _ _)).2 (by rw [hbx.out]; simp); rw [epb] at h1; rw [Option.some.inj h1]; exact h2)
 have hpl1 : pa.block < w1.heap.size := by obtain ⟨ad, h1, h2, -⟩ := hra.2 (by simp); rw [epa] at h1; rw [Option.some.inj h1]; exact h2
 have hpl2 : pb.block < w1.heap.size := by obtain ⟨ad, h1, h2, -⟩ := hrb.2 (by simp); rw [epb] at h1; rw [Option.some.inj h1]; exact h2
 have HWF : Hid (∀ q ∈ [x0, y1], (Lit.int .i64 q).wf = true) := hide (by
  intro q hq
  simp at hq
  rcases hq with rfl | rfl
  ·exact hra.1 _ (by simp)
  ·exact hrb.1 _ (by simp))
 rw [epa] at a0 HA
 rw [epb] at b0 HB
 clear epa epb hra hrb
 by_cases hxy : x1 = y0
 case neg =>
  have i1 : (x1 == y0) = false := by simpa using hxy
  have i2 : (x1 != y0) = true := by simpa using hxy
  obtain ⟨e0, e1, e2⟩ := HC101.out (by exact fun h => h (.inr (.inr (.inr (.inr (by simpa using hxy))))))
  have HCD := hide e0
  have HD1 := hide e1
  have HD2 := hide e2
  clear e0 e1 e2 HC101
  go_quiet (fail)
  clear a0 a1 b0 b1 p0 p1 q0 q1 hpl1 hpl2
  replace HZ := hide (HZ.out.drewN nq)
  replace HB0 := hide (below_drewN HB0.out nq)
  generalize w1.drewN nq = W3 at *
  obtain ⟨z0, z1, zf0, zf1, HZf, HFf⟩ := elm_two HZ.out HB0.out (Nat.le_add_right _ 2) (.slice none 0 0) (.bool false)
  go_wp2_with fail
  refine bodyPost_ret (results_desc rfl _ _ (w.heap.size + 2) _ _ rfl HZf.out) rfl ?_
  rw [HD1.out, HD2.out, HCD.out]
  exact RefE.bad rfl HFf.out
 case pos =>
 subst hxy
 have i1 : (x1 == x1) = true := by simp
 have i2 : (x1 != x1) = false := by simp
 have HNO : Hid (¬ (false = true ∨ false = true ∨ 2 ≠ 2 ∨ 2 ≠ 2 ∨ [x0, x1].getD 1 0 ≠ [x1, y1].getD 0 0)) := hide (by simp)
 go_quiet (fail)
 have p0' : (w1.drewN nq).cell? pa = _ := p0
 have q1' : (w1.drewN nq).cell? ⟨pb.block, pb.off + 1, none⟩ = _ := q1
 have hpal : pa.block < (w1.drewN nq).heap.size := hpl1
 have hpbl : pb.block < (w1.drewN nq).heap.size := hpl2
 clear hpl1 hpl2 i1 i2
 clear a0 a1 b0 b1 p0 p1 q0 q1
 replace HZ := hide (HZ.out.drewN nq)
 replace HA := hide (HA.out.drewN nq)
 replace HB := hide (HB.out.drewN nq)
 replace HB0 := hide (below_drewN HB0.out nq)
 generalize w1.drewN nq = W3 at *
 go_wp2_with fail
 refine (HNW.out za W3).mono ?_
 rintro e wq ⟨rfl, hw⟩
 have hw := hw.symm
 subst hw
 rw [Tens.fit_narrow]
 by_cases hza : Tens.narrow za = za
 case neg =>
  rw [decide_eq_false hza]
  obtain ⟨e0, e1, e2⟩ := HC102.out HNO.out (.inl hza)
  have HCD := hide e0
  have HD1 := hide e1
  have HD2 := hide e2
  clear e0 e1 e2 HC102 hza
  obtain ⟨z0, z1, zf0, zf1, HZf, HFf⟩ := elm_two HZ.out HB0.out (Nat.le_add_right _ 2) (.slice none 0 0) (.bool false)
  go_wp2_with fail
  refine bodyPost_ret (results_desc rfl _ _ (w.heap.size + 2) _ _ rfl HZf.out) rfl ?_
  rw [HD1.out, HD2.out, HCD.out]
  exact RefE.bad rfl HFf.out
 case pos =>
 rw [decide_eq_true hza]
 go_wp2_with fail
 refine (HNW.out zb W3).mono ?_
 rintro e wq ⟨rfl, hw⟩
 have hw := hw.symm
 subst hw
 rw [Tens.fit_narrow]
 by_cases hzb : Tens.narrow zb = zb
 case neg =>
  rw [decide_eq_false hzb]
  obtain ⟨e0, e1, e2⟩ := HC102.out HNO.out (.inr hzb)
  have HCD := hide e0
  have HD1 := hide e1
  have HD2 := hide e2
  clear e0 e1 e2 HC102 hza hzb
  obtain ⟨z0, z1, zf0, zf1, HZf, HFf⟩ := elm_two HZ.out HB0.out (Nat.le_add_right _ 2) (.slice none 0 0) (.bool false)
  go_wp2_with fail
  refine bodyPost_ret (results_desc rfl _ _ (w.heap.size + 2) _ _ rfl HZf.out) rfl ?_
  rw [HD1.out, HD2.out, HCD.out]
  exact RefE.bad rfl HFf.out
 case pos =>
 rw [decide_eq_true hzb]
 have HCK : Hid (Mat.code za zb a b = Shp.code [x0, y1]) := hide (by
  unfold Mat.code
  rw [if_neg (by rw [HFB.out]; simp), if_neg (by rw [hax.out, hbx.out, hua.out, hub.out]; simp), if_neg (by rw [hza, hzb]; simp), hax.out, hbx.out]
  rfl)
 have HSH : Hid (Mat.shape za zb a b = Rf.zs ⟨none, [x0, y1], 0, true⟩ ∧ Mat.kind za zb a b = Rf.u ⟨none, [x0, y1], 0, true⟩) := hide (by
  unfold Mat.shape Mat.kind Rf.zs Rf.u
  rw [HCK.out, hax.out, hbx.out]
  refine ⟨rfl, ?_⟩
  by_cases h : Shp.code [x0, y1] = 0
  ·rw [decide_eq_true h, if_pos h]
  ·rw [decide_eq_false h, if_neg h])
 have HS0 : RmS ⟨w.heap.size, 0, none⟩ ⟨w.heap.size + 1, 0, none⟩ pa ⟨pb.block, pb.off + 1, none⟩ (.slice (some pa) 2 a.cap) (.slice (some pb) 2 b.cap) (.int .i64 x0) (.int .i64 y1) W3 := ⟨HA.out.cell 0, HB.out.cell 0, p0', q1'⟩
 have hS0 : RmS ⟨w.heap.size, 0, none⟩ ⟨w.heap.size + 1, 0, none⟩ pa ⟨pb.block, pb.off + 1, none⟩ (.slice (some pa) 2 a.cap) (.slice (some pb) 2 b.cap) (.int .i64 x0) (.int .i64 y1) W3.drew := ⟨HA.out.cell 0, HB.out.cell 0, p0', q1'⟩
 have hbA : Below W3.heap.size W3 (W3.alloc (.cells #[.int .i64 x0, .int .i64 y1] 3)) := (Below.refl _ _).alloc (Nat.le_refl _) _
 have hS1 : RmS ⟨w.heap.size, 0, none⟩ ⟨w.heap.size + 1, 0, none⟩ pa ⟨pb.block, pb.off + 1, none⟩ (.slice (some pa) 2 a.cap) (.slice (some pb) 2 b.cap) (.int .i64 x0) (.int .i64 y1) (W3.alloc (.cells #[.int .i64 x0, .int .i64 y1] 3)).drew := RmS.keep HS0 HA.out.lt HB.out.lt hpal hpbl hbA.drew
 have hri : Ri (W3.alloc (.cells #[.int .i64 x0, .int .i64 y1] 3)).drew (some ⟨W3.heap.size, 0, none⟩) [x0, y1] := ((Has.new W3 3 (i64s [x0, y1])).drewN 1).ri HWF.out
 have HC : Hid (Calls Tryz.prog 50 #[.agg #[.slice (some ⟨W3.heap.size, 0, none⟩) 2 2, .bool true]] (W3.alloc (.cells #[.int .i64 x0, .int .i64 y1] 3)).drew (RefE (W3.alloc (.cells #[.int .i64 x0, .int .i64 y1] 3)).drew (Rf.zs ⟨none, [x0, y1], 0, true⟩) (Rf.u ⟨none, [x0, y1], 0, true⟩) (Shp.code [x0, y1]))) := hide (seen_c ⟨some ⟨W3.heap.size, 0, none⟩, [x0, y1], 2, true⟩ _ ⟨hri, by simp⟩)
 have HZ0 := hide ((HZ.out.alloc (.cells #[.int .i64 x0, .int .i64 y1] 3)).drewN 1)
 have HBA := hide (HB0.out.trans (hbA.drew.mono HB0.out.size))
 have HZL := hide HZ.out.lt
 obtain ⟨kc, hkc⟩ : ∃ n, Hid (Shp.code [x0, y1] = n) := ⟨_, hide rfl⟩
 rw [hkc.out] at HC HCK
 clear HS0 hbA hri p0' q1' hpal hpbl HC101 HC102 HNO hza hzb
 go_wp2_with fail
 go_region_held3 (fun W => W.cell? ⟨w.heap.size, 0, none⟩ = some (.slice (some pa) 2 a.cap) ∧ W.cell? ⟨w.heap.size + 1, 0, none⟩ = some (.slice (some pb) 2 b.cap) ∧ W.cell? pa = some (.int .i64 x0) ∧ W.cell? ⟨pb.block, pb.off + 1, none⟩ = some (.int .i64 y1))
  (first | exact hS0 | exact hS1 | exact hS2 | exact hS3.out | assumption)
  (first | (go_at_call 50; (with_reducible refine HC.out.mono ?_); rintro e W4 ⟨⟨d, rfl, hdi, hdf, hdz, hdu⟩, hb⟩; have HDZ := hide hdz; have HDU := hide hdu; clear hdz hdu; have hS2 := RmS.keep hS1 (by have := HA.out.lt; simp; omega) (by have := HB.out.lt; simp; omega) (by have := HPL.out; have := HZL.out; simp; omega) (by have := HQL.out; have := HZL.out; simp; omega) hb; have hS3 := hide (RmS.far2 hS2 (b := w.heap.size + 2) (by simp) (by simp) (by have := HPL.out; omega) (by have := HQL.out; show w.heap.size + 2 ≠ pb.block; omega) (.slice d.P d.zs.length d.cap) (.bool d.u)); have hz4 := HZ0.out.below hb HZ0.out.lt; have hB4 := HBA.out.trans (hb.mono HBA.out.size); obtain ⟨z0, z1, zf0, zf1, HZf, HFf⟩ := elm_two hz4 hB4 (Nat.le_add_right _ 2) (.slice d.P d.zs.length d.cap) (.bool d.u); have hdl := hide (hdi.far2 hdf (by show w.heap.size + 2 < _; have := HZL.out; simp; omega) (.slice d.P d.zs.length d.cap) (.bool d.u))))
 go_wp2_with fail
 refine bodyPost_ret (results_desc rfl _ _ (w.heap.size + 2) _ _ rfl HZf.out) rfl ?_
 rw [HSH.out.1, HSH.out.2, HCK.out]
 exact ⟨⟨d, rfl, hdl.out, fun ad h => Nat.le_trans (by have := HZL.out; simp; omega) (hdf ad h), HDZ.out, HDU.out⟩, HFf.out⟩
abbrev CS2 (p0 p1 : Addr) (v0 v1 : Value) (W : World) : Prop := W.cell? p0 = some v0 ∧ W.cell? p1 = some v1
theorem CS2.keep {p0 p1 : Addr} {v0 v1 : Value} {W W' : World} (h : CS2 p0 p1 v0 v1 W) (l0 : p0.block < W.heap.size) (l1 : p1.block < W.heap.size) (hB : Below W.heap.size W W') : CS2 p0 p1 v0 v1 W' := by
 obtain ⟨h0, h1⟩ := h
 exact ⟨(hB.cell l0).trans h0, (hB.cell l1).trans h1⟩
theorem CS2.far {p0 p1 : Addr} {v0 v1 : Value} {W : World} (h : CS2 p0 p1 v0 v1 W) {b : Nat} (l0 : b ≠ p0.block) (l1 : b ≠ p1.block) (j : Nat) (x : Value) : CS2 p0 p1 v0 v1 (W.setCell ⟨b, j, none⟩ x) := by
 obtain ⟨h0, h1⟩ := h
 have f : ∀ (p : Addr) (v : Value), b ≠ p.block → W.cell? p = some v → (W.setCell ⟨b, j, none⟩ x).cell? p = some v := fun p v hn hc => by
  rw [World.cell?_setCell_far _ _ _ _ (by exact hn)]
  exact hc
 exact ⟨f _ _ l0 h0, f _ _ l1 h1⟩
theorem CS2.drew {p0 p1 : Addr} {v0 v1 : Value} {W : World} (h : CS2 p0 p1 v0 v1 W) : CS2 p0 p1 v0 v1 W.drew := h
abbrev CS4 (p0 p1 p2 p3 : Addr) (v0 v1 v2 v3 : Value) (W : World) : Prop := W.cell? p0 = some v0 ∧ W.cell? p1 = some v1 ∧ W.cell? p2 = some v2 ∧ W.cell? p3 = some v3
theorem CS4.keep {p0 p1 p2 p3 : Addr} {v0 v1 v2 v3 : Value} {W W' : World} (h : CS4 p0 p1 p2 p3 v0 v1 v2 v3 W) (l0 : p0.block < W.heap.size) (l1 : p1.block < W.heap.size) (l2 : p2.block < W.heap.size) (l3 : p3.block < W.heap.size) (hB : Below W.heap.size W W') : CS4 p0 p1 p2 p3 v0 v1 v2 v3 W' := by
 obtain ⟨h0, h1, h2, h3⟩ := h
 exact ⟨(hB.cell l0).trans h0, (hB.cell l1).trans h1, (hB.cell l2).trans h2, (hB.cell l3).trans h3⟩
theorem CS4.far {p0 p1 p2 p3 : Addr} {v0 v1 v2 v3 : Value} {W : World} (h : CS4 p0 p1 p2 p3 v0 v1 v2 v3 W) {b : Nat} (l0 : b ≠ p0.block) (l1 : b ≠ p1.block) (l2 : b ≠ p2.block) (l3 : b ≠ p3.block) (j : Nat) (x : Value) : CS4 p0 p1 p2 p3 v0 v1 v2 v3 (W.setCell ⟨b, j, none⟩ x) := by
 obtain ⟨h0, h1, h2, h3⟩ := h
 have f : ∀ (p : Addr) (v : Value), b ≠ p.block → W.cell? p = some v → (W.setCell ⟨b, j, none⟩ x).cell? p = some v := fun p v hn hc => by
  rw [World.cell?_setCell_far _ _ _ _ (by exact hn)]
  exact hc
 exact ⟨f _ _ l0 h0, f _ _ l1 h1, f _ _ l2 h2, f _ _ l3 h3⟩
theorem CS4.drew {p0 p1 p2 p3 : Addr} {v0 v1 v2 v3 : Value} {W : World} (h : CS4 p0 p1 p2 p3 v0 v1 v2 v3 W) : CS4 p0 p1 p2 p3 v0 v1 v2 v3 W.drew := h
abbrev CS6 (p0 p1 p2 p3 p4 p5 : Addr) (v0 v1 v2 v3 v4 v5 : Value) (W : World) : Prop := W.cell? p0 = some v0 ∧ W.cell? p1 = some v1 ∧ W.cell? p2 = some v2 ∧ W.cell? p3 = some v3 ∧ W.cell? p4 = some v4 ∧ W.cell? p5 = some v5
theorem CS6.keep {p0 p1 p2 p3 p4 p5 : Addr} {v0 v1 v2 v3 v4 v5 : Value} {W W' : World} (h : CS6 p0 p1 p2 p3 p4 p5 v0 v1 v2 v3 v4 v5 W) (l0 : p0.block < W.heap.size) (l1 : p1.block < W.heap.size) (l2 : p2.block < W.heap.size) (l3 : p3.block < W.heap.size) (l4 : p4.block < W.heap.size) (l5 : p5.block < W.heap.size) (hB : Below W.heap.size W W') : CS6 p0 p1 p2 p3 p4 p5 v0 v1 v2 v3 v4 v5 W' := by
 obtain ⟨h0, h1, h2, h3, h4, h5⟩ := h
 exact ⟨(hB.cell l0).trans h0, (hB.cell l1).trans h1, (hB.cell l2).trans h2, (hB.cell l3).trans h3, (hB.cell l4).trans h4, (hB.cell l5).trans h5⟩
theorem CS6.far {p0 p1 p2 p3 p4 p5 : Addr} {v0 v1 v2 v3 v4 v5 : Value} {W : World} (h : CS6 p0 p1 p2 p3 p4 p5 v0 v1 v2 v3 v4 v5 W) {b : Nat} (l0 : b ≠ p0.block) (l1 : b ≠ p1.block) (l2 : b ≠ p2.block) (l3 : b ≠ p3.block) (l4 : b ≠ p4.block) (l5 : b ≠ p5.block) (j : Nat) (x : Value) : CS6 p0 p1 p2 p3 p4 p5 v0 v1 v2 v3 v4 v5 (W.setCell ⟨b, j, none⟩ x) := by
 obtain ⟨h0, h1, h2, h3, h4, h5⟩ := h
 have f : ∀ (p : Addr) (v : Value), b ≠ p.block → W.cell? p = some v → (W.setCell ⟨b, j, none⟩ x).cell? p = some v := fun p v hn hc => by
  rw [World.cell?_setCell_far _ _ _ _ (by exact hn)]
  exact hc
 exact ⟨f _ _ l0 h0, f _ _ l1 h1, f _ _ l2 h2, f _ _ l3 h3, f _ _ l4 h4, f _ _ l5 h5⟩
theorem CS6.drew {p0 p1 p2 p3 p4 p5 : Addr} {v0 v1 v2 v3 v4 v5 : Value} {W : World} (h : CS6 p0 p1 p2 p3 p4 p5 v0 v1 v2 v3 v4 v5 W) : CS6 p0 p1 p2 p3 p4 p5 v0 v1 v2 v3 v4 v5 W.drew := h
set_option maxRecDepth 100000 in
theorem rknown12 (w : World) : Calls Tryz.prog 25 #[.int .i64 12] w fun e w' => e = .returned (.bool true) ∧ w' = w := by
 go_enter Tryz.func25, Tryz.ntmps25
 go_wp2_with fail
 go_ret
 exact ⟨rfl, rfl⟩
set_option maxRecDepth 100000 in
theorem rins12 (w : World) : Calls Tryz.prog 28 #[.int .i64 12] w fun e w' => e = .returned (.int .i64 2) ∧ w' = w := by
 go_enter Tryz.func28, Tryz.ntmps28
 go_wp2_with fail
 go_ret
 exact ⟨rfl, rfl⟩
set_option maxRecDepth 100000 in
theorem rargs12 (w : World) : Calls Tryz.prog 30 #[.int .i64 12] w fun e w' => e = .returned (.int .i64 2) ∧ w' = w := by
 go_enter Tryz.func30, Tryz.ntmps30
 go_wp2_with fail
 go_ret
 exact ⟨rfl, rfl⟩
set_option maxRecDepth 100000 in
theorem rknown13 (w : World) : Calls Tryz.prog 25 #[.int .i64 13] w fun e w' => e = .returned (.bool true) ∧ w' = w := by
 go_enter Tryz.func25, Tryz.ntmps25
 go_wp2_with fail
 go_ret
 exact ⟨rfl, rfl⟩
set_option maxRecDepth 100000 in
theorem rins13 (w : World) : Calls Tryz.prog 28 #[.int .i64 13] w fun e w' => e = .returned (.int .i64 2) ∧ w' = w := by
 go_enter Tryz.func28, Tryz.ntmps28
 go_wp2_with fail
 go_ret
 exact ⟨rfl, rfl⟩
set_option maxRecDepth 100000 in
theorem rargs13 (w : World) : Calls Tryz.prog 30 #[.int .i64 13] w fun e w' => e = .returned (.int .i64 3) ∧ w' = w := by
 go_enter Tryz.func30, Tryz.ntmps30
 go_wp2_with fail
 go_ret
 exact ⟨rfl, rfl⟩
set_option maxRecDepth 100000 in
theorem rknown14 (w : World) : Calls Tryz.prog 25 #[.int .i64 14] w fun e w' => e = .returned (.bool true) ∧ w' = w := by
 go_enter Tryz.func25, Tryz.ntmps25
 go_wp2_with fail
 go_ret
 exact ⟨rfl, rfl⟩
set_option maxRecDepth 100000 in
theorem rins14 (w : World) : Calls Tryz.prog 28 #[.int .i64 14] w fun e w' => e = .returned (.int .i64 1) ∧ w' = w := by
 go_enter Tryz.func28, Tryz.ntmps28
 go_wp2_with fail
 refine (rknown14 w).mono ?_
 rintro e wq ⟨rfl, hw⟩
 have hw := hw.symm
 subst hw
 go_wp2_with fail
 go_ret
 exact ⟨rfl, rfl⟩
set_option maxRecDepth 100000 in
theorem rargs14 (w : World) : Calls Tryz.prog 30 #[.int .i64 14] w fun e w' => e = .returned (.int .i64 2) ∧ w' = w := by
 go_enter Tryz.func30, Tryz.ntmps30
 go_wp2_with fail
 go_ret
 exact ⟨rfl, rfl⟩
set_option maxRecDepth 100000 in
theorem rknown15 (w : World) : Calls Tryz.prog 25 #[.int .i64 15] w fun e w' => e = .returned (.bool true) ∧ w' = w := by
 go_enter Tryz.func25, Tryz.ntmps25
 go_wp2_with fail
 go_ret
 exact ⟨rfl, rfl⟩
set_option maxRecDepth 100000 in
theorem rins15 (w : World) : Calls Tryz.prog 28 #[.int .i64 15] w fun e w' => e = .returned (.int .i64 1) ∧ w' = w := by
 go_enter Tryz.func28, Tryz.ntmps28
 go_wp2_with fail
 refine (rknown15 w).mono ?_
 rintro e wq ⟨rfl, hw⟩
 have hw := hw.symm
 subst hw
 go_wp2_with fail
 go_ret
 exact ⟨rfl, rfl⟩
set_option maxRecDepth 100000 in
theorem rargs15 (w : World) : Calls Tryz.prog 30 #[.int .i64 15] w fun e w' => e = .returned (.int .i64 2) ∧ w' = w := by
 go_enter Tryz.func30, Tryz.ntmps30
 go_wp2_with fail
 go_ret
 exact ⟨rfl, rfl⟩
set_option maxRecDepth 100000 in
theorem rknown16 (w : World) : Calls Tryz.prog 25 #[.int .i64 16] w fun e w' => e = .returned (.bool true) ∧ w' = w := by
 go_enter Tryz.func25, Tryz.ntmps25
 go_wp2_with fail
 go_ret
 exact ⟨rfl, rfl⟩
set_option maxRecDepth 100000 in
theorem rins16 (w : World) : Calls Tryz.prog 28 #[.int .i64 16] w fun e w' => e = .returned (.int .i64 2) ∧ w' = w := by
 go_enter Tryz.func28, Tryz.ntmps28
 go_wp2_with fail
 go_ret
 exact ⟨rfl, rfl⟩
set_option maxRecDepth 100000 in
theorem rargs16 (w : World) : Calls Tryz.prog 30 #[.int .i64 16] w fun e w' => e = .returned (.int .i64 0) ∧ w' = w := by
 go_enter Tryz.func30, Tryz.ntmps30
 go_wp2_with fail
 go_ret
 exact ⟨rfl, rfl⟩
set_option maxRecDepth 100000 in
theorem rknown17 (w : World) : Calls Tryz.prog 25 #[.int .i64 17] w fun e w' => e = .returned (.bool true) ∧ w' = w := by
 go_enter Tryz.func25, Tryz.ntmps25
 go_wp2_with fail
 go_ret
 exact ⟨rfl, rfl⟩
set_option maxRecDepth 100000 in
theorem rins17 (w : World) : Calls Tryz.prog 28 #[.int .i64 17] w fun e w' => e = .returned (.int .i64 2) ∧ w' = w := by
 go_enter Tryz.func28, Tryz.ntmps28
 go_wp2_with fail
 go_ret
 exact ⟨rfl, rfl⟩
set_option maxRecDepth 100000 in
theorem rargs17 (w : World) : Calls Tryz.prog 30 #[.int .i64 17] w fun e w' => e = .returned (.int .i64 0) ∧ w' = w := by
 go_enter Tryz.func30, Tryz.ntmps30
 go_wp2_with fail
 go_ret
 exact ⟨rfl, rfl⟩
set_option maxRecDepth 100000 in
theorem rknown18 (w : World) : Calls Tryz.prog 25 #[.int .i64 18] w fun e w' => e = .returned (.bool true) ∧ w' = w := by
 go_enter Tryz.func25, Tryz.ntmps25
 go_wp2_with fail
 go_ret
 exact ⟨rfl, rfl⟩
set_option maxRecDepth 100000 in
theorem rins18 (w : World) : Calls Tryz.prog 28 #[.int .i64 18] w fun e w' => e = .returned (.int .i64 1) ∧ w' = w := by
 go_enter Tryz.func28, Tryz.ntmps28
 go_wp2_with fail
 refine (rknown18 w).mono ?_
 rintro e wq ⟨rfl, hw⟩
 have hw := hw.symm
 subst hw
 go_wp2_with fail
 go_ret
 exact ⟨rfl, rfl⟩
set_option maxRecDepth 100000 in
theorem rargs18 (w : World) : Calls Tryz.prog 30 #[.int .i64 18] w fun e w' => e = .returned (.int .i64 0) ∧ w' = w := by
 go_enter Tryz.func30, Tryz.ntmps30
 go_wp2_with fail
 go_ret
 exact ⟨rfl, rfl⟩
set_option maxRecDepth 100000 in
theorem rknown19 (w : World) : Calls Tryz.prog 25 #[.int .i64 19] w fun e w' => e = .returned (.bool true) ∧ w' = w := by
 go_enter Tryz.func25, Tryz.ntmps25
 go_wp2_with fail
 go_ret
 exact ⟨rfl, rfl⟩
set_option maxRecDepth 100000 in
theorem rins19 (w : World) : Calls Tryz.prog 28 #[.int .i64 19] w fun e w' => e = .returned (.int .i64 1) ∧ w' = w := by
 go_enter Tryz.func28, Tryz.ntmps28
 go_wp2_with fail
 refine (rknown19 w).mono ?_
 rintro e wq ⟨rfl, hw⟩
 have hw := hw.symm
 subst hw
 go_wp2_with fail
 go_ret
 exact ⟨rfl, rfl⟩
set_option maxRecDepth 100000 in
theorem rargs19 (w : World) : Calls Tryz.prog 30 #[.int .i64 19] w fun e w' => e = .returned (.int .i64 0) ∧ w' = w := by
 go_enter Tryz.func30, Tryz.ntmps30
 go_wp2_with fail
 go_ret
 exact ⟨rfl, rfl⟩
set_option maxRecDepth 100000 in
theorem rknown20 (w : World) : Calls Tryz.prog 25 #[.int .i64 20] w fun e w' => e = .returned (.bool true) ∧ w' = w := by
 go_enter Tryz.func25, Tryz.ntmps25
 go_wp2_with fail
 go_ret
 exact ⟨rfl, rfl⟩
set_option maxRecDepth 100000 in
theorem rins20 (w : World) : Calls Tryz.prog 28 #[.int .i64 20] w fun e w' => e = .returned (.int .i64 1) ∧ w' = w := by
 go_enter Tryz.func28, Tryz.ntmps28
 go_wp2_with fail
 refine (rknown20 w).mono ?_
 rintro e wq ⟨rfl, hw⟩
 have hw := hw.symm
 subst hw
 go_wp2_with fail
 go_ret
 exact ⟨rfl, rfl⟩
set_option maxRecDepth 100000 in
theorem rargs20 (w : World) : Calls Tryz.prog 30 #[.int .i64 20] w fun e w' => e = .returned (.int .i64 0) ∧ w' = w := by
 go_enter Tryz.func30, Tryz.ntmps30
 go_wp2_with fail
 go_ret
 exact ⟨rfl, rfl⟩
set_option maxRecDepth 100000 in
theorem rknown21 (w : World) : Calls Tryz.prog 25 #[.int .i64 21] w fun e w' => e = .returned (.bool true) ∧ w' = w := by
 go_enter Tryz.func25, Tryz.ntmps25
 go_wp2_with fail
 go_ret
 exact ⟨rfl, rfl⟩
set_option maxRecDepth 100000 in
theorem rins21 (w : World) : Calls Tryz.prog 28 #[.int .i64 21] w fun e w' => e = .returned (.int .i64 1) ∧ w' = w := by
 go_enter Tryz.func28, Tryz.ntmps28
 go_wp2_with fail
 refine (rknown21 w).mono ?_
 rintro e wq ⟨rfl, hw⟩
 have hw := hw.symm
 subst hw
 go_wp2_with fail
 go_ret
 exact ⟨rfl, rfl⟩
set_option maxRecDepth 100000 in
theorem rargs21 (w : World) : Calls Tryz.prog 30 #[.int .i64 21] w fun e w' => e = .returned (.int .i64 0) ∧ w' = w := by
 go_enter Tryz.func30, Tryz.ntmps30
 go_wp2_with fail
 go_ret
 exact ⟨rfl, rfl⟩
set_option maxRecDepth 100000 in
set_option maxHeartbeats 8000000 in
theorem rres_mat (za zb : Int) (a b : Dsc) (A B : Option Addr) (qcap cap : Nat) (w : World) (hQ : Ri w A [za, zb]) (hR : Row w B ([a, b].flatMap Dsc.vals)) (ha : a.In w) (hb : b.In w) :
  Calls Tryz.prog 38 #[.int .i64 12, .slice A 2 qcap, .slice B 2 cap] w (RefE w (Mat.shape za zb a b) (Mat.kind za zb a b) (Mat.code za zb a b)) := by
 obtain ⟨W0, hW0⟩ : ∃ W, W = w.alloc (.cells #[.slice none 0 0, .bool false] 24) := ⟨_, rfl⟩
 have hbw : Below w.heap.size w W0 := by rw [hW0]; exact (Below.refl _ _).alloc (Nat.le_refl _) _
 have HZ : Hid (Has W0 w.heap.size 24 [.slice none 0 0, .bool false]) := hide (by rw [hW0]; exact Has.new _ _ _)
 obtain ⟨pq, hpq, p0, p1⟩ := ri_pair hQ
 have hpql : pq.block < w.heap.size := by obtain ⟨ad, h1, h2, -⟩ := hQ.2 (by simp); rw [hpq] at h1; rw [Option.some.inj h1]; exact h2
 obtain ⟨pr, hpr, hprl, r0, r1, r2, r3⟩ := rowd_two hR
 subst hpq
 subst hpr
 have HS00 : CS6 pq ⟨pq.block, pq.off + 1, none⟩ pr ⟨pr.block, pr.off + 1, none⟩ ⟨pr.block, pr.off + 2, none⟩ ⟨pr.block, pr.off + 3, none⟩ (.int .i64 za) (.int .i64 zb) (.slice a.P a.zs.length a.cap) (.bool a.u) (.slice b.P b.zs.length b.cap) (.bool b.u) w := ⟨p0, p1, r0, r1, r2, r3⟩
 have HS0 := CS6.keep HS00 hpql hpql hprl hprl hprl hprl hbw
 have hS0 : CS6 pq ⟨pq.block, pq.off + 1, none⟩ pr ⟨pr.block, pr.off + 1, none⟩ ⟨pr.block, pr.off + 2, none⟩ ⟨pr.block, pr.off + 3, none⟩ (.int .i64 za) (.int .i64 zb) (.slice a.P a.zs.length a.cap) (.bool a.u) (.slice b.P b.zs.length b.cap) (.bool b.u) W0.drew := HS0
 have HB0 := hide hbw.drew
 have HC : Hid (Calls Tryz.prog 67 #[.int .i64 za, .int .i64 zb, .agg #[.slice a.P a.zs.length a.cap, .bool a.u], .agg #[.slice b.P b.zs.length b.cap, .bool b.u]] W0.drew (RefE W0.drew (Mat.shape za zb a b) (Mat.kind za zb a b) (Mat.code za zb a b))) := hide (rmat_c za zb a b W0.drew (ha.below hbw.drew) (hb.below hbw.drew))
 have HW := hide hW0
 have HQL := hide hpql
 have HRL := hide hprl
 have HWZ : Hid (w.heap.size < W0.heap.size) := hide HZ.out.lt
 obtain ⟨k, hk⟩ : ∃ n, Hid (Mat.code za zb a b = n) := ⟨_, hide rfl⟩
 obtain ⟨zs, hzs⟩ : ∃ n, Hid (Mat.shape za zb a b = n) := ⟨_, hide rfl⟩
 obtain ⟨u, hu⟩ : ∃ n, Hid (Mat.kind za zb a b = n) := ⟨_, hide rfl⟩
 rw [hk.out, hzs.out, hu.out] at HC ⊢
 clear hQ hR ha hb hW0 hbw p0 p1 r0 r1 r2 r3 HS00 HS0 hpql hprl
 go_enter Tryz.func38, Tryz.ntmps38
 go_wp2_with fail
 rw [← HW.out]
 clear HW
 refine (rknown12 _).mono ?_
 rintro e wq ⟨rfl, hw⟩
 have hw := hw.symm
 subst hw
 go_wp2_with fail
 refine (rins12 _).mono ?_
 rintro e wq ⟨rfl, hw⟩
 have hw := hw.symm
 subst hw
 go_wp2_with fail
 refine (rargs12 _).mono ?_
 rintro e wq ⟨rfl, hw⟩
 have hw := hw.symm
 subst hw
 go_wp2_with fail
 go_region_held3 (fun W => W.cell? pq = some (.int .i64 za) ∧ W.cell? ⟨pq.block, pq.off + 1, none⟩ = some (.int .i64 zb) ∧ W.cell? pr = some (.slice a.P a.zs.length a.cap) ∧ W.cell? ⟨pr.block, pr.off + 1, none⟩ = some (.bool a.u) ∧ W.cell? ⟨pr.block, pr.off + 2, none⟩ = some (.slice b.P b.zs.length b.cap) ∧ W.cell? ⟨pr.block, pr.off + 3, none⟩ = some (.bool b.u))
  (first | exact hS0 | exact hS2 | exact hS3.out | assumption)
  (first | (go_at_call 67; (with_reducible refine HC.out.mono ?_); rintro e W4 ⟨⟨d, rfl, hdi, hdf, hdz, hdu⟩, hb⟩; have HDZ := hide hdz; have HDU := hide hdu; clear hdz hdu; have q1 : pq.block < W0.drew.heap.size := Nat.lt_trans HQL.out HWZ.out; have q2 : pr.block < W0.drew.heap.size := Nat.lt_trans HRL.out HWZ.out; have hS2 := CS6.keep hS0 q1 q1 q2 q2 q2 q2 hb; have n1 : w.heap.size ≠ pq.block := (Nat.ne_of_lt HQL.out).symm; have n2 : w.heap.size ≠ pr.block := (Nat.ne_of_lt HRL.out).symm; have hS3 := hide (CS6.far (CS6.far hS2 n1 n1 n2 n2 n2 n2 0 (.slice d.P d.zs.length d.cap)) n1 n1 n2 n2 n2 n2 1 (.bool d.u)); have hz4 := (HZ.out.drewN 1).below hb (HZ.out.drewN 1).lt; have hB4 := HB0.out.trans (hb.mono HB0.out.size); obtain ⟨z0, z1, zf0, zf1, HZf, HFf⟩ := elm_two hz4 hB4 (Nat.le_refl _) (.slice d.P d.zs.length d.cap) (.bool d.u); have hdl := hide (hdi.far2 hdf (by exact HWZ.out) (.slice d.P d.zs.length d.cap) (.bool d.u))))
 go_wp2_with fail
 refine bodyPost_ret (results_desc rfl _ _ w.heap.size _ _ rfl HZf.out) rfl ?_
 exact ⟨⟨d, rfl, hdl.out, fun ad h => Nat.le_trans (Nat.le_of_lt HWZ.out) (hdf ad h), HDZ.out, HDU.out⟩, HFf.out⟩
def Rf.tzs (d : Dsc) : List Int := if Mat.tcode d = 0 then [d.zs.getD 1 0, d.zs.getD 0 0] else []
def Rf.tu (d : Dsc) : Bool := if Mat.tcode d = 0 then d.u else false
theorem Rf.tbad {d : Dsc} (h : Mat.tcode d ≠ 0) : Rf.tzs d = [] ∧ Rf.tu d = false := by
 unfold Rf.tzs Rf.tu
 rw [if_neg h, if_neg h]
 exact ⟨rfl, rfl⟩
theorem Shp.code_turn {x y : Int} (h : Shp.code [x, y] = 0) : Shp.code [y, x] = 0 := by
 obtain ⟨-, h2, -, h4, h5⟩ := Shp.whole h
 have hx := h2 x (by simp)
 have hy := h2 y (by simp)
 unfold Shp.prod at h4 h5
 unfold Shp.code
 rw [if_neg (by show ¬ 4 < 2; omega), if_neg (by simp [Shp.okDim]; omega), if_neg]
 simp [Shp.prod] at h5 ⊢
 rw [Int.mul_comm]
 exact h5
set_option maxRecDepth 100000 in
set_option maxHeartbeats 8000000 in
theorem rres_turn (a : Dsc) (A B : Option Addr) (qcap cap : Nat) (w : World) (hR : Row w B ([a].flatMap Dsc.vals)) (ha : a.In w) :
  Calls Tryz.prog 38 #[.int .i64 21, .slice A 0 qcap, .slice B 1 cap] w (RefE w (Rf.tzs a) (Rf.tu a) (Mat.tcode a)) := by
 obtain ⟨W0, hW0⟩ : ∃ W, W = w.alloc (.cells #[.slice none 0 0, .bool false] 24) := ⟨_, rfl⟩
 have hbw : Below w.heap.size w W0 := by rw [hW0]; exact (Below.refl _ _).alloc (Nat.le_refl _) _
 have hz0 : Has W0 w.heap.size 24 [.slice none 0 0, .bool false] := by rw [hW0]; exact Has.new _ _ _
 obtain ⟨W1, hW1⟩ : ∃ W, W = W0.alloc (.cells #[.slice a.P a.zs.length a.cap, .bool a.u] 24) := ⟨_, rfl⟩
 have hs0 : W0.heap.size = w.heap.size + 1 := by rw [hW0]; simp
 have HZ : Hid (Has W1 w.heap.size 24 [.slice none 0 0, .bool false]) := hide (by rw [hW1]; exact hz0.alloc _)
 have HA : Hid (Has W1 (w.heap.size + 1) 24 [.slice a.P a.zs.length a.cap, .bool a.u]) := hide (by rw [hW1, ← hs0]; exact Has.new _ _ _)
 have hb1 : Below W0.heap.size W0 W1 := by rw [hW1]; exact (Below.refl _ _).alloc (Nat.le_refl _) _
 have HB : Hid (Below w.heap.size w W1) := hide (hbw.trans (hb1.mono hbw.size))
 obtain ⟨pr, hpr, hprl, r0', r1', -⟩ : ∃ ad, B = some ad ∧ ad.block < w.heap.size ∧ w.cell? ad = some (.slice a.P a.zs.length a.cap) ∧ w.cell? ⟨ad.block, ad.off + 1, none⟩ = some (.bool a.u) ∧ True := by
  obtain ⟨ad, h1, h2, h3⟩ := hR (by simp [Dsc.vals])
  have c0 := h3 0 _ rfl
  have c1 := h3 1 _ rfl
  rw [Addr.add_zero'] at c0
  simp only [Addr.add, Nat.reduceEqDiff, if_false] at c1
  exact ⟨ad, h1, h2, c0, c1, trivial⟩
 subst hpr
 have r0 : W0.cell? pr = some (.slice a.P a.zs.length a.cap) := (hbw.cell hprl).trans r0'
 have r1 : W0.cell? ⟨pr.block, pr.off + 1, none⟩ = some (.bool a.u) := (hbw.cell (p := ⟨pr.block, pr.off + 1, none⟩) hprl).trans r1'
 have HV := hide (refvalid_c a.zs a.P a.cap a.u W1 (ha.shp.below HB.out) (by have := ha.ls; omega))
 have HI := hide (fun W (h : Below w.heap.size w W) => ha.shp.below h)
 have HW := hide hW0
 have HW1 := hide hW1
 have HS0 := hide hs0
 obtain ⟨na, hna⟩ : ∃ n, Hid (a.zs.length = n) := ⟨_, hide rfl⟩
 obtain ⟨ka, hka⟩ : ∃ n, Hid (Shp.code a.zs = n) := ⟨_, hide rfl⟩
 obtain ⟨kt, hkt⟩ : ∃ n, Hid (Mat.tcode a = n) := ⟨_, hide rfl⟩
 rw [hka.out] at HV
 rw [hna.out] at HV HA HW1 r0
 have hkc := Shp.code_is a.zs
 rw [hka.out] at hkc
 clear hR ha hW0 hW1 hbw hb1 hz0 hs0 r0' r1' hprl
 go_enter Tryz.func38, Tryz.ntmps38
 go_wp2_with fail
 rw [← HW.out]
 clear HW
 refine (rknown21 _).mono ?_
 rintro e wq ⟨rfl, hw⟩
 have hw := hw.symm
 subst hw
 go_wp2_with fail
 refine (rins21 _).mono ?_
 rintro e wq ⟨rfl, hw⟩
 have hw := hw.symm
 subst hw
 go_wp2_with fail
 have hs := HS0.out
 refine (rargs21 _).mono ?_
 rintro e wq ⟨rfl, hw⟩
 have hw := hw.symm
 subst hw
 go_wp2_with fail
 rw [← HW1.out]
 clear HW1 r0 r1
 refine HV.out.mono ?_
 rintro e w1 ⟨rfl, hb⟩
 replace HZ := hide (HZ.out.below hb HZ.out.lt)
 replace HA := hide (HA.out.below hb HA.out.lt)
 replace HB := hide (HB.out.trans (hb.mono HB.out.size))
 clear hb HV
 by_cases h0 : ka = 0
 case neg =>
  have hcd : Mat.tcode a = ka := by
   unfold Mat.tcode
   rw [hka.out, if_pos h0]
  obtain ⟨e1, e2⟩ := Rf.tbad (by rw [hcd]; exact h0)
  have HD1 := hide e1
  have HD2 := hide e2
  have HCD := hide hcd
  have h1 : ((ka : Int) == 0) = false := by simp; omega
  have h2 : ((ka : Int) != 0) = true := by simp; omega
  clear e1 e2 hcd h0 hkc
  obtain ⟨z0, z1, zf0, zf1, HZf, HFf⟩ := elm_two HZ.out HB.out (Nat.le_refl _) (.slice none 0 0) (.bool false)
  go_wp2_with fail
  refine bodyPost_ret (results_desc rfl _ _ w.heap.size _ _ rfl HZf.out) rfl ?_
  rw [HD1.out, HD2.out, HCD.out]
  exact RefE.bad rfl HFf.out
 case pos =>
 subst h0
 have a0 : w1.cell? ⟨w.heap.size + 1, 0, none⟩ = some (.slice a.P na a.cap) := HA.out.cell 0
 by_cases h1 : na = 2
 case neg =>
  have hcd : Mat.tcode a = 101 := by
   unfold Mat.tcode
   rw [hka.out, if_neg (by simp), if_pos (by rw [hna.out]; exact h1)]
  obtain ⟨e1, e2⟩ := Rf.tbad (by rw [hcd]; decide)
  have HD1 := hide e1
  have HD2 := hide e2
  have HCD := hide hcd
  have i1 : ((na : Int) == 2) = false := by simp; omega
  have i2 : ((na : Int) != 2) = true := by simp; omega
  clear e1 e2 hcd hkc
  obtain ⟨z0, z1, zf0, zf1, HZf, HFf⟩ := elm_two HZ.out HB.out (Nat.le_refl _) (.slice none 0 0) (.bool false)
  go_wp2_with fail
  refine bodyPost_ret (results_desc rfl _ _ w.heap.size _ _ rfl HZf.out) rfl ?_
  rw [HD1.out, HD2.out, HCD.out]
  exact RefE.bad rfl HFf.out
 case pos =>
 subst h1
 obtain ⟨x0, x1, hax⟩ : ∃ x y, Hid (a.zs = [x, y]) := by
  match hz : a.zs, hna.out with
  | [x, y], _ => exact ⟨x, y, hide rfl⟩
 have hcd : Mat.tcode a = 0 := by
  unfold Mat.tcode
  rw [hka.out, if_neg (by simp), if_neg (by rw [hna.out]; simp)]
 have HCD := hide hcd
 have HD1 : Hid (Rf.tzs a = [x1, x0]) := hide (by unfold Rf.tzs; rw [if_pos hcd, hax.out]; rfl)
 have HD2 : Hid (Rf.tu a = a.u) := hide (by unfold Rf.tu; rw [if_pos hcd])
 have HCT : Hid (Shp.code [x1, x0] = 0) := hide (Shp.code_turn (by rw [← hax.out]; exact hka.out))
 have hra := HI.out w1 HB.out
 rw [hax.out] at hra
 obtain ⟨pa, epa, p0, p1⟩ := ri_pair hra
 have HPL : Hid (pa.block < w.heap.size) := hide (by obtain ⟨ad, h1, h2, -⟩ := (HI.out w (Below.refl _ _)).2 (by rw [hax.out]; simp); rw [epa] at h1; rw [Option.some.inj h1]; exact h2)
 have HWF : Hid (∀ q ∈ [x1, x0], (Lit.int .i64 q).wf = true) := hide (by
  intro q hq
  simp at hq
  rcases hq with rfl | rfl
  ·exact hra.1 _ (by simp)
  ·exact hra.1 _ (by simp))
 rw [epa] at HA a0
 have hw1 : w.heap.size + 1 < w1.heap.size := HA.out.lt
 have hq : pa.block < w1.heap.size := by have := HPL.out; omega
 have HS00 : CS4 ⟨w.heap.size + 1, 0, none⟩ ⟨w.heap.size + 1, 1, none⟩ pa ⟨pa.block, pa.off + 1, none⟩ (.slice (some pa) 2 a.cap) (.bool a.u) (.int .i64 x0) (.int .i64 x1) w1 := ⟨a0, HA.out.cell 1, p0, p1⟩
 have hS0 : CS4 ⟨w.heap.size + 1, 0, none⟩ ⟨w.heap.size + 1, 1, none⟩ pa ⟨pa.block, pa.off + 1, none⟩ (.slice (some pa) 2 a.cap) (.bool a.u) (.int .i64 x0) (.int .i64 x1) w1.drew := HS00
 have hbA : Below w1.heap.size w1 (w1.alloc (.cells #[.int .i64 x1, .int .i64 x0] 3)) := (Below.refl _ _).alloc (Nat.le_refl _) _
 have hS1 : CS4 ⟨w.heap.size + 1, 0, none⟩ ⟨w.heap.size + 1, 1, none⟩ pa ⟨pa.block, pa.off + 1, none⟩ (.slice (some pa) 2 a.cap) (.bool a.u) (.int .i64 x0) (.int .i64 x1) (w1.alloc (.cells #[.int .i64 x1, .int .i64 x0] 3)).drew := CS4.keep HS00 hw1 hw1 hq hq hbA.drew
 have hri : Ri (w1.alloc (.cells #[.int .i64 x1, .int .i64 x0] 3)).drew (some ⟨w1.heap.size, 0, none⟩) [x1, x0] := ((Has.new w1 3 (i64s [x1, x0])).drewN 1).ri HWF.out
 have hrf : Rf.zs ⟨none, [x1, x0], 0, a.u⟩ = [x1, x0] ∧ Rf.u ⟨none, [x1, x0], 0, a.u⟩ = a.u := by
  unfold Rf.zs Rf.u
  rw [if_pos HCT.out, if_pos HCT.out]
  exact ⟨rfl, rfl⟩
 have hse := seen_c ⟨some ⟨w1.heap.size, 0, none⟩, [x1, x0], 2, a.u⟩ _ ⟨hri, by simp⟩
 have HC : Hid (Calls Tryz.prog 50 #[.agg #[.slice (some ⟨w1.heap.size, 0, none⟩) 2 2, .bool a.u]] (w1.alloc (.cells #[.int .i64 x1, .int .i64 x0] 3)).drew (RefE (w1.alloc (.cells #[.int .i64 x1, .int .i64 x0] 3)).drew [x1, x0] a.u 0)) := hide (by
  have h : Calls Tryz.prog 50 #[.agg #[.slice (some ⟨w1.heap.size, 0, none⟩) 2 2, .bool a.u]] (w1.alloc (.cells #[.int .i64 x1, .int .i64 x0] 3)).drew (RefE (w1.alloc (.cells #[.int .i64 x1, .int .i64 x0] 3)).drew (Rf.zs ⟨none, [x1, x0], 0, a.u⟩) (Rf.u ⟨none, [x1, x0], 0, a.u⟩) (Shp.code [x1, x0])) := hse
  rw [hrf.1, hrf.2, HCT.out] at h
  exact h)
 have HZ0 := hide ((HZ.out.alloc (.cells #[.int .i64 x1, .int .i64 x0] 3)).drewN 1)
 have HBA := hide (HB.out.trans (hbA.drew.mono HB.out.size))
 have HW1L := hide hw1
 have HQ := hide hq
 clear HS00 hbA hri hrf hse hra hcd hkc p0 p1 hw1 hq epa
 go_wp2_with fail
 go_region_held3 (fun W => W.cell? ⟨w.heap.size + 1, 0, none⟩ = some (.slice (some pa) 2 a.cap) ∧ W.cell? ⟨w.heap.size + 1, 1, none⟩ = some (.bool a.u) ∧ W.cell? pa = some (.int .i64 x0) ∧ W.cell? ⟨pa.block, pa.off + 1, none⟩ = some (.int .i64 x1))
  (first | exact hS0 | exact hS1 | exact hS2 | exact hS3.out | assumption)
  (first | (go_at_call 50; (with_reducible refine HC.out.mono ?_); rintro e W4 ⟨⟨d, rfl, hdi, hdf, hdz, hdu⟩, hb⟩; have HDZ := hide hdz; have HDU := hide hdu; clear hdz hdu; have q1 : w.heap.size + 1 < (w1.alloc (.cells #[.int .i64 x1, .int .i64 x0] 3)).drew.heap.size := (by have := HW1L.out; simp; omega); have q2 : pa.block < (w1.alloc (.cells #[.int .i64 x1, .int .i64 x0] 3)).drew.heap.size := (by have := HQ.out; simp; omega); have hS2 := CS4.keep hS1 q1 q1 q2 q2 hb; have n1 : w.heap.size ≠ w.heap.size + 1 := (by omega); have n2 : w.heap.size ≠ pa.block := (Nat.ne_of_lt HPL.out).symm; have hS3 := hide (CS4.far (CS4.far hS2 n1 n1 n2 n2 0 (.slice d.P d.zs.length d.cap)) n1 n1 n2 n2 1 (.bool d.u)); have hz4 := HZ0.out.below hb HZ0.out.lt; have hB4 := HBA.out.trans (hb.mono HBA.out.size); obtain ⟨z0, z1, zf0, zf1, HZf, HFf⟩ := elm_two hz4 hB4 (Nat.le_refl _) (.slice d.P d.zs.length d.cap) (.bool d.u); have hdl := hide (hdi.far2 hdf (by show w.heap.size < _; have := HW1L.out; simp; omega) (.slice d.P d.zs.length d.cap) (.bool d.u))))
 go_wp2_with fail
 refine bodyPost_ret (results_desc rfl _ _ w.heap.size _ _ rfl HZf.out) rfl ?_
 rw [HD1.out, HD2.out, HCD.out]
 exact ⟨⟨d, rfl, hdl.out, fun ad h => Nat.le_trans (by have := HW1L.out; simp; omega) (hdf ad h), HDZ.out, HDU.out⟩, HFf.out⟩
abbrev CS3 (p0 p1 p2 : Addr) (v0 v1 v2 : Value) (W : World) : Prop := W.cell? p0 = some v0 ∧ W.cell? p1 = some v1 ∧ W.cell? p2 = some v2
theorem CS3.keep {p0 p1 p2 : Addr} {v0 v1 v2 : Value} {W W' : World} (h : CS3 p0 p1 p2 v0 v1 v2 W) (l0 : p0.block < W.heap.size) (l1 : p1.block < W.heap.size) (l2 : p2.block < W.heap.size) (hB : Below W.heap.size W W') : CS3 p0 p1 p2 v0 v1 v2 W' := by
 obtain ⟨h0, h1, h2⟩ := h
 exact ⟨(hB.cell l0).trans h0, (hB.cell l1).trans h1, (hB.cell l2).trans h2⟩
theorem CS3.far {p0 p1 p2 : Addr} {v0 v1 v2 : Value} {W : World} (h : CS3 p0 p1 p2 v0 v1 v2 W) {b : Nat} (l0 : b ≠ p0.block) (l1 : b ≠ p1.block) (l2 : b ≠ p2.block) (j : Nat) (x : Value) : CS3 p0 p1 p2 v0 v1 v2 (W.setCell ⟨b, j, none⟩ x) := by
 obtain ⟨h0, h1, h2⟩ := h
 have f : ∀ (p : Addr) (v : Value), b ≠ p.block → W.cell? p = some v → (W.setCell ⟨b, j, none⟩ x).cell? p = some v := fun p v hn hc => by
  rw [World.cell?_setCell_far _ _ _ _ (by exact hn)]
  exact hc
 exact ⟨f _ _ l0 h0, f _ _ l1 h1, f _ _ l2 h2⟩
theorem CS3.drew {p0 p1 p2 : Addr} {v0 v1 v2 : Value} {W : World} (h : CS3 p0 p1 p2 v0 v1 v2 W) : CS3 p0 p1 p2 v0 v1 v2 W.drew := h
def RTenE (w : World) (F : Nat × Option Nat) (zs : List Int) (u : Bool) (ds : List Int) (e : Ending) (w' : World) : Prop :=
 (∃ t : Ten, e = .returned (.tuple #[.agg (tcells t.P t.zs.length t.cap t.u t.D t.ds.length t.dcap), .agg (Tens.fval F)]) ∧ t.In w' ∧ t.zs = zs ∧ t.u = u ∧ t.ds = ds) ∧ Below w.heap.size w w'
theorem RTenE.bad {w W : World} {F : Nat × Option Nat} {e : Ending} (he : e = .returned (.tuple #[.agg (tcells none 0 0 false none 0 0), .agg (Tens.fval F)])) (hb : Below w.heap.size w W) : RTenE w F [] false [] e W :=
 ⟨⟨⟨none, [], 0, false, none, [], 0⟩, he, ⟨Ri.nil _ _, Ri.nil _ _, by simp, by simp⟩, rfl, rfl, rfl⟩, hb⟩
abbrev FatS (g : Nat) (w : World) (x y : Value) (W : World) : Prop := W.cell? ⟨g, 0, none⟩ = some x ∧ W.cell? ⟨g, 1, none⟩ = some y ∧ Hid (Below w.heap.size w W)
theorem FatS.keep {g : Nat} {w : World} {x y : Value} {W W' : World} (h : FatS g w x y W) (hb : Below W.heap.size W W') : FatS g w x y W' :=
 ⟨ten_kept h.1 hb, ten_kept h.2.1 hb, hide (h.2.2.out.trans (hb.mono h.2.2.out.size))⟩
theorem FatS.of {g : Nat} {w W : World} {x y : Value} {t : TypeId} (h : Has W g t [x, y]) (hb : Below w.heap.size w W) : FatS g w x y W :=
 ⟨by rw [h.cell]; rfl, by rw [h.cell]; rfl, hide hb⟩
theorem Cv.code3q (q0 q1 q2 : Int) (a b : Dsc) : Cv.code [q0, q1, q2] a b = (if Shp.firstbad [a, b] ≠ 0 then Shp.firstbad [a, b]
 else if a.u = true ∨ b.u = true ∨ a.zs.length ≠ 3 ∨ b.zs.length ≠ 4 ∨ b.zs.getD 2 0 ≠ a.zs.getD 2 0 then 101
 else if q0 < 1 ∨ q0 > 16 ∨ q1 < 0 ∨ q1 > 15 ∨ Tens.narrow q2 ≠ q2 then 102
 else if b.zs.getD 0 0 > a.zs.getD 0 0 + 2 * q1 ∨ b.zs.getD 1 0 > a.zs.getD 1 0 + 2 * q1 then 101
 else Shp.code (Cv.dims [q0, q1, q2] a b)) := by
 unfold Cv.code
 rw [if_neg (by simp)]
 rfl
set_option maxRecDepth 100000 in
set_option maxHeartbeats 2000000 in
theorem rconv_c (qs : List Int) (A : Option Addr) (qcap : Nat) (a b : Dsc) (w : World) (hQ : Ri w A qs) (ha : a.In w) (hb : b.In w) :
  Calls Tryz.prog 68 #[.slice A qs.length qcap, .agg (dcells a.P a.zs.length a.cap a.u), .agg (dcells b.P b.zs.length b.cap b.u)] w (RefE w (Cv.shape qs a b) (Cv.kind qs a b) (Cv.code qs a b)) := by
 obtain ⟨W0, hW0⟩ : ∃ W, W = (((w.alloc (.cells #[.slice a.P a.zs.length a.cap, .bool a.u] 24)).alloc (.cells #[.slice b.P b.zs.length b.cap, .bool b.u] 24)).alloc (.cells #[.slice none 0 0, .bool false] 24)) := ⟨_, rfl⟩
 have HA : Hid (Has W0 w.heap.size 24 [.slice a.P a.zs.length a.cap, .bool a.u]) := hide (by rw [hW0]; exact ((Has.new w 24 _).alloc _).alloc _)
 have HB : Hid (Has W0 (w.heap.size + 1) 24 [.slice b.P b.zs.length b.cap, .bool b.u]) := hide (by rw [hW0]; exact (box_at _ _ _ _ (by simp)).alloc _)
 have HZ : Hid (Has W0 (w.heap.size + 2) 24 [.slice none 0 0, .bool false]) := hide (by rw [hW0]; exact box_at _ _ _ _ (by simp))
 have HB0 : Hid (Below w.heap.size w W0) := hide (by rw [hW0]; exact (((Below.refl _ _).alloc (Nat.le_refl _) _).alloc (by simp) _).alloc (by simp; omega) _)
 have hs0 : W0.heap.size = w.heap.size + 3 := by rw [hW0]; simp
 have HW := hide hW0
 by_cases hq : qs.length = 3
 case neg =>
  have hcd : Cv.code qs a b = 101 := by
   unfold Cv.code
   rw [if_pos hq]
  obtain ⟨e1, e2⟩ := Cv.bad (by rw [hcd]; decide)
  have HD1 := hide e1
  have HD2 := hide e2
  have HCD := hide hcd
  clear e1 e2 hcd
  obtain ⟨nq, hnq⟩ : ∃ n, Hid (qs.length = n) := ⟨_, hide rfl⟩
  rw [hnq.out] at hq ⊢
  have i1 : ((nq : Int) == 3) = false := by simp; omega
  have i2 : ((nq : Int) != 3) = true := by simp; omega
  clear hQ ha hb hW0 hq hs0
  go_enter Tryz.func68, Tryz.ntmps68
  go_wp2_with fail
  rw [← HW.out]
  refine bodyPost_ret (results_desc rfl _ _ (w.heap.size + 2) _ _ rfl HZ.out) rfl ?_
  rw [HD1.out, HD2.out, HCD.out]
  exact RefE.bad rfl HB0.out
 case pos =>
 obtain ⟨q0, q1, q2, rfl⟩ : ∃ x y z, qs = [x, y, z] := by
  match qs, hq with
  | [x, y, z], _ => exact ⟨x, y, z, rfl⟩
 clear hq
 obtain ⟨pq, hpq, hpql, e0, e1, e2⟩ := ri_three hQ
 subst hpq
 have HQ0 := hide e0
 have HQ1 := hide e1
 have HQ2 := hide e2
 have HQL := hide hpql
 obtain ⟨W1, hW1⟩ : ∃ W, W = W0.alloc (.cells #[.slice a.P a.zs.length a.cap, .bool a.u, .slice b.P b.zs.length b.cap, .bool b.u] 24) := ⟨_, rfl⟩
 have HS : Hid (Has W1 (w.heap.size + 3) 24 ([a, b].flatMap Dsc.vals)) := hide (by rw [hW1]; exact box_at _ _ _ _ hs0)
 have hb1 : Below W0.heap.size W0 W1 := by rw [hW1]; exact (Below.refl _ _).alloc (Nat.le_refl _) _
 replace HA := hide (HA.out.below hb1 HA.out.lt)
 replace HB := hide (HB.out.below hb1 HB.out.lt)
 replace HZ := hide (HZ.out.below hb1 HZ.out.lt)
 replace HB0 := hide (HB0.out.trans (hb1.mono HB0.out.size))
 have HW1 : Hid (W1 = ((((w.alloc (.cells #[.slice a.P a.zs.length a.cap, .bool a.u] 24)).alloc (.cells #[.slice b.P b.zs.length b.cap, .bool b.u] 24)).alloc (.cells #[.slice none 0 0, .bool false] 24)).alloc (.cells #[.slice a.P a.zs.length a.cap, .bool a.u, .slice b.P b.zs.length b.cap, .bool b.u] 24))) := hide (by rw [hW1, hW0])
 have HDS := hide (descs_c [a, b] (some ⟨w.heap.size + 3, 0, none⟩) 2 W1 HS.out.row (fun d hd => by
  simp at hd
  rcases hd with rfl | rfl
  ·exact ha.below HB0.out
  ·exact hb.below HB0.out) (by simp))
 have HIa := hide (fun W (h : Below w.heap.size w W) => ha.shp.below h)
 have HIb := hide (fun W (h : Below w.heap.size w W) => hb.shp.below h)
 have HNW := hide (fun n W => rnarrow_c n W)
 have HQR := hide hQ.1
 obtain ⟨F, hF⟩ : ∃ n, Hid (Shp.firstbad [a, b] = n) := ⟨_, hide rfl⟩
 rw [hF.out] at HDS
 clear hQ ha hb hW0 hs0 e0 e1 e2 hpql hW1 hb1 HS HW
 show Calls Tryz.prog 68 #[.slice (some pq) 3 qcap, .agg (dcells a.P a.zs.length a.cap a.u), .agg (dcells b.P b.zs.length b.cap b.u)] w _
 go_enter Tryz.func68, Tryz.ntmps68
 go_wp2_with fail
 rw [← HW1.out]
 clear HW1
 refine HDS.out.mono ?_
 rintro e w1 ⟨rfl, hb⟩
 replace HA := hide (HA.out.below hb HA.out.lt)
 replace HB := hide (HB.out.below hb HB.out.lt)
 replace HZ := hide (HZ.out.below hb HZ.out.lt)
 replace HB0 := hide (HB0.out.trans (hb.mono HB0.out.size))
 clear hb HDS
 by_cases h0 : F = 0
 case neg =>
  have hcd : Cv.code [q0, q1, q2] a b = F := by
   rw [Cv.code3q, hF.out, if_pos h0]
  obtain ⟨e1, e2⟩ := Cv.bad (by rw [hcd]; exact h0)
  have HD1 := hide e1
  have HD2 := hide e2
  have HCD := hide hcd
  have h1 : ((F : Int) == 0) = false := by simp; omega
  have h2 : ((F : Int) != 0) = true := by simp; omega
  clear e1 e2 hcd h0
  obtain ⟨z0, z1, zf0, zf1, HZf, HFf⟩ := elm_two HZ.out HB0.out (Nat.le_add_right _ 2) (.slice none 0 0) (.bool false)
  go_wp2_with fail
  refine bodyPost_ret (results_desc rfl _ _ (w.heap.size + 2) _ _ rfl HZf.out) rfl ?_
  rw [HD1.out, HD2.out, HCD.out]
  exact RefE.bad rfl HFf.out
 case pos =>
 subst h0
 have HFB := hF
 have hca : Shp.code a.zs = 0 := Classical.byContradiction fun h => by
  have h1 := hF.out
  unfold Shp.firstbad at h1
  rw [if_neg h] at h1
  exact h h1
 have hcb : Shp.code b.zs = 0 := Classical.byContradiction fun h => by
  have h1 := hF.out
  unfold Shp.firstbad at h1
  rw [if_pos hca] at h1
  unfold Shp.firstbad at h1
  rw [if_neg h] at h1
  exact h h1
 have HCA := hide (Shp.whole hca).2.1
 have HCB := hide (Shp.whole hcb).2.1
 clear hca hcb
 have HC101 : Hid (¬ (¬ (a.u = true ∨ b.u = true ∨ a.zs.length ≠ 3 ∨ b.zs.length ≠ 4 ∨ b.zs.getD 2 0 ≠ a.zs.getD 2 0)) → Cv.code [q0, q1, q2] a b = 101) := hide (fun h => by
  rw [Cv.code3q, if_neg (by rw [HFB.out]; simp), if_pos (Classical.byContradiction h)])
 have HC102 : Hid (¬ (a.u = true ∨ b.u = true ∨ a.zs.length ≠ 3 ∨ b.zs.length ≠ 4 ∨ b.zs.getD 2 0 ≠ a.zs.getD 2 0) → (q0 < 1 ∨ q0 > 16 ∨ q1 < 0 ∨ q1 > 15 ∨ Tens.narrow q2 ≠ q2) → Cv.code [q0, q1, q2] a b = 102) := hide (fun h h' => by
  rw [Cv.code3q, if_neg (by rw [HFB.out]; simp), if_neg h, if_pos h'])
 have HC103 : Hid (¬ (a.u = true ∨ b.u = true ∨ a.zs.length ≠ 3 ∨ b.zs.length ≠ 4 ∨ b.zs.getD 2 0 ≠ a.zs.getD 2 0) → ¬ (q0 < 1 ∨ q0 > 16 ∨ q1 < 0 ∨ q1 > 15 ∨ Tens.narrow q2 ≠ q2) → (b.zs.getD 0 0 > a.zs.getD 0 0 + 2 * q1 ∨ b.zs.getD 1 0 > a.zs.getD 1 0 + 2 * q1) → Cv.code [q0, q1, q2] a b = 101) := hide (fun h h' h2 => by
  rw [Cv.code3q, if_neg (by rw [HFB.out]; simp), if_neg h, if_neg h', if_pos h2])
 have HC104 : Hid (¬ (a.u = true ∨ b.u = true ∨ a.zs.length ≠ 3 ∨ b.zs.length ≠ 4 ∨ b.zs.getD 2 0 ≠ a.zs.getD 2 0) → ¬ (q0 < 1 ∨ q0 > 16 ∨ q1 < 0 ∨ q1 > 15 ∨ Tens.narrow q2 ≠ q2) → ¬ (b.zs.getD 0 0 > a.zs.getD 0 0 + 2 * q1 ∨ b.zs.getD 1 0 > a.zs.getD 1 0 + 2 * q1) → Cv.code [q0, q1, q2] a b = Shp.code (Cv.dims [q0, q1, q2] a b)) := hide (fun h h' h2 => by
  rw [Cv.code3q, if_neg (by rw [HFB.out]; simp), if_neg h, if_neg h', if_neg h2])
 obtain ⟨na, hna⟩ : ∃ n, Hid (a.zs.length = n) := ⟨_, hide rfl⟩
 obtain ⟨nb, hnb⟩ : ∃ n, Hid (b.zs.length = n) := ⟨_, hide rfl⟩
 obtain ⟨ua, hua⟩ : ∃ n, Hid (a.u = n) := ⟨_, hide rfl⟩
 obtain ⟨ub, hub⟩ : ∃ n, Hid (b.u = n) := ⟨_, hide rfl⟩
 rw [hna.out, hnb.out, hua.out, hub.out] at HC101 HC102 HC103 HC104
 rw [hna.out, hua.out] at HA
 rw [hnb.out, hub.out] at HB
 have a0 : w1.cell? ⟨w.heap.size, 0, none⟩ = some (.slice a.P na a.cap) := HA.out.cell 0
 have a1 : w1.cell? ⟨w.heap.size, 1, none⟩ = some (.bool ua) := HA.out.cell 1
 have b0 : w1.cell? ⟨w.heap.size + 1, 0, none⟩ = some (.slice b.P nb b.cap) := HB.out.cell 0
 have b1 : w1.cell? ⟨w.heap.size + 1, 1, none⟩ = some (.bool ub) := HB.out.cell 1
 have hq1 : ((0 : Int) == 0) = true := rfl
 have hq2 : ((0 : Int) != 0) = false := rfl
 go_wp2_with fail
 clear hq1 hq2
 by_cases h1 : na = 3
 case neg =>
  have i1 : ((na : Int) == 3) = false := by simp; omega
  have i2 : ((na : Int) != 3) = true := by simp; omega
  have hcd : Cv.code [q0, q1, q2] a b = 101 := HC101.out (by exact fun h => h (.inr (.inr (.inl h1))))
  obtain ⟨e1, e2⟩ := Cv.bad (by rw [hcd]; decide)
  have HD1 := hide e1
  have HD2 := hide e2
  have HCD := hide hcd
  clear e1 e2 hcd
  go_quiet (fail)
  clear a0 a1 b0 b1
  replace HZ := hide (HZ.out.drewN nq)
  replace HA := hide (HA.out.drewN nq)
  replace HB := hide (HB.out.drewN nq)
  replace HB0 := hide (below_drewN HB0.out nq)
  generalize w1.drewN nq = W3 at *
  obtain ⟨z0, z1, zf0, zf1, HZf, HFf⟩ := elm_two HZ.out HB0.out (Nat.le_add_right _ 2) (.slice none 0 0) (.bool false)
  go_wp2_with fail
  refine bodyPost_ret (results_desc rfl _ _ (w.heap.size + 2) _ _ rfl HZf.out) rfl ?_
  rw [HD1.out, HD2.out, HCD.out]
  exact RefE.bad rfl HFf.out
 case pos =>
 subst h1
 by_cases h2 : nb = 4
 case neg =>
  have i1 : ((nb : Int) == 4) = false := by simp; omega
  have i2 : ((nb : Int) != 4) = true := by simp; omega
  have hcd : Cv.code [q0, q1, q2] a b = 101 := HC101.out (by exact fun h => h (.inr (.inr (.inr (.inl h2)))))
  obtain ⟨e1, e2⟩ := Cv.bad (by rw [hcd]; decide)
  have HD1 := hide e1
  have HD2 := hide e2
  have HCD := hide hcd
  clear e1 e2 hcd
  go_quiet (fail)
  clear a0 a1 b0 b1
  replace HZ := hide (HZ.out.drewN nq)
  replace HA := hide (HA.out.drewN nq)
  replace HB := hide (HB.out.drewN nq)
  replace HB0 := hide (below_drewN HB0.out nq)
  generalize w1.drewN nq = W3 at *
  obtain ⟨z0, z1, zf0, zf1, HZf, HFf⟩ := elm_two HZ.out HB0.out (Nat.le_add_right _ 2) (.slice none 0 0) (.bool false)
  go_wp2_with fail
  refine bodyPost_ret (results_desc rfl _ _ (w.heap.size + 2) _ _ rfl HZf.out) rfl ?_
  rw [HD1.out, HD2.out, HCD.out]
  exact RefE.bad rfl HFf.out
 case pos =>
 subst h2
 cases ua
 case true =>
  have hcd : Cv.code [q0, q1, q2] a b = 101 := HC101.out (by exact fun h => h (.inl rfl))
  obtain ⟨e1, e2⟩ := Cv.bad (by rw [hcd]; decide)
  have HD1 := hide e1
  have HD2 := hide e2
  have HCD := hide hcd
  clear e1 e2 hcd
  go_quiet (fail)
  clear a0 a1 b0 b1
  replace HZ := hide (HZ.out.drewN nq)
  replace HA := hide (HA.out.drewN nq)
  replace HB := hide (HB.out.drewN nq)
  replace HB0 := hide (below_drewN HB0.out nq)
  generalize w1.drewN nq = W3 at *
  obtain ⟨z0, z1, zf0, zf1, HZf, HFf⟩ := elm_two HZ.out HB0.out (Nat.le_add_right _ 2) (.slice none 0 0) (.bool false)
  go_wp2_with fail
  refine bodyPost_ret (results_desc rfl _ _ (w.heap.size + 2) _ _ rfl HZf.out) rfl ?_
  rw [HD1.out, HD2.out, HCD.out]
  exact RefE.bad rfl HFf.out
 case false =>
 cases ub
 case true =>
  have hcd : Cv.code [q0, q1, q2] a b = 101 := HC101.out (by exact fun h => h (.inr (.inl rfl)))
  obtain ⟨e1, e2⟩ := Cv.bad (by rw [hcd]; decide)
  have HD1 := hide e1
  have HD2 := hide e2
  have HCD := hide hcd
  clear e1 e2 hcd
  go_quiet (fail)
  clear a0 a1 b0 b1
  replace HZ := hide (HZ.out.drewN nq)
  replace HA := hide (HA.out.drewN nq)
  replace HB := hide (HB.out.drewN nq)
  replace HB0 := hide (below_drewN HB0.out nq)
  generalize w1.drewN nq = W3 at *
  obtain ⟨z0, z1, zf0, zf1, HZf, HFf⟩ := elm_two HZ.out HB0.out (Nat.le_add_right _ 2) (.slice none 0 0) (.bool false)
  go_wp2_with fail
  refine bodyPost_ret (results_desc rfl _ _ (w.heap.size + 2) _ _ rfl HZf.out) rfl ?_
  rw [HD1.out, HD2.out, HCD.out]
  exact RefE.bad rfl HFf.out
 case false =>
 obtain ⟨x0, x1, x2, hax⟩ : ∃ x y z, Hid (a.zs = [x, y, z]) := by
  match hz : a.zs, hna.out with
  | [x, y, z], _ => exact ⟨x, y, z, hide rfl⟩
 obtain ⟨y0, y1, y2, y3, hbx⟩ : ∃ x y z v, Hid (b.zs = [x, y, z, v]) := by
  match hz : b.zs, hnb.out with
  | [x, y, z, v], _ => exact ⟨x, y, z, v, hide rfl⟩
 have hra := HIa.out w1 HB0.out
 have hrb := HIb.out w1 HB0.out
 rw [hax.out] at hra HC101 HC102 HC103 HC104 HCA
 rw [hbx.out] at hrb HC101 HC102 HC103 HC104 HCB
 obtain ⟨pa, epa, hpal, p0, p1, p2⟩ := ri_three hra
 obtain ⟨pb, epb, hpbl, r0, r1, r2, r3⟩ := ri_four hrb
 have HPL : Hid (pa.block < w.heap.size) := hide (by obtain ⟨ad, h1, h2, -⟩ := (HIa.out w (Below.refl _ _)).2 (by rw [hax.out]; simp); rw [epa] at h1; rw [Option.some.inj h1]; exact h2)
 have HRL : Hid (pb.block < w.heap.size) := hide (by obtain ⟨ad, h1, h2, -⟩ := (HIb.out w (Below.refl _ _)).2 (by rw [hbx.out]; simp); rw [epb] at h1; rw [Option.some.inj h1]; exact h2)
 have HX : Hid ((1 ≤ x0 ∧ x0 ≤ 256) ∧ (1 ≤ x1 ∧ x1 ≤ 256) ∧ (1 ≤ y0 ∧ y0 ≤ 256) ∧ (1 ≤ y1 ∧ y1 ≤ 256) ∧ (1 ≤ y3 ∧ y3 ≤ 256)) := hide ⟨HCA.out x0 (by simp), HCA.out x1 (by simp), HCB.out y0 (by simp), HCB.out y1 (by simp), HCB.out y3 (by simp)⟩
 rw [epa] at a0 HA
 rw [epb] at b0 HB
 clear epa epb hra hrb hpal hpbl HCA HCB
 by_cases hxy : x2 = y2
 case neg =>
  have i1 : (x2 == y2) = false := by simpa using hxy
  have i2 : (x2 != y2) = true := by simpa using hxy
  have hcd : Cv.code [q0, q1, q2] a b = 101 := HC101.out (by exact fun h => h (.inr (.inr (.inr (.inr (by simpa using fun h => hxy h.symm))))))
  obtain ⟨e1, e2⟩ := Cv.bad (by rw [hcd]; decide)
  have HD1 := hide e1
  have HD2 := hide e2
  have HCD := hide hcd
  clear e1 e2 hcd
  go_quiet (fail)
  clear a0 a1 b0 b1 p0 p1 p2 r0 r1 r2 r3
  replace HZ := hide (HZ.out.drewN nq)
  replace HA := hide (HA.out.drewN nq)
  replace HB := hide (HB.out.drewN nq)
  replace HB0 := hide (below_drewN HB0.out nq)
  generalize w1.drewN nq = W3 at *
  obtain ⟨z0, z1, zf0, zf1, HZf, HFf⟩ := elm_two HZ.out HB0.out (Nat.le_add_right _ 2) (.slice none 0 0) (.bool false)
  go_wp2_with fail
  refine bodyPost_ret (results_desc rfl _ _ (w.heap.size + 2) _ _ rfl HZf.out) rfl ?_
  rw [HD1.out, HD2.out, HCD.out]
  exact RefE.bad rfl HFf.out
 case pos =>
 subst hxy
 have i1 : (x2 == x2) = true := by simp
 have i2 : (x2 != x2) = false := by simp
 have HNO : Hid (¬ (false = true ∨ false = true ∨ 3 ≠ 3 ∨ 4 ≠ 4 ∨ [y0, y1, x2, y3].getD 2 0 ≠ [x0, x1, x2].getD 2 0)) := hide (by simp)
 have HP0 : Hid (∀ W, Below w1.heap.size w1 W → W.cell? pa = some (.int .i64 x0) ∧ W.cell? ⟨pa.block, pa.off + 1, none⟩ = some (.int .i64 x1)) := hide (fun W hb => ⟨ten_kept p0 hb, ten_kept p1 hb⟩)
 have HR0 : Hid (∀ W, Below w1.heap.size w1 W → W.cell? pb = some (.int .i64 y0) ∧ W.cell? ⟨pb.block, pb.off + 1, none⟩ = some (.int .i64 y1) ∧ W.cell? ⟨pb.block, pb.off + 3, none⟩ = some (.int .i64 y3)) := hide (fun W hb => ⟨ten_kept r0 hb, ten_kept r1 hb, ten_kept r3 hb⟩)
 have HBX := hide (Below.refl w1.heap.size w1)
 have HQC : Hid (∀ W, Below w.heap.size w W → W.cell? pq = some (.int .i64 q0) ∧ W.cell? ⟨pq.block, pq.off + 1, none⟩ = some (.int .i64 q1) ∧ W.cell? ⟨pq.block, pq.off + 2, none⟩ = some (.int .i64 q2)) := hide (fun W hb => ⟨ten_kept HQ0.out hb, ten_kept HQ1.out hb, ten_kept HQ2.out hb⟩)
 go_quiet (fail)
 clear a0 a1 b0 b1 p0 p1 p2 r0 r1 r2 r3 i1 i2
 replace HZ := hide (HZ.out.drewN nq)
 replace HA := hide (HA.out.drewN nq)
 replace HB := hide (HB.out.drewN nq)
 replace HB0 := hide (below_drewN HB0.out nq)
 replace HBX := hide (below_drewN HBX.out nq)
 generalize w1.drewN nq = W3 at *
 have hs1 := HQC.out W3 HB0.out
 have e0 := hs1.1
 have e1 := hs1.2.1
 have e2 := hs1.2.2
 clear hs1
 have NO2 : ∀ (h : q0 < 1 ∨ q0 > 16 ∨ q1 < 0 ∨ q1 > 15 ∨ Tens.narrow q2 ≠ q2), Cv.code [q0, q1, q2] a b = 102 := fun h => HC102.out HNO.out h
 have HN2 := hide NO2
 clear NO2 HC101 HC102
 by_cases g0 : q0 < 1
 case pos =>
  have hcd := HN2.out (.inl g0)
  obtain ⟨e1', e2'⟩ := Cv.bad (by rw [hcd]; decide)
  have HD1 := hide e1'
  have HD2 := hide e2'
  have HCD := hide hcd
  clear e1' e2' hcd
  obtain ⟨z0, z1, zf0, zf1, HZf, HFf⟩ := elm_two HZ.out HB0.out (Nat.le_add_right _ 2) (.slice none 0 0) (.bool false)
  go_wp2_with fail
  refine bodyPost_ret (results_desc rfl _ _ (w.heap.size + 2) _ _ rfl HZf.out) rfl ?_
  rw [HD1.out, HD2.out, HCD.out]
  exact RefE.bad rfl HFf.out
 case neg =>
 by_cases g1 : 16 < q0
 case pos =>
  have hcd := HN2.out (.inr (.inl g1))
  obtain ⟨e1', e2'⟩ := Cv.bad (by rw [hcd]; decide)
  have HD1 := hide e1'
  have HD2 := hide e2'
  have HCD := hide hcd
  clear e1' e2' hcd
  obtain ⟨z0, z1, zf0, zf1, HZf, HFf⟩ := elm_two HZ.out HB0.out (Nat.le_add_right _ 2) (.slice none 0 0) (.bool false)
  go_wp2_with fail
  refine bodyPost_ret (results_desc rfl _ _ (w.heap.size + 2) _ _ rfl HZf.out) rfl ?_
  rw [HD1.out, HD2.out, HCD.out]
  exact RefE.bad rfl HFf.out
 case neg =>
 by_cases g2 : q1 < 0
 case pos =>
  have hcd := HN2.out (.inr (.inr (.inl g2)))
  obtain ⟨e1', e2'⟩ := Cv.bad (by rw [hcd]; decide)
  have HD1 := hide e1'
  have HD2 := hide e2'
  have HCD := hide hcd
  clear e1' e2' hcd
  obtain ⟨z0, z1, zf0, zf1, HZf, HFf⟩ := elm_two HZ.out HB0.out (Nat.le_add_right _ 2) (.slice none 0 0) (.bool false)
  go_wp2_with fail
  refine bodyPost_ret (results_desc rfl _ _ (w.heap.size + 2) _ _ rfl HZf.out) rfl ?_
  rw [HD1.out, HD2.out, HCD.out]
  exact RefE.bad rfl HFf.out
 case neg =>
 by_cases g3 : 15 < q1
 case pos =>
  have hcd := HN2.out (.inr (.inr (.inr (.inl g3))))
  obtain ⟨e1', e2'⟩ := Cv.bad (by rw [hcd]; decide)
  have HD1 := hide e1'
  have HD2 := hide e2'
  have HCD := hide hcd
  clear e1' e2' hcd
  obtain ⟨z0, z1, zf0, zf1, HZf, HFf⟩ := elm_two HZ.out HB0.out (Nat.le_add_right _ 2) (.slice none 0 0) (.bool false)
  go_wp2_with fail
  refine bodyPost_ret (results_desc rfl _ _ (w.heap.size + 2) _ _ rfl HZf.out) rfl ?_
  rw [HD1.out, HD2.out, HCD.out]
  exact RefE.bad rfl HFf.out
 case neg =>
 go_wp2_with fail
 refine (HNW.out q2 W3).mono ?_
 rintro e wq ⟨rfl, hw⟩
 have hw := hw.symm
 subst hw
 rw [Tens.fit_narrow]
 by_cases g4 : Tens.narrow q2 = q2
 case neg =>
  rw [decide_eq_false g4]
  have hcd := HN2.out (.inr (.inr (.inr (.inr g4))))
  obtain ⟨e1', e2'⟩ := Cv.bad (by rw [hcd]; decide)
  have HD1 := hide e1'
  have HD2 := hide e2'
  have HCD := hide hcd
  clear e1' e2' hcd
  obtain ⟨z0, z1, zf0, zf1, HZf, HFf⟩ := elm_two HZ.out HB0.out (Nat.le_add_right _ 2) (.slice none 0 0) (.bool false)
  go_wp2_with fail
  refine bodyPost_ret (results_desc rfl _ _ (w.heap.size + 2) _ _ rfl HZf.out) rfl ?_
  rw [HD1.out, HD2.out, HCD.out]
  exact RefE.bad rfl HFf.out
 case pos =>
 rw [decide_eq_true g4]
 have HNR : Hid (¬ (q0 < 1 ∨ q0 > 16 ∨ q1 < 0 ∨ q1 > 15 ∨ Tens.narrow q2 ≠ q2)) := hide (by
  rintro (h | h | h | h | h)
  ·omega
  ·omega
  ·omega
  ·omega
  ·exact h g4)
 clear e0 e1 e2 HN2 g4
 have hx := HX.out
 obtain ⟨rq, hrq⟩ : ∃ z : Int, Hid (2 * q1 = z) := ⟨_, hide rfl⟩
 obtain ⟨m0, hm0⟩ : ∃ z : Int, Hid (x0 + rq = z) := ⟨_, hide rfl⟩
 obtain ⟨m1, hm1⟩ : ∃ z : Int, Hid (x1 + rq = z) := ⟨_, hide rfl⟩
 have Kq : Hid (1 ≤ q0 ∧ q0 ≤ 16 ∧ 0 ≤ q1 ∧ q1 ≤ 15 ∧ 0 ≤ rq ∧ rq ≤ 30 ∧ 1 ≤ m0 ∧ m0 ≤ 286 ∧ 1 ≤ m1 ∧ m1 ≤ 286) := hide (by have h1 := hrq.out; have h2 := hm0.out; have h3 := hm1.out; omega)
 have Hrq : Hid (IntKind.i64.wrap (2 * q1) = rq) := hide (by rw [hrq.out, IntKind.wrap_i64]; have := Kq.out; omega)
 have Hm0 : Hid (IntKind.i64.wrap (x0 + rq) = m0) := hide (by rw [hm0.out, IntKind.wrap_i64]; have := Kq.out; omega)
 have Hm1 : Hid (IntKind.i64.wrap (x1 + rq) = m1) := hide (by rw [hm1.out, IntKind.wrap_i64]; have := Kq.out; omega)
 have hS := HP0.out W3 HBX.out
 have p0 := hS.1
 have p1 := hS.2
 have hS2 := HR0.out W3 HBX.out
 have r0 := hS2.1
 have r1 := hS2.2.1
 clear hS hS2
 have a0 : W3.cell? ⟨w.heap.size, 0, none⟩ = some (.slice (some pa) 3 a.cap) := HA.out.cell 0
 have b0 : W3.cell? ⟨w.heap.size + 1, 0, none⟩ = some (.slice (some pb) 4 b.cap) := HB.out.cell 0
 have HB13 : Hid (∀ (h : y0 > x0 + 2 * q1 ∨ y1 > x1 + 2 * q1), Cv.code [q0, q1, q2] a b = 101) := hide (fun h => HC103.out HNO.out HNR.out h)
 clear HC103
 by_cases k0 : m0 < y0
 case pos =>
  have hcd := HB13.out (.inl (by have h1 := hrq.out; have h2 := hm0.out; omega))
  clear HB13 HC104 g0 g1 g2 g3 hx
  go_wp2_with fail
  have o1 := Hrq.out
  have o2 := Hm0.out
  go_quiet (fail)
  clear o1 o2 a0 b0 p0 p1 r0 r1
  replace HZ := hide (HZ.out.drewN nq)
  replace HB0 := hide (below_drewN HB0.out nq)
  generalize W3.drewN nq = W4 at *
  obtain ⟨e1', e2'⟩ := Cv.bad (by rw [hcd]; decide)
  have HD1 := hide e1'
  have HD2 := hide e2'
  have HCD := hide hcd
  clear e1' e2' hcd
  obtain ⟨z0, z1, zf0, zf1, HZf, HFf⟩ := elm_two HZ.out HB0.out (Nat.le_add_right _ 2) (.slice none 0 0) (.bool false)
  go_wp2_with fail
  refine bodyPost_ret (results_desc rfl _ _ (w.heap.size + 2) _ _ rfl HZf.out) rfl ?_
  rw [HD1.out, HD2.out, HCD.out]
  exact RefE.bad rfl HFf.out
 case neg =>
 by_cases k1 : m1 < y1
 case pos =>
  have hcd := HB13.out (.inr (by have h1 := hrq.out; have h2 := hm1.out; omega))
  clear HB13 HC104 g0 g1 g2 g3 hx
  go_wp2_with fail
  have o1 := Hrq.out
  have o2 := Hm0.out
  have o3 := Hm1.out
  go_quiet (fail)
  clear o1 o2 o3 a0 b0 p0 p1 r0 r1
  replace HZ := hide (HZ.out.drewN nq)
  replace HB0 := hide (below_drewN HB0.out nq)
  generalize W3.drewN nq = W4 at *
  obtain ⟨e1', e2'⟩ := Cv.bad (by rw [hcd]; decide)
  have HD1 := hide e1'
  have HD2 := hide e2'
  have HCD := hide hcd
  clear e1' e2' hcd
  obtain ⟨z0, z1, zf0, zf1, HZf, HFf⟩ := elm_two HZ.out HB0.out (Nat.le_add_right _ 2) (.slice none 0 0) (.bool false)
  go_wp2_with fail
  refine bodyPost_ret (results_desc rfl _ _ (w.heap.size + 2) _ _ rfl HZf.out) rfl ?_
  rw [HD1.out, HD2.out, HCD.out]
  exact RefE.bad rfl HFf.out
 case neg =>
 have HCK := hide (HC104.out HNO.out HNR.out (by
  rintro (h | h)
  ·have h1 := hrq.out; have h2 := hm0.out
   have h3 : y0 > x0 + 2 * q1 := h
   omega
  ·have h1 := hrq.out; have h2 := hm1.out
   have h3 : y1 > x1 + 2 * q1 := h
   omega))
 clear HB13 HC104
 obtain ⟨d0, hd0⟩ : ∃ z : Int, Hid (m0 - y0 = z) := ⟨_, hide rfl⟩
 obtain ⟨d1, hd1⟩ : ∃ z : Int, Hid (m1 - y1 = z) := ⟨_, hide rfl⟩
 have Kd : Hid (0 ≤ d0 ∧ d0 ≤ 286 ∧ 0 ≤ d1 ∧ d1 ≤ 286) := hide (by have h1 := hd0.out; have h2 := hd1.out; have := Kq.out; omega)
 obtain ⟨h0, hh0⟩ : ∃ z : Int, Hid (d0 / q0 = z) := ⟨_, hide rfl⟩
 obtain ⟨h1, hh1⟩ : ∃ z : Int, Hid (d1 / q0 = z) := ⟨_, hide rfl⟩
 have Kh : Hid (0 ≤ h0 ∧ h0 ≤ 286 ∧ 0 ≤ h1 ∧ h1 ≤ 286) := hide (by
  have k := Kd.out
  have kq := Kq.out
  have u1 := Int.ediv_nonneg k.1 (show 0 ≤ q0 by omega)
  have u2 := Int.ediv_nonneg k.2.2.1 (show 0 ≤ q0 by omega)
  have u3 := Int.ediv_le_self q0 k.1
  have u4 := Int.ediv_le_self q0 k.2.2.1
  rw [hh0.out] at u1 u3
  rw [hh1.out] at u2 u4
  omega)
 have Hd0 : Hid (IntKind.i64.wrap (m0 - y0) = d0) := hide (by rw [hd0.out, IntKind.wrap_i64]; have := Kd.out; omega)
 have Hd1 : Hid (IntKind.i64.wrap (m1 - y1) = d1) := hide (by rw [hd1.out, IntKind.wrap_i64]; have := Kd.out; omega)
 have Ht0 : Hid (d0.tdiv q0 = h0) := hide (by rw [Int.tdiv_eq_ediv_of_nonneg (by have := Kd.out; omega)]; exact hh0.out)
 have Ht1 : Hid (d1.tdiv q0 = h1) := hide (by rw [Int.tdiv_eq_ediv_of_nonneg (by have := Kd.out; omega)]; exact hh1.out)
 have Hw0 : Hid (IntKind.i64.wrap h0 = h0) := hide (by rw [IntKind.wrap_i64]; have := Kh.out; omega)
 have Hw1 : Hid (IntKind.i64.wrap h1 = h1) := hide (by rw [IntKind.wrap_i64]; have := Kh.out; omega)
 obtain ⟨R0, hR0⟩ : ∃ z : Int, Hid (h0 + 1 = z) := ⟨_, hide rfl⟩
 obtain ⟨R1, hR1⟩ : ∃ z : Int, Hid (h1 + 1 = z) := ⟨_, hide rfl⟩
 have HR00 : Hid (IntKind.i64.wrap (h0 + 1) = R0) := hide (by rw [hR0.out, IntKind.wrap_i64]; have := Kh.out; have := hR0.out; omega)
 have HR11 : Hid (IntKind.i64.wrap (h1 + 1) = R1) := hide (by rw [hR1.out, IntKind.wrap_i64]; have := Kh.out; have := hR1.out; omega)
 have HDM : Hid (Cv.dims [q0, q1, q2] a b = [R0, R1, y3]) := hide (by
  unfold Cv.dims Cv.reach
  rw [hax.out, hbx.out]
  show [(x0 + 2 * q1 - y0) / q0 + 1, (x1 + 2 * q1 - y1) / q0 + 1, y3] = _
  rw [hrq.out, hm0.out, hm1.out, hd0.out, hd1.out, hh0.out, hh1.out, hR0.out, hR1.out])
 have HWF : Hid (∀ q ∈ [R0, R1, y3], (Lit.int .i64 q).wf = true) := hide (by
  intro q hq
  simp at hq
  have := Kh.out
  have := hR0.out
  have := hR1.out
  rcases hq with rfl | rfl | rfl <;> exact wf_i64 _ (by omega))
 have hqn : ¬ q0 = 0 := by omega
 clear hx g0 g1 g2 g3
 go_wp2_with fail
 have o1 := Hrq.out
 have o2 := Hm0.out
 have o3 := Hm1.out
 go_quiet (fail)
 clear o1 o2 o3 a0 b0 p0 p1 r0 r1
 replace HZ := hide (HZ.out.drewN nq)
 replace HA := hide (HA.out.drewN nq)
 replace HB := hide (HB.out.drewN nq)
 replace HB0 := hide (below_drewN HB0.out nq)
 replace HBX := hide (below_drewN HBX.out nq)
 generalize W3.drewN nq = W4 at *
 have a0 : W4.cell? ⟨w.heap.size, 0, none⟩ = some (.slice (some pa) 3 a.cap) := HA.out.cell 0
 have b0 : W4.cell? ⟨w.heap.size + 1, 0, none⟩ = some (.slice (some pb) 4 b.cap) := HB.out.cell 0
 have p0 := (HP0.out W4 HBX.out).1
 have r0 := (HR0.out W4 HBX.out).1
 go_wp2_with fail
 clear k0 k1
 have o1 := Hrq.out
 have o2 := Hm0.out
 have o3 := Hd0.out
 have o4 := hh0.out
 have o5 := Ht0.out
 have o6 := Hw0.out
 have o7 := HR00.out
 have o8 := Kd.out.1
 go_quiet (fail)
 clear o1 o2 o3 o4 o5 o6 o7 o8 a0 b0 p0 r0
 replace HZ := hide (HZ.out.drewN nq)
 replace HA := hide (HA.out.drewN nq)
 replace HB := hide (HB.out.drewN nq)
 replace HB0 := hide (below_drewN HB0.out nq)
 replace HBX := hide (below_drewN HBX.out nq)
 generalize W4.drewN nq = W5 at *
 have a0 : W5.cell? ⟨w.heap.size, 0, none⟩ = some (.slice (some pa) 3 a.cap) := HA.out.cell 0
 have b0 : W5.cell? ⟨w.heap.size + 1, 0, none⟩ = some (.slice (some pb) 4 b.cap) := HB.out.cell 0
 have p1 := (HP0.out W5 HBX.out).2
 have r1 := (HR0.out W5 HBX.out).2.1
 go_wp2_with fail
 have o1 := Hrq.out
 have o2 := Hm1.out
 have o3 := Hd1.out
 have o4 := hh1.out
 have o5 := Ht1.out
 have o6 := Hw1.out
 have o7 := HR11.out
 have o8 := Kd.out.2.2.1
 go_quiet (fail)
 clear o1 o2 o3 o4 o5 o6 o7 o8 a0 b0 p1 r1
 replace HZ := hide (HZ.out.drewN nq)
 replace HA := hide (HA.out.drewN nq)
 replace HB := hide (HB.out.drewN nq)
 replace HB0 := hide (below_drewN HB0.out nq)
 replace HBX := hide (below_drewN HBX.out nq)
 generalize W5.drewN nq = W6 at *
 have b0 : W6.cell? ⟨w.heap.size + 1, 0, none⟩ = some (.slice (some pb) 4 b.cap) := HB.out.cell 0
 have r3 := (HR0.out W6 HBX.out).2.2
 obtain ⟨W7, hW7⟩ : ∃ W, W = W6.alloc (.cells #[.int .i64 R0, .int .i64 R1, .int .i64 y3] 3) := ⟨_, rfl⟩
 have hb7 : Below W6.heap.size W6 W7 := by rw [hW7]; exact (Below.refl _ _).alloc (Nat.le_refl _) _
 have hri : Ri W7 (some ⟨W6.heap.size, 0, none⟩) [R0, R1, y3] := by rw [hW7]; exact (Has.new W6 3 (i64s [R0, R1, y3])).ri HWF.out
 have HSE := hide (seen_c ⟨some ⟨W6.heap.size, 0, none⟩, [R0, R1, y3], 3, true⟩ W7 ⟨hri, by simp⟩)
 have HZL := hide HZ.out.lt
 have HW6L := hide hb7.size
 replace HZ := hide (HZ.out.below hb7 HZ.out.lt)
 replace HB0 := hide (HB0.out.trans (hb7.mono HB0.out.size))
 have HW7 := hide hW7
 clear hb7 hri hW7
 go_wp2_with fail
 rw [← HW7.out]
 clear HW7 b0 r3
 refine HSE.out.mono ?_
 rintro e w9 ⟨⟨d, rfl, hdi, hdf, hdz, hdu⟩, hb⟩
 have HDZ := hide hdz
 have HDU := hide hdu
 clear hdz hdu
 have hz := HZ.out.below hb HZ.out.lt
 have hB := HB0.out.trans (hb.mono HB0.out.size)
 obtain ⟨z0, z1, zf0, zf1, HZf, HFf⟩ := elm_two hz hB (Nat.le_add_right _ 2) (.slice d.P d.zs.length d.cap) (.bool d.u)
 have hdl := hide (hdi.far2 hdf (show w.heap.size + 2 < W7.heap.size by have h1 := HZL.out; have h2 := HW6L.out; omega) (.slice d.P d.zs.length d.cap) (.bool d.u))
 have hdg := hide hdf
 clear hz hB hb hdi hdf HSE
 go_wp2_with fail
 refine bodyPost_ret (results_desc rfl _ _ (w.heap.size + 2) _ _ rfl HZf.out) rfl ?_
 have e1 : Cv.code [q0, q1, q2] a b = Shp.code [R0, R1, y3] := by rw [HCK.out, HDM.out]
 have e2 : Cv.shape [q0, q1, q2] a b = Rf.zs ⟨some ⟨W6.heap.size, 0, none⟩, [R0, R1, y3], 3, true⟩ := by
  unfold Cv.shape Rf.zs
  rw [e1, HDM.out]
 have e3 : Cv.kind [q0, q1, q2] a b = Rf.u ⟨some ⟨W6.heap.size, 0, none⟩, [R0, R1, y3], 3, true⟩ := by
  unfold Cv.kind Rf.u
  rw [e1]
  show _ = if Shp.code [R0, R1, y3] = 0 then true else false
  by_cases h : Shp.code [R0, R1, y3] = 0
  ·rw [decide_eq_true h, if_pos h]
  ·rw [decide_eq_false h, if_neg h]
 rw [e1, e2, e3]
 exact ⟨⟨d, rfl, hdl.out, fun ad h => Nat.le_trans (show w.heap.size ≤ W7.heap.size by have h1 := HZL.out; have h2 := HW6L.out; omega) (hdg.out ad h), HDZ.out, HDU.out⟩, HFf.out⟩
abbrev CS8 (p0 p1 p2 p3 p4 p5 p6 p7 : Addr) (v0 v1 v2 v3 v4 v5 v6 v7 : Value) (W : World) : Prop := W.cell? p0 = some v0 ∧ W.cell? p1 = some v1 ∧ W.cell? p2 = some v2 ∧ W.cell? p3 = some v3 ∧ W.cell? p4 = some v4 ∧ W.cell? p5 = some v5 ∧ W.cell? p6 = some v6 ∧ W.cell? p7 = some v7
theorem CS8.keep {p0 p1 p2 p3 p4 p5 p6 p7 : Addr} {v0 v1 v2 v3 v4 v5 v6 v7 : Value} {W W' : World} (h : CS8 p0 p1 p2 p3 p4 p5 p6 p7 v0 v1 v2 v3 v4 v5 v6 v7 W) (hB : Below W.heap.size W W') : CS8 p0 p1 p2 p3 p4 p5 p6 p7 v0 v1 v2 v3 v4 v5 v6 v7 W' := by
 obtain ⟨h0, h1, h2, h3, h4, h5, h6, h7⟩ := h
 exact ⟨ten_kept h0 hB, ten_kept h1 hB, ten_kept h2 hB, ten_kept h3 hB, ten_kept h4 hB, ten_kept h5 hB, ten_kept h6 hB, ten_kept h7 hB⟩
theorem CS8.drew {p0 p1 p2 p3 p4 p5 p6 p7 : Addr} {v0 v1 v2 v3 v4 v5 v6 v7 : Value} {W : World} (h : CS8 p0 p1 p2 p3 p4 p5 p6 p7 v0 v1 v2 v3 v4 v5 v6 v7 W) : CS8 p0 p1 p2 p3 p4 p5 p6 p7 v0 v1 v2 v3 v4 v5 v6 v7 W.drew := h
set_option maxRecDepth 100000 in
set_option maxHeartbeats 4000000 in
theorem rres_conv (qs : List Int) (a b : Dsc) (A B : Option Addr) (qcap cap : Nat) (w : World) (hQ : Ri w A qs) (hql : qs.length = 3) (hR : Row w B ([a, b].flatMap Dsc.vals)) (ha : a.In w) (hb : b.In w) :
  Calls Tryz.prog 38 #[.int .i64 13, .slice A 3 qcap, .slice B 2 cap] w (RefE w (Cv.shape qs a b) (Cv.kind qs a b) (Cv.code qs a b)) := by
 obtain ⟨W0, hW0⟩ : ∃ W, W = w.alloc (.cells #[.slice none 0 0, .bool false] 24) := ⟨_, rfl⟩
 have hbw : Below w.heap.size w W0 := by rw [hW0]; exact (Below.refl _ _).alloc (Nat.le_refl _) _
 have HZ : Hid (Has W0 w.heap.size 24 [.slice none 0 0, .bool false]) := hide (by rw [hW0]; exact Has.new _ _ _)
 obtain ⟨pr, hpr, hprl, r0, r1, r2, r3⟩ := rowd_two hR
 subst hpr
 have HS00 : CS4 pr ⟨pr.block, pr.off + 1, none⟩ ⟨pr.block, pr.off + 2, none⟩ ⟨pr.block, pr.off + 3, none⟩ (.slice a.P a.zs.length a.cap) (.bool a.u) (.slice b.P b.zs.length b.cap) (.bool b.u) w := ⟨r0, r1, r2, r3⟩
 have hS0 := CS4.drew (CS4.keep HS00 hprl hprl hprl hprl hbw)
 have HB0 := hide hbw.drew
 have hrc := rconv_c qs A qcap a b W0.drew (hQ.below hbw.drew) (ha.below hbw.drew) (hb.below hbw.drew)
 rw [hql] at hrc
 have HC : Hid (Calls Tryz.prog 68 #[.slice A 3 qcap, .agg #[.slice a.P a.zs.length a.cap, .bool a.u], .agg #[.slice b.P b.zs.length b.cap, .bool b.u]] W0.drew (RefE W0.drew (Cv.shape qs a b) (Cv.kind qs a b) (Cv.code qs a b))) := hide hrc
 have HW := hide hW0
 have HRL := hide hprl
 have HWZ : Hid (w.heap.size < W0.heap.size) := hide HZ.out.lt
 obtain ⟨k, hk⟩ : ∃ n, Hid (Cv.code qs a b = n) := ⟨_, hide rfl⟩
 obtain ⟨zs, hzs⟩ : ∃ n, Hid (Cv.shape qs a b = n) := ⟨_, hide rfl⟩
 obtain ⟨u, hu⟩ : ∃ n, Hid (Cv.kind qs a b = n) := ⟨_, hide rfl⟩
 rw [hk.out, hzs.out, hu.out] at HC ⊢
 clear hQ hR ha hb hW0 hbw r0 r1 r2 r3 HS00 hprl hrc hql
 go_enter Tryz.func38, Tryz.ntmps38
 go_wp2_with fail
 rw [← HW.out]
 clear HW
 refine (rknown13 _).mono ?_
 rintro e wq ⟨rfl, hw⟩
 have hw := hw.symm
 subst hw
 go_wp2_with fail
 refine (rins13 _).mono ?_
 rintro e wq ⟨rfl, hw⟩
 have hw := hw.symm
 subst hw
 go_wp2_with fail
 refine (rargs13 _).mono ?_
 rintro e wq ⟨rfl, hw⟩
 have hw := hw.symm
 subst hw
 go_wp2_with fail
 go_region_held3 (fun W => W.cell? pr = some (.slice a.P a.zs.length a.cap) ∧ W.cell? ⟨pr.block, pr.off + 1, none⟩ = some (.bool a.u) ∧ W.cell? ⟨pr.block, pr.off + 2, none⟩ = some (.slice b.P b.zs.length b.cap) ∧ W.cell? ⟨pr.block, pr.off + 3, none⟩ = some (.bool b.u))
  (first | with_reducible exact hS0 | with_reducible exact hS2 | with_reducible exact hS3.out | with_reducible assumption)
  (first | (go_at_call 68; (with_reducible refine HC.out.mono ?_); rintro e W4 ⟨⟨d, rfl, hdi, hdf, hdz, hdu⟩, hb⟩; have HDZ := hide hdz; have HDU := hide hdu; clear hdz hdu; have q2 : pr.block < W0.drew.heap.size := Nat.lt_trans HRL.out HWZ.out; have hS2 := CS4.keep hS0 q2 q2 q2 q2 hb; have n2 : w.heap.size ≠ pr.block := (Nat.ne_of_lt HRL.out).symm; have hS3 := hide (CS4.far (CS4.far hS2 n2 n2 n2 n2 0 (.slice d.P d.zs.length d.cap)) n2 n2 n2 n2 1 (.bool d.u)); have hz4 := (HZ.out.drewN 1).below hb (HZ.out.drewN 1).lt; have hB4 := HB0.out.trans (hb.mono HB0.out.size); obtain ⟨z0, z1, zf0, zf1, HZf, HFf⟩ := elm_two hz4 hB4 (Nat.le_refl _) (.slice d.P d.zs.length d.cap) (.bool d.u); have hdl := hide (hdi.far2 hdf (by exact HWZ.out) (.slice d.P d.zs.length d.cap) (.bool d.u))))
 go_wp2_with fail
 refine bodyPost_ret (results_desc rfl _ _ w.heap.size _ _ rfl HZf.out) rfl ?_
 exact ⟨⟨d, rfl, hdl.out, fun ad h => Nat.le_trans (Nat.le_of_lt HWZ.out) (hdf ad h), HDZ.out, HDU.out⟩, HFf.out⟩
def RpS (p0 p1 p2 p3 p4 p5 p6 : Addr) (v0 v1 v2 v3 v4 v5 v6 : Value) (W : World) : Prop := W.cell? p0 = some v0 ∧ W.cell? p1 = some v1 ∧ W.cell? p2 = some v2 ∧ W.cell? p3 = some v3 ∧ W.cell? p4 = some v4 ∧ W.cell? p5 = some v5 ∧ W.cell? p6 = some v6
theorem RpS.keep {p0 p1 p2 p3 p4 p5 p6 : Addr} {v0 v1 v2 v3 v4 v5 v6 : Value} {W W' : World} (h : RpS p0 p1 p2 p3 p4 p5 p6 v0 v1 v2 v3 v4 v5 v6 W) (hB : Below W.heap.size W W') : RpS p0 p1 p2 p3 p4 p5 p6 v0 v1 v2 v3 v4 v5 v6 W' := by
 obtain ⟨h0, h1, h2, h3, h4, h5, h6⟩ := h
 exact ⟨ten_kept h0 hB, ten_kept h1 hB, ten_kept h2 hB, ten_kept h3 hB, ten_kept h4 hB, ten_kept h5 hB, ten_kept h6 hB⟩
abbrev CS5 (p0 p1 p2 p3 p4 : Addr) (v0 v1 v2 v3 v4 : Value) (W : World) : Prop := W.cell? p0 = some v0 ∧ W.cell? p1 = some v1 ∧ W.cell? p2 = some v2 ∧ W.cell? p3 = some v3 ∧ W.cell? p4 = some v4
theorem CS5.keep {p0 p1 p2 p3 p4 : Addr} {v0 v1 v2 v3 v4 : Value} {W W' : World} (h : CS5 p0 p1 p2 p3 p4 v0 v1 v2 v3 v4 W) (hB : Below W.heap.size W W') : CS5 p0 p1 p2 p3 p4 v0 v1 v2 v3 v4 W' := by
 obtain ⟨h0, h1, h2, h3, h4⟩ := h
 exact ⟨ten_kept h0 hB, ten_kept h1 hB, ten_kept h2 hB, ten_kept h3 hB, ten_kept h4 hB⟩
theorem CS5.far {p0 p1 p2 p3 p4 : Addr} {v0 v1 v2 v3 v4 : Value} {W : World} (h : CS5 p0 p1 p2 p3 p4 v0 v1 v2 v3 v4 W) {b : Nat} (l0 : b ≠ p0.block) (l1 : b ≠ p1.block) (l2 : b ≠ p2.block) (l3 : b ≠ p3.block) (l4 : b ≠ p4.block) (j : Nat) (x : Value) : CS5 p0 p1 p2 p3 p4 v0 v1 v2 v3 v4 (W.setCell ⟨b, j, none⟩ x) := by
 obtain ⟨h0, h1, h2, h3, h4⟩ := h
 have f : ∀ (p : Addr) (v : Value), b ≠ p.block → W.cell? p = some v → (W.setCell ⟨b, j, none⟩ x).cell? p = some v := fun p v hn hc => by
  rw [World.cell?_setCell_far _ _ _ _ (by exact hn)]
  exact hc
 exact ⟨f _ _ l0 h0, f _ _ l1 h1, f _ _ l2 h2, f _ _ l3 h3, f _ _ l4 h4⟩
theorem Pl.code_dims {x0 x1 x2 q0 q1 : Int} (h0 : 1 ≤ x0 ∧ x0 ≤ 256) (h1 : 1 ≤ x1 ∧ x1 ≤ 256) (h2 : 1 ≤ x2 ∧ x2 ≤ 256) (hp : Shp.prod [x0, x1, x2] ≤ 16384) (hq : 1 ≤ q0 ∧ q0 ≤ x0 ∧ q0 ≤ x1 ∧ 1 ≤ q1) : Shp.code [Pl.reach x0 q0 q1, Pl.reach x1 q0 q1, x2] = 0 := by
 obtain ⟨H, rfl⟩ : ∃ n : Nat, x0 = n := ⟨x0.toNat, by omega⟩
 obtain ⟨W, rfl⟩ : ∃ n : Nat, x1 = n := ⟨x1.toNat, by omega⟩
 obtain ⟨C, rfl⟩ : ∃ n : Nat, x2 = n := ⟨x2.toNat, by omega⟩
 obtain ⟨s, rfl⟩ : ∃ n : Nat, q0 = n := ⟨q0.toNat, by omega⟩
 obtain ⟨t, rfl⟩ : ∃ n : Nat, q1 = n := ⟨q1.toNat, by omega⟩
 rw [Pl.reach_nat H s t (by omega), Pl.reach_nat W s t (by omega)]
 rw [Pl.prod3] at hp
 have hpn := Int.ofNat_le.1 hp
 have ho1 := Pl.outs H s t (by omega) (by omega)
 have ho2 := Pl.outs W s t (by omega) (by omega)
 exact Pl.dims_ok _ _ _ ⟨Nat.succ_pos _, Nat.le_trans ho1 (by omega)⟩ ⟨Nat.succ_pos _, Nat.le_trans ho2 (by omega)⟩ (by omega) (Nat.le_trans (Nat.mul_le_mul_right C (Nat.mul_le_mul ho1 ho2)) hpn)
set_option maxRecDepth 100000 in
set_option maxHeartbeats 4000000 in
theorem rpool_c (qs : List Int) (A : Option Addr) (qcap : Nat) (a : Dsc) (w : World) (hq : Ri w A qs) (ha : a.In w) :
  Calls Tryz.prog 69 #[.slice A qs.length qcap, .agg (dcells a.P a.zs.length a.cap a.u)] w (RefE w (Pl.shape qs a) (Pl.kind qs a) (Pl.code qs a)) := by
 obtain ⟨W0, hW0⟩ : ∃ W, W = (w.alloc (.cells #[.slice a.P a.zs.length a.cap, .bool a.u] 24)).alloc (.cells #[.slice none 0 0, .bool false] 24) := ⟨_, rfl⟩
 have HA : Hid (Has W0 w.heap.size 24 [.slice a.P a.zs.length a.cap, .bool a.u]) := hide (by rw [hW0]; exact (Has.new w 24 _).alloc _)
 have HZ : Hid (Has W0 (w.heap.size + 1) 24 [.slice none 0 0, .bool false]) := hide (by rw [hW0]; exact box_at _ _ _ _ (by simp))
 have HB0 : Hid (Below w.heap.size w W0) := hide (by rw [hW0]; exact ((Below.refl _ _).alloc (Nat.le_refl _) _).alloc (by simp) _)
 have HW := hide hW0
 by_cases hn : qs.length = 2
 case neg =>
  have hcd : Pl.code qs a = 101 := by
   unfold Pl.code
   rw [if_pos hn]
  obtain ⟨e1, e2⟩ := Pl.bad (by rw [hcd]; decide)
  have HD1 := hide e1
  have HD2 := hide e2
  have HCD := hide hcd
  clear e1 e2 hcd
  obtain ⟨nq, hnq⟩ : ∃ n, Hid (qs.length = n) := ⟨_, hide rfl⟩
  rw [hnq.out] at hn ⊢
  have hni : ((nq : Int) != 2) = true := by simp; omega
  clear hq ha hW0
  go_enter Tryz.func69, Tryz.ntmps69
  go_wp2_with fail
  rw [← HW.out]
  refine bodyPost_ret (results_desc rfl _ _ (w.heap.size + 1) _ _ rfl HZ.out) rfl ?_
  rw [HD1.out, HD2.out, HCD.out]
  exact RefE.bad rfl HB0.out
 case pos =>
 obtain ⟨q0, q1, rfl⟩ : ∃ x y, qs = [x, y] := by
  match h : qs, hn with
  | [x, y], _ => exact ⟨x, y, rfl⟩
 have HQ := hide (fun W (h : Below w.heap.size w W) => hq.below h)
 rw [hn]
 clear hn hq
 have HVa := hide (refvalid_c a.zs a.P a.cap a.u W0 (ha.shp.below HB0.out) (by have := ha.ls; omega))
 have HIa := hide (fun W (h : Below w.heap.size w W) => ha.shp.below h)
 have a0 := HA.out.cell 0
 have a1 := HA.out.cell 1
 clear ha hW0
 obtain ⟨ka, hka⟩ : ∃ k, Hid (Shp.code a.zs = k) := ⟨_, hide rfl⟩
 rw [hka.out] at HVa
 go_enter Tryz.func69, Tryz.ntmps69
 go_wp2_with fail
 rw [← HW.out]
 clear HW a0 a1
 refine HVa.out.mono ?_
 rintro e w1 ⟨rfl, hb⟩
 replace HB0 := hide (HB0.out.trans (hb.mono HB0.out.size))
 replace HA := hide (HA.out.below hb HA.out.lt)
 replace HZ := hide (HZ.out.below hb HZ.out.lt)
 clear hb HVa
 by_cases h1 : ka = 0
 case neg =>
  have hcd : Pl.code [q0, q1] a = ka := by
   rw [Pl.code2q, hka.out, if_pos h1]
  obtain ⟨e1, e2⟩ := Pl.bad (by rw [hcd]; exact h1)
  have HD1 := hide e1
  have HD2 := hide e2
  have HCD := hide hcd
  have i1 : ((ka : Int) == 0) = false := by simp; omega
  have i2 : ((ka : Int) != 0) = true := by simp; omega
  clear hcd e1 e2 h1
  obtain ⟨z0, z1, zf0, zf1, HZf, HFf⟩ := elm_two HZ.out HB0.out (Nat.le_add_right _ 1) (.slice none 0 0) (.bool false)
  go_wp2_with fail
  refine bodyPost_ret (results_desc rfl _ _ (w.heap.size + 1) _ _ rfl HZf.out) rfl ?_
  rw [HD1.out, HD2.out, HCD.out]
  exact RefE.bad rfl HFf.out
 case pos =>
 subst h1
 have i1 : (((0 : Nat) : Int) == 0) = true := rfl
 have i2 : (((0 : Nat) : Int) != 0) = false := rfl
 obtain ⟨na, hna⟩ : ∃ n, Hid (a.zs.length = n) := ⟨_, hide rfl⟩
 rw [hna.out] at HA
 have a0 : w1.cell? ⟨w.heap.size, 0, none⟩ = some (.slice a.P na a.cap) := HA.out.cell 0
 by_cases h2 : na = 3
 case neg =>
  have hcd : Pl.code [q0, q1] a = 101 := by
   rw [Pl.code2q, hka.out, if_neg (by simp), hna.out, if_pos h2]
  have hni : ((na : Int) != 3) = true := by simp; omega
  obtain ⟨e1, e2⟩ := Pl.bad (by rw [hcd]; decide)
  have HD1 := hide e1
  have HD2 := hide e2
  have HCD := hide hcd
  clear e1 e2 hcd h2
  obtain ⟨z0, z1, zf0, zf1, HZf, HFf⟩ := elm_two HZ.out HB0.out (Nat.le_add_right _ 1) (.slice none 0 0) (.bool false)
  go_wp2_with fail
  refine bodyPost_ret (results_desc rfl _ _ (w.heap.size + 1) _ _ rfl HZf.out) rfl ?_
  rw [HD1.out, HD2.out, HCD.out]
  exact RefE.bad rfl HFf.out
 case pos =>
 subst h2
 obtain ⟨x0, x1, x2, hx⟩ : ∃ x y z, a.zs = [x, y, z] := by
  have := hna.out
  match h : a.zs, this with
  | [x, y, z], _ => exact ⟨x, y, z, rfl⟩
 have HXA := HIa
 rw [hx] at HXA
 clear HIa
 have HCQ : Hid (Pl.code [q0, q1] a = if q0 < 1 ∨ q0 > 16 ∨ q1 < 1 ∨ q1 > 16 then 102 else if q0 > x0 ∨ q0 > x1 then 101 else 0) := hide (by
  rw [Pl.code2q, hka.out, if_neg (by simp), hna.out, if_neg (by simp), hx]
  rfl)
 have HSH : Hid (Pl.code [q0, q1] a = 0 → Pl.shape [q0, q1] a = [Pl.reach x0 q0 q1, Pl.reach x1 q0 q1, x2] ∧ Pl.kind [q0, q1] a = a.u) := hide (fun h => by
  unfold Pl.shape Pl.kind Pl.dims
  rw [if_pos h, if_pos h, hx]
  exact ⟨rfl, rfl⟩)
 have HDA := hide (Shp.whole hka.out)
 rw [hx] at HDA
 have HD0 := hide (HDA.out.2.1 x0 (by simp))
 have HD1' := hide (HDA.out.2.1 x1 (by simp))
 have HD2' := hide (HDA.out.2.1 x2 (by simp))
 have HDP := hide HDA.out.2.2.2.2
 obtain ⟨pa, hpa, hpal, p0, p1, p2⟩ := ri_three (HXA.out _ HB0.out)
 have HPL : Hid (pa.block < w.heap.size) := hide (by obtain ⟨ad, h1, h2, -⟩ := (HXA.out w (Below.refl _ _)).2 (by simp); rw [hpa] at h1; rw [Option.some.inj h1]; exact h2)
 rw [hpa] at a0 HA
 clear hx hpa hpal HDA HXA
 obtain ⟨aq, haq, q0', q1'⟩ := ri_pair (HQ.out _ HB0.out)
 subst haq
 clear HQ
 by_cases g0 : q0 < 1
 case pos =>
  have hcd : Pl.code [q0, q1] a = 102 := by rw [HCQ.out, if_pos (.inl g0)]
  obtain ⟨e1, e2⟩ := Pl.bad (by rw [hcd]; decide)
  have HD1 := hide e1
  have HD2 := hide e2
  have HCD := hide hcd
  clear e1 e2 hcd
  obtain ⟨z0, z1, zf0, zf1, HZf, HFf⟩ := elm_two HZ.out HB0.out (Nat.le_add_right _ 1) (.slice none 0 0) (.bool false)
  go_wp2_with fail
  refine bodyPost_ret (results_desc rfl _ _ (w.heap.size + 1) _ _ rfl HZf.out) rfl ?_
  rw [HD1.out, HD2.out, HCD.out]
  exact RefE.bad rfl HFf.out
 case neg =>
 by_cases g1 : 16 < q0
 case pos =>
  have hcd : Pl.code [q0, q1] a = 102 := by rw [HCQ.out, if_pos (.inr (.inl g1))]
  obtain ⟨e1, e2⟩ := Pl.bad (by rw [hcd]; decide)
  have HD1 := hide e1
  have HD2 := hide e2
  have HCD := hide hcd
  clear e1 e2 hcd
  obtain ⟨z0, z1, zf0, zf1, HZf, HFf⟩ := elm_two HZ.out HB0.out (Nat.le_add_right _ 1) (.slice none 0 0) (.bool false)
  go_wp2_with fail
  refine bodyPost_ret (results_desc rfl _ _ (w.heap.size + 1) _ _ rfl HZf.out) rfl ?_
  rw [HD1.out, HD2.out, HCD.out]
  exact RefE.bad rfl HFf.out
 case neg =>
 by_cases g2 : q1 < 1
 case pos =>
  have hcd : Pl.code [q0, q1] a = 102 := by rw [HCQ.out, if_pos (.inr (.inr (.inl g2)))]
  obtain ⟨e1, e2⟩ := Pl.bad (by rw [hcd]; decide)
  have HD1 := hide e1
  have HD2 := hide e2
  have HCD := hide hcd
  clear e1 e2 hcd
  obtain ⟨z0, z1, zf0, zf1, HZf, HFf⟩ := elm_two HZ.out HB0.out (Nat.le_add_right _ 1) (.slice none 0 0) (.bool false)
  go_wp2_with fail
  refine bodyPost_ret (results_desc rfl _ _ (w.heap.size + 1) _ _ rfl HZf.out) rfl ?_
  rw [HD1.out, HD2.out, HCD.out]
  exact RefE.bad rfl HFf.out
 case neg =>
 by_cases g3 : 16 < q1
 case pos =>
  have hcd : Pl.code [q0, q1] a = 102 := by rw [HCQ.out, if_pos (.inr (.inr (.inr g3)))]
  obtain ⟨e1, e2⟩ := Pl.bad (by rw [hcd]; decide)
  have HD1 := hide e1
  have HD2 := hide e2
  have HCD := hide hcd
  clear e1 e2 hcd
  obtain ⟨z0, z1, zf0, zf1, HZf, HFf⟩ := elm_two HZ.out HB0.out (Nat.le_add_right _ 1) (.slice none 0 0) (.bool false)
  go_wp2_with fail
  refine bodyPost_ret (results_desc rfl _ _ (w.heap.size + 1) _ _ rfl HZf.out) rfl ?_
  rw [HD1.out, HD2.out, HCD.out]
  exact RefE.bad rfl HFf.out
 case neg =>
 have Hc : Hid (1 ≤ q0 ∧ q0 ≤ 16 ∧ 1 ≤ q1 ∧ q1 ≤ 16) := hide (by omega)
 by_cases k0 : x0 < q0
 case pos =>
  have hcd : Pl.code [q0, q1] a = 101 := by rw [HCQ.out, if_neg (by have := Hc.out; omega), if_pos (.inl k0)]
  obtain ⟨e1, e2⟩ := Pl.bad (by rw [hcd]; decide)
  have HD1 := hide e1
  have HD2 := hide e2
  have HCD := hide hcd
  clear e1 e2 hcd
  obtain ⟨z0, z1, zf0, zf1, HZf, HFf⟩ := elm_two HZ.out HB0.out (Nat.le_add_right _ 1) (.slice none 0 0) (.bool false)
  go_wp2_with fail
  refine bodyPost_ret (results_desc rfl _ _ (w.heap.size + 1) _ _ rfl HZf.out) rfl ?_
  rw [HD1.out, HD2.out, HCD.out]
  exact RefE.bad rfl HFf.out
 case neg =>
 by_cases k1 : x1 < q0
 case pos =>
  have hcd : Pl.code [q0, q1] a = 101 := by rw [HCQ.out, if_neg (by have := Hc.out; omega), if_pos (.inr k1)]
  obtain ⟨e1, e2⟩ := Pl.bad (by rw [hcd]; decide)
  have HD1 := hide e1
  have HD2 := hide e2
  have HCD := hide hcd
  clear e1 e2 hcd
  obtain ⟨z0, z1, zf0, zf1, HZf, HFf⟩ := elm_two HZ.out HB0.out (Nat.le_add_right _ 1) (.slice none 0 0) (.bool false)
  go_wp2_with fail
  refine bodyPost_ret (results_desc rfl _ _ (w.heap.size + 1) _ _ rfl HZf.out) rfl ?_
  rw [HD1.out, HD2.out, HCD.out]
  exact RefE.bad rfl HFf.out
 case neg =>
 have HCK : Hid (Pl.code [q0, q1] a = 0) := hide (by rw [HCQ.out, if_neg (by have := Hc.out; omega), if_neg (by omega)])
 have Hy : Hid (q0 ≤ x0 ∧ q0 ≤ x1) := hide (by omega)
 have HCT := hide (Pl.code_dims HD0.out HD1'.out HD2'.out HDP.out ⟨Hc.out.1, Hy.out.1, Hy.out.2, Hc.out.2.2.1⟩)
 go_wp2_with fail
 clear g0 g1 g2 g3 k0 k1 q0' q1' i1 i2
 obtain ⟨d0, hd0⟩ : ∃ z : Int, Hid (x0 - q0 = z) := ⟨_, hide rfl⟩
 obtain ⟨d1, hd1⟩ : ∃ z : Int, Hid (x1 - q0 = z) := ⟨_, hide rfl⟩
 have Kd : Hid (0 ≤ d0 ∧ d0 ≤ 256 ∧ 0 ≤ d1 ∧ d1 ≤ 256) := hide (by have h1 := hd0.out; have h2 := hd1.out; have := Hy.out; have := HD0.out; have := HD1'.out; have := Hc.out; omega)
 obtain ⟨h0, hh0⟩ : ∃ z : Int, Hid (d0 / q1 = z) := ⟨_, hide rfl⟩
 obtain ⟨h1, hh1⟩ : ∃ z : Int, Hid (d1 / q1 = z) := ⟨_, hide rfl⟩
 have Kh : Hid (0 ≤ h0 ∧ h0 ≤ 256 ∧ 0 ≤ h1 ∧ h1 ≤ 256) := hide (by
  have k := Kd.out
  have kq := Hc.out
  have u1 := Int.ediv_nonneg k.1 (show 0 ≤ q1 by omega)
  have u2 := Int.ediv_nonneg k.2.2.1 (show 0 ≤ q1 by omega)
  have u3 := Int.ediv_le_self q1 k.1
  have u4 := Int.ediv_le_self q1 k.2.2.1
  rw [hh0.out] at u1 u3
  rw [hh1.out] at u2 u4
  omega)
 have Hd0 : Hid (IntKind.i64.wrap (x0 - q0) = d0) := hide (by rw [hd0.out, IntKind.wrap_i64]; have := Kd.out; omega)
 have Hd1 : Hid (IntKind.i64.wrap (x1 - q0) = d1) := hide (by rw [hd1.out, IntKind.wrap_i64]; have := Kd.out; omega)
 have Ht0 : Hid (d0.tdiv q1 = h0) := hide (by rw [Int.tdiv_eq_ediv_of_nonneg (by have := Kd.out; omega)]; exact hh0.out)
 have Ht1 : Hid (d1.tdiv q1 = h1) := hide (by rw [Int.tdiv_eq_ediv_of_nonneg (by have := Kd.out; omega)]; exact hh1.out)
 have Hw0 : Hid (IntKind.i64.wrap h0 = h0) := hide (by rw [IntKind.wrap_i64]; have := Kh.out; omega)
 have Hw1 : Hid (IntKind.i64.wrap h1 = h1) := hide (by rw [IntKind.wrap_i64]; have := Kh.out; omega)
 obtain ⟨R0, hR0⟩ : ∃ z : Int, Hid (h0 + 1 = z) := ⟨_, hide rfl⟩
 obtain ⟨R1, hR1⟩ : ∃ z : Int, Hid (h1 + 1 = z) := ⟨_, hide rfl⟩
 have HR00 : Hid (IntKind.i64.wrap (h0 + 1) = R0) := hide (by rw [hR0.out, IntKind.wrap_i64]; have := Kh.out; have := hR0.out; omega)
 have HR11 : Hid (IntKind.i64.wrap (h1 + 1) = R1) := hide (by rw [hR1.out, IntKind.wrap_i64]; have := Kh.out; have := hR1.out; omega)
 have HDM : Hid (Pl.reach x0 q0 q1 = R0 ∧ Pl.reach x1 q0 q1 = R1) := hide (by
  unfold Pl.reach
  rw [hd0.out, hd1.out, hh0.out, hh1.out, hR0.out, hR1.out]
  exact ⟨rfl, rfl⟩)
 rw [HDM.out.1, HDM.out.2] at HCT HSH
 have HWF : Hid (∀ q ∈ [R0, R1, x2], (Lit.int .i64 q).wf = true) := hide (by
  intro q hq
  simp at hq
  have := Kh.out
  have := hR0.out
  have := hR1.out
  have := HD2'.out
  rcases hq with rfl | rfl | rfl <;> exact wf_i64 _ (by omega))
 have hqn : ¬ q1 = 0 := by have := Hc.out; omega
 have hS0 : CS5 ⟨w.heap.size, 0, none⟩ ⟨w.heap.size, 1, none⟩ pa ⟨pa.block, pa.off + 1, none⟩ ⟨pa.block, pa.off + 2, none⟩ (.slice (some pa) 3 a.cap) (.bool a.u) (.int .i64 x0) (.int .i64 x1) (.int .i64 x2) w1.drew := (⟨a0, HA.out.cell 1, p0, p1, p2⟩ : CS5 ⟨w.heap.size, 0, none⟩ ⟨w.heap.size, 1, none⟩ pa ⟨pa.block, pa.off + 1, none⟩ ⟨pa.block, pa.off + 2, none⟩ (.slice (some pa) 3 a.cap) (.bool a.u) (.int .i64 x0) (.int .i64 x1) (.int .i64 x2) w1)
 have HS00 : CS5 ⟨w.heap.size, 0, none⟩ ⟨w.heap.size, 1, none⟩ pa ⟨pa.block, pa.off + 1, none⟩ ⟨pa.block, pa.off + 2, none⟩ (.slice (some pa) 3 a.cap) (.bool a.u) (.int .i64 x0) (.int .i64 x1) (.int .i64 x2) w1 := ⟨a0, HA.out.cell 1, p0, p1, p2⟩
 have hbA : Below w1.heap.size w1 (w1.alloc (.cells #[.int .i64 R0, .int .i64 R1, .int .i64 x2] 3)) := (Below.refl _ _).alloc (Nat.le_refl _) _
 have hS1 : CS5 ⟨w.heap.size, 0, none⟩ ⟨w.heap.size, 1, none⟩ pa ⟨pa.block, pa.off + 1, none⟩ ⟨pa.block, pa.off + 2, none⟩ (.slice (some pa) 3 a.cap) (.bool a.u) (.int .i64 x0) (.int .i64 x1) (.int .i64 x2) (w1.alloc (.cells #[.int .i64 R0, .int .i64 R1, .int .i64 x2] 3)).drew := CS5.keep HS00 hbA.drew
 have hri : Ri (w1.alloc (.cells #[.int .i64 R0, .int .i64 R1, .int .i64 x2] 3)).drew (some ⟨w1.heap.size, 0, none⟩) [R0, R1, x2] := ((Has.new w1 3 (i64s [R0, R1, x2])).drewN 1).ri HWF.out
 have hse := seen_c ⟨some ⟨w1.heap.size, 0, none⟩, [R0, R1, x2], 3, a.u⟩ _ ⟨hri, by simp⟩
 have hrf : Rf.zs ⟨none, [R0, R1, x2], 0, a.u⟩ = [R0, R1, x2] ∧ Rf.u ⟨none, [R0, R1, x2], 0, a.u⟩ = a.u := by
  unfold Rf.zs Rf.u
  rw [if_pos HCT.out, if_pos HCT.out]
  exact ⟨rfl, rfl⟩
 have HC : Hid (Calls Tryz.prog 50 #[.agg #[.slice (some ⟨w1.heap.size, 0, none⟩) 3 3, .bool a.u]] (w1.alloc (.cells #[.int .i64 R0, .int .i64 R1, .int .i64 x2] 3)).drew (RefE (w1.alloc (.cells #[.int .i64 R0, .int .i64 R1, .int .i64 x2] 3)).drew [R0, R1, x2] a.u 0)) := hide (by
  have h : Calls Tryz.prog 50 #[.agg #[.slice (some ⟨w1.heap.size, 0, none⟩) 3 3, .bool a.u]] (w1.alloc (.cells #[.int .i64 R0, .int .i64 R1, .int .i64 x2] 3)).drew (RefE (w1.alloc (.cells #[.int .i64 R0, .int .i64 R1, .int .i64 x2] 3)).drew (Rf.zs ⟨none, [R0, R1, x2], 0, a.u⟩) (Rf.u ⟨none, [R0, R1, x2], 0, a.u⟩) (Shp.code [R0, R1, x2])) := hse
  rw [hrf.1, hrf.2, HCT.out] at h
  exact h)
 have HZ0 := hide ((HZ.out.alloc (.cells #[.int .i64 R0, .int .i64 R1, .int .i64 x2] 3)).drewN 1)
 have HBA := hide (HB0.out.trans (hbA.drew.mono HB0.out.size))
 have HW1L : Hid (w.heap.size + 1 < w1.heap.size) := hide HZ.out.lt
 clear HS00 hbA hri hrf hse p0 p1 p2 a0
 have o1 := Hd0.out
 have o2 := Hd1.out
 have o3 := hh0.out
 have o4 := hh1.out
 have o5 := Ht0.out
 have o6 := Ht1.out
 have o7 := Hw0.out
 have o8 := Hw1.out
 have o9 := HR00.out
 have o10 := HR11.out
 have o11 := Kd.out.1
 have o12 := Kd.out.2.2.1
 go_region_held3 (fun W => W.cell? ⟨w.heap.size, 0, none⟩ = some (.slice (some pa) 3 a.cap) ∧ W.cell? ⟨w.heap.size, 1, none⟩ = some (.bool a.u) ∧ W.cell? pa = some (.int .i64 x0) ∧ W.cell? ⟨pa.block, pa.off + 1, none⟩ = some (.int .i64 x1) ∧ W.cell? ⟨pa.block, pa.off + 2, none⟩ = some (.int .i64 x2))
  (first | with_reducible exact hS0 | with_reducible exact hS1 | with_reducible exact hS2 | with_reducible exact hS3.out | with_reducible assumption)
  (first | (go_at_call 50; (with_reducible refine HC.out.mono ?_); rintro e W4 ⟨⟨d, rfl, hdi, hdf, hdz, hdu⟩, hb⟩; have HDZ := hide hdz; have HDU := hide hdu; clear hdz hdu; have hS2 := CS5.keep hS1 hb; have n1 : w.heap.size + 1 ≠ w.heap.size := (by omega); have n2 : w.heap.size + 1 ≠ pa.block := (by have := HPL.out; omega); have hS3 := hide (CS5.far (CS5.far hS2 n1 n1 n2 n2 n2 0 (.slice d.P d.zs.length d.cap)) n1 n1 n2 n2 n2 1 (.bool d.u)); have hz4 := HZ0.out.below hb HZ0.out.lt; have hB4 := HBA.out.trans (hb.mono HBA.out.size); obtain ⟨z0, z1, zf0, zf1, HZf, HFf⟩ := elm_two hz4 hB4 (Nat.le_add_right _ 1) (.slice d.P d.zs.length d.cap) (.bool d.u); have hdl := hide (hdi.far2 hdf (by show w.heap.size + 1 < _; have := HW1L.out; simp; omega) (.slice d.P d.zs.length d.cap) (.bool d.u))))
 go_wp2_with fail
 refine bodyPost_ret (results_desc rfl _ _ (w.heap.size + 1) _ _ rfl HZf.out) rfl ?_
 have h1 := HSH.out HCK.out
 rw [h1.1, h1.2, HCK.out]
 exact ⟨⟨d, rfl, hdl.out, fun ad h => Nat.le_trans (by have := HW1L.out; simp; omega) (hdf ad h), HDZ.out, HDU.out⟩, HFf.out⟩
theorem row_dsc1 {w : World} {B : Option Addr} {a : Dsc} (hR : Row w B ([a].flatMap Dsc.vals)) : ∃ ad, B = some ad ∧ ad.block < w.heap.size ∧ w.cell? ad = some (.slice a.P a.zs.length a.cap) ∧ w.cell? ⟨ad.block, ad.off + 1, none⟩ = some (.bool a.u) := by
 obtain ⟨ad, h1, h2, h3⟩ := hR (by simp [Dsc.vals])
 have c0 := h3 0 _ rfl
 have c1 := h3 1 _ rfl
 rw [Addr.add_zero'] at c0
 simp only [Addr.add, Nat.reduceEqDiff, if_false] at c1
 exact ⟨ad, h1, h2, c0, c1⟩
set_option maxRecDepth 100000 in
set_option maxHeartbeats 4000000 in
theorem rres_pool14 (qs : List Int) (a : Dsc) (A B : Option Addr) (qcap cap : Nat) (w : World) (hQ : Ri w A qs) (hR : Row w B ([a].flatMap Dsc.vals)) (ha : a.In w) :
  Calls Tryz.prog 38 #[.int .i64 14, .slice A qs.length qcap, .slice B 1 cap] w (RefE w (Pl.shape qs a) (Pl.kind qs a) (Pl.code qs a)) := by
 obtain ⟨W0, hW0⟩ : ∃ W, W = w.alloc (.cells #[.slice none 0 0, .bool false] 24) := ⟨_, rfl⟩
 have hbw : Below w.heap.size w W0 := by rw [hW0]; exact (Below.refl _ _).alloc (Nat.le_refl _) _
 have HZ : Hid (Has W0 w.heap.size 24 [.slice none 0 0, .bool false]) := hide (by rw [hW0]; exact Has.new _ _ _)
 obtain ⟨pr, hpr, hprl, r0, r1⟩ := row_dsc1 hR
 subst hpr
 have HB0 := hide hbw
 have HW := hide hW0
 have HWZ : Hid (w.heap.size < W0.heap.size) := hide HZ.out.lt
 by_cases hql : qs.length = 2
 case neg =>
  have hcd : Pl.code qs a = 101 := by
   unfold Pl.code
   rw [if_pos hql]
  obtain ⟨e1, e2⟩ := Pl.bad (by rw [hcd]; decide)
  have HD1 := hide e1
  have HD2 := hide e2
  have HCD := hide hcd
  obtain ⟨nq, hnq⟩ : ∃ n, Hid (qs.length = n) := ⟨_, hide rfl⟩
  rw [hnq.out] at hql ⊢
  have i1 : ((nq : Int) == 2) = false := by simp; omega
  have i2 : ((nq : Int) != 2) = true := by simp; omega
  clear hQ hR ha hW0 hbw r0 r1 hprl e1 e2 hcd hql
  go_enter Tryz.func38, Tryz.ntmps38
  go_wp2_with fail
  rw [← HW.out]
  clear HW
  refine (rknown14 _).mono ?_
  rintro e wq ⟨rfl, hw⟩
  have hw := hw.symm
  subst hw
  go_wp2_with fail
  refine (rins14 _).mono ?_
  rintro e wq ⟨rfl, hw⟩
  have hw := hw.symm
  subst hw
  go_wp2_with fail
  refine (rargs14 _).mono ?_
  rintro e wq ⟨rfl, hw⟩
  have hw := hw.symm
  subst hw
  obtain ⟨z0, z1, zf0, zf1, HZf, HFf⟩ := elm_two HZ.out HB0.out (Nat.le_refl _) (.slice none 0 0) (.bool false)
  go_wp2_with fail
  refine bodyPost_ret (results_desc rfl _ _ w.heap.size _ _ rfl HZf.out) rfl ?_
  rw [HD1.out, HD2.out, HCD.out]
  exact RefE.bad rfl HFf.out
 case pos =>
 have hrc := rpool_c qs A qcap a W0 (hQ.below hbw) (ha.below hbw)
 rw [hql] at hrc ⊢
 have HC : Hid (Calls Tryz.prog 69 #[.slice A 2 qcap, .agg #[.slice a.P a.zs.length a.cap, .bool a.u]] W0 (RefE W0 (Pl.shape qs a) (Pl.kind qs a) (Pl.code qs a))) := hide hrc
 have z0 : W0.cell? pr = some (.slice a.P a.zs.length a.cap) := (hbw.cell hprl).trans r0
 have z1 : W0.cell? ⟨pr.block, pr.off + 1, none⟩ = some (.bool a.u) := (hbw.cell (p := ⟨pr.block, pr.off + 1, none⟩) hprl).trans r1
 obtain ⟨k, hk⟩ : ∃ n, Hid (Pl.code qs a = n) := ⟨_, hide rfl⟩
 obtain ⟨zs, hzs⟩ : ∃ n, Hid (Pl.shape qs a = n) := ⟨_, hide rfl⟩
 obtain ⟨u, hu⟩ : ∃ n, Hid (Pl.kind qs a = n) := ⟨_, hide rfl⟩
 rw [hk.out, hzs.out, hu.out] at HC ⊢
 clear hQ hR ha hW0 hbw r0 r1 hrc hql hprl
 go_enter Tryz.func38, Tryz.ntmps38
 go_wp2_with fail
 rw [← HW.out]
 clear HW
 refine (rknown14 _).mono ?_
 rintro e wq ⟨rfl, hw⟩
 have hw := hw.symm
 subst hw
 go_wp2_with fail
 refine (rins14 _).mono ?_
 rintro e wq ⟨rfl, hw⟩
 have hw := hw.symm
 subst hw
 go_wp2_with fail
 refine (rargs14 _).mono ?_
 rintro e wq ⟨rfl, hw⟩
 have hw := hw.symm
 subst hw
 go_wp2_with fail
 refine HC.out.mono ?_
 rintro e W4 ⟨⟨d, rfl, hdi, hdf, hdz, hdu⟩, hb⟩
 have hz4 := HZ.out.below hb HZ.out.lt
 have hB4 := HB0.out.trans (hb.mono HB0.out.size)
 obtain ⟨z0, z1, zf0, zf1, HZf, HFf⟩ := elm_two hz4 hB4 (Nat.le_refl _) (.slice d.P d.zs.length d.cap) (.bool d.u)
 have hdl := hide (hdi.far2 hdf (by exact HWZ.out) (.slice d.P d.zs.length d.cap) (.bool d.u))
 have HDF := hide hdf
 have HDZ := hide hdz
 have HDU := hide hdu
 clear hdi hdf hdz hdu hb hz4 hB4 HC
 go_wp2_with fail
 refine bodyPost_ret (results_desc rfl _ _ w.heap.size _ _ rfl HZf.out) rfl ?_
 exact ⟨⟨d, rfl, hdl.out, fun ad h => Nat.le_trans (Nat.le_of_lt HWZ.out) (HDF.out ad h), HDZ.out, HDU.out⟩, HFf.out⟩
set_option maxRecDepth 100000 in
set_option maxHeartbeats 4000000 in
theorem rres_pool15 (qs : List Int) (a : Dsc) (A B : Option Addr) (qcap cap : Nat) (w : World) (hQ : Ri w A qs) (hR : Row w B ([a].flatMap Dsc.vals)) (ha : a.In w) :
  Calls Tryz.prog 38 #[.int .i64 15, .slice A qs.length qcap, .slice B 1 cap] w (RefE w (Pl.shape qs a) (Pl.kind qs a) (Pl.code qs a)) := by
 obtain ⟨W0, hW0⟩ : ∃ W, W = w.alloc (.cells #[.slice none 0 0, .bool false] 24) := ⟨_, rfl⟩
 have hbw : Below w.heap.size w W0 := by rw [hW0]; exact (Below.refl _ _).alloc (Nat.le_refl _) _
 have HZ : Hid (Has W0 w.heap.size 24 [.slice none 0 0, .bool false]) := hide (by rw [hW0]; exact Has.new _ _ _)
 obtain ⟨pr, hpr, hprl, r0, r1⟩ := row_dsc1 hR
 subst hpr
 have HB0 := hide hbw
 have HW := hide hW0
 have HWZ : Hid (w.heap.size < W0.heap.size) := hide HZ.out.lt
 by_cases hql : qs.length = 2
 case neg =>
  have hcd : Pl.code qs a = 101 := by
   unfold Pl.code
   rw [if_pos hql]
  obtain ⟨e1, e2⟩ := Pl.bad (by rw [hcd]; decide)
  have HD1 := hide e1
  have HD2 := hide e2
  have HCD := hide hcd
  obtain ⟨nq, hnq⟩ : ∃ n, Hid (qs.length = n) := ⟨_, hide rfl⟩
  rw [hnq.out] at hql ⊢
  have i1 : ((nq : Int) == 2) = false := by simp; omega
  have i2 : ((nq : Int) != 2) = true := by simp; omega
  clear hQ hR ha hW0 hbw r0 r1 hprl e1 e2 hcd hql
  go_enter Tryz.func38, Tryz.ntmps38
  go_wp2_with fail
  rw [← HW.out]
  clear HW
  refine (rknown15 _).mono ?_
  rintro e wq ⟨rfl, hw⟩
  have hw := hw.symm
  subst hw
  go_wp2_with fail
  refine (rins15 _).mono ?_
  rintro e wq ⟨rfl, hw⟩
  have hw := hw.symm
  subst hw
  go_wp2_with fail
  refine (rargs15 _).mono ?_
  rintro e wq ⟨rfl, hw⟩
  have hw := hw.symm
  subst hw
  obtain ⟨z0, z1, zf0, zf1, HZf, HFf⟩ := elm_two HZ.out HB0.out (Nat.le_refl _) (.slice none 0 0) (.bool false)
  go_wp2_with fail
  refine bodyPost_ret (results_desc rfl _ _ w.heap.size _ _ rfl HZf.out) rfl ?_
  rw [HD1.out, HD2.out, HCD.out]
  exact RefE.bad rfl HFf.out
 case pos =>
 have hrc := rpool_c qs A qcap a W0 (hQ.below hbw) (ha.below hbw)
 rw [hql] at hrc ⊢
 have HC : Hid (Calls Tryz.prog 69 #[.slice A 2 qcap, .agg #[.slice a.P a.zs.length a.cap, .bool a.u]] W0 (RefE W0 (Pl.shape qs a) (Pl.kind qs a) (Pl.code qs a))) := hide hrc
 have z0 : W0.cell? pr = some (.slice a.P a.zs.length a.cap) := (hbw.cell hprl).trans r0
 have z1 : W0.cell? ⟨pr.block, pr.off + 1, none⟩ = some (.bool a.u) := (hbw.cell (p := ⟨pr.block, pr.off + 1, none⟩) hprl).trans r1
 obtain ⟨k, hk⟩ : ∃ n, Hid (Pl.code qs a = n) := ⟨_, hide rfl⟩
 obtain ⟨zs, hzs⟩ : ∃ n, Hid (Pl.shape qs a = n) := ⟨_, hide rfl⟩
 obtain ⟨u, hu⟩ : ∃ n, Hid (Pl.kind qs a = n) := ⟨_, hide rfl⟩
 rw [hk.out, hzs.out, hu.out] at HC ⊢
 clear hQ hR ha hW0 hbw r0 r1 hrc hql hprl
 go_enter Tryz.func38, Tryz.ntmps38
 go_wp2_with fail
 rw [← HW.out]
 clear HW
 refine (rknown15 _).mono ?_
 rintro e wq ⟨rfl, hw⟩
 have hw := hw.symm
 subst hw
 go_wp2_with fail
 refine (rins15 _).mono ?_
 rintro e wq ⟨rfl, hw⟩
 have hw := hw.symm
 subst hw
 go_wp2_with fail
 refine (rargs15 _).mono ?_
 rintro e wq ⟨rfl, hw⟩
 have hw := hw.symm
 subst hw
 go_wp2_with fail
 refine HC.out.mono ?_
 rintro e W4 ⟨⟨d, rfl, hdi, hdf, hdz, hdu⟩, hb⟩
 have hz4 := HZ.out.below hb HZ.out.lt
 have hB4 := HB0.out.trans (hb.mono HB0.out.size)
 obtain ⟨z0, z1, zf0, zf1, HZf, HFf⟩ := elm_two hz4 hB4 (Nat.le_refl _) (.slice d.P d.zs.length d.cap) (.bool d.u)
 have hdl := hide (hdi.far2 hdf (by exact HWZ.out) (.slice d.P d.zs.length d.cap) (.bool d.u))
 have HDF := hide hdf
 have HDZ := hide hdz
 have HDU := hide hdu
 clear hdi hdf hdz hdu hb hz4 hB4 HC
 go_wp2_with fail
 refine bodyPost_ret (results_desc rfl _ _ w.heap.size _ _ rfl HZf.out) rfl ?_
 exact ⟨⟨d, rfl, hdl.out, fun ad h => Nat.le_trans (Nat.le_of_lt HWZ.out) (HDF.out ad h), HDZ.out, HDU.out⟩, HFf.out⟩
end Go.Proofs.YtgdcfjmpjhlndaaGreatDoor
