/-
  The reference's Result of each operation, walked: lodgeref3.seen, MatResult, ConvResult, PoolResult, Known, Ins, Args, Result of MatMul, Turn, Conv, the pools. By an AI agent. No person has read it.
-/
import Derived.Test.YtgdcfjmpjhlndaaGreatDoorZFElmN
import Derived.Test.YtgdcfjmpjhlndaaGreatDoorZFCelC
import Derived.Test.YtgdcfjmpjhlndaaGreatDoorZFMatN
import Derived.Test.YtgdcfjmpjhlndaaGreatDoorZFElmS
import Derived.Test.YtgdcfjmpjhlndaaGreatDoorZFErrD
import Derived.Test.YtgdcfjmpjhlndaaGreatDoorZFCnvB
import Derived.Test.YtgdcfjmpjhlndaaGreatDoorZFPolE
namespace Go.Proofs.YtgdcfjmpjhlndaaGreatDoor
open Go.RowKit
/-- The reference's answer: what it looks like, and the error's number. -/
def RefE (w : World) (zs : List Int) (u : Bool) (k : Nat) (e : Ending) (w' : World) : Prop :=
  (∃ d : Dsc, e = .returned (.tuple #[.agg (dcells d.P d.zs.length d.cap d.u), .int .i64 (k : Nat)]) ∧ d.In w' ∧ d.Fresh w.heap.size ∧ d.zs = zs ∧ d.u = u) ∧ Below w.heap.size w w'
theorem RefE.bad {w W : World} {k : Nat} {e : Ending} (he : e = .returned (.tuple #[.agg (dcells none 0 0 false), .int .i64 (k : Nat)])) (hb : Below w.heap.size w W) : RefE w [] false k e W :=
  ⟨⟨⟨none, [], 0, false⟩, he, ⟨Ri.nil _ _, by simp⟩, (fun ad h => by cases h), rfl, rfl⟩, hb⟩
def Rf.zs (d : Dsc) : List Int := if Shp.code d.zs = 0 then d.zs else []
def Rf.u (d : Dsc) : Bool := if Shp.code d.zs = 0 then d.u else false
set_option maxRecDepth 100000 in
set_option maxHeartbeats 4000000 in
theorem seen_c (d : Dsc) (w : World) (hd : d.In w) :
    Calls Tryz.prog 50 #[.agg (dcells d.P d.zs.length d.cap d.u)] w (RefE w (Rf.zs d) (Rf.u d) (Shp.code d.zs)) := by
  obtain ⟨W0, hW0⟩ : ∃ W, W = (w.alloc (.cells #[.slice d.P d.zs.length d.cap, .bool d.u] 24)).alloc (.cells #[.slice none 0 0, .bool false] 24) := ⟨_, rfl⟩
  have HA : Hid (Has W0 w.heap.size 24 [.slice d.P d.zs.length d.cap, .bool d.u]) := hide (by rw [hW0]; exact (Has.new w 24 _).alloc _)
  have HZ : Hid (Has W0 (w.heap.size + 1) 24 [.slice none 0 0, .bool false]) := hide (by rw [hW0]; exact box_at _ _ _ _ (by simp))
  have HB : Hid (Below w.heap.size w W0) := hide (by rw [hW0]; exact ((Below.refl _ _).alloc (Nat.le_refl _) _).alloc (by simp) _)
  have HV := hide (refvalid_c d.zs d.P d.cap d.u W0 (hd.shp.below HB.out) (by have := hd.ls; omega))
  have HD := hide (fun W (h : Below w.heap.size w W) => rdesc_c d.zs d.P d.cap d.u W (hd.shp.below h) hd.ls)
  have HL := hide hd.ls
  have HWf := hide hd.shp.1
  obtain ⟨n, hn⟩ : ∃ n, Hid (d.zs.length = n) := ⟨_, hide rfl⟩
  obtain ⟨k, hk⟩ : ∃ k, Hid (Shp.code d.zs = k) := ⟨_, hide rfl⟩
  have HR1 : Hid (k = 0 → Rf.zs d = d.zs ∧ Rf.u d = d.u) := hide (fun h => by unfold Rf.zs Rf.u; rw [hk.out, if_pos h, if_pos h]; exact ⟨rfl, rfl⟩)
  have HR2 : Hid (k ≠ 0 → Rf.zs d = [] ∧ Rf.u d = false) := hide (fun h => by unfold Rf.zs Rf.u; rw [hk.out, if_neg h, if_neg h]; exact ⟨rfl, rfl⟩)
  have hkc := Shp.code_is d.zs
  rw [hk.out] at HV hkc ⊢
  have HW := hide hW0
  have HLn : Hid (d.zs.length = n) := hn
  rw [hn.out] at HA HV HD HW ⊢
  have c0 := HA.out.cell 0
  have c1 := HA.out.cell 1
  clear hd hW0
  go_enter Tryz.func50, Tryz.ntmps50
  go_wp2_with fail
  rw [← HW.out]
  clear HW c0 c1
  refine HV.out.mono ?_
  rintro e w1 ⟨rfl, hb⟩
  replace HA := hide (HA.out.below hb HA.out.lt)
  replace HZ := hide (HZ.out.below hb HZ.out.lt)
  replace HB := hide (HB.out.trans (hb.mono HB.out.size))
  clear hb HV
  by_cases h0 : k = 0
  case neg =>
    obtain ⟨e1, e2⟩ := HR2.out h0
    have h1 : ((k : Int) == 0) = false := by simp; omega
    have h2 : ((k : Int) != 0) = true := by simp; omega
    obtain ⟨z0, z1, zf0, zf1, HZf, HFf⟩ := elm_two HZ.out HB.out (Nat.le_add_right _ 1) (.slice none 0 0) (.bool false)
    have HE1 := hide e1
    have HE2 := hide e2
    clear e1 e2 hkc h0
    go_wp2_with fail
    refine bodyPost_ret (results_desc rfl _ _ (w.heap.size + 1) _ _ rfl HZf.out) rfl ?_
    rw [HE1.out, HE2.out]
    exact RefE.bad rfl HFf.out
  case pos =>
    subst h0
    obtain ⟨e1, e2⟩ := HR1.out rfl
    have HE1 := hide e1
    have HE2 := hide e2
    have c0 := HA.out.cell 0
    have c1 := HA.out.cell 1
    clear hkc e1 e2
    go_wp2_with fail
    clear c0 c1
    refine (HD.out _ HB.out).mono ?_
    rintro e w2 ⟨⟨g, c, rest, rfl, hg, hC⟩, hb⟩
    have hz := HZ.out.below hb HZ.out.lt
    have hB := HB.out.trans (hb.mono HB.out.size)
    have hgs := HB.out.size
    have hzl := HZ.out.lt
    obtain ⟨z0, z1, zf0, zf1, HZf, HFf⟩ := elm_two hz hB (Nat.le_add_right _ 1) (.slice (some ⟨g, 0, none⟩) n c) (.bool d.u)
    have HC2 := hide ((hC.far (p := ⟨w.heap.size + 1, 0, none⟩) (by show g ≠ w.heap.size + 1; omega) (.slice (some ⟨g, 0, none⟩) n c)).far (p := ⟨w.heap.size + 1, 1, none⟩) (by show g ≠ w.heap.size + 1; omega) (.bool d.u))
    have hg2 : w.heap.size ≤ g := by omega
    clear hz hB hb hgs hzl hC
    go_wp2_with fail
    refine bodyPost_ret (results_desc rfl _ _ (w.heap.size + 1) _ _ rfl HZf.out) rfl ?_
    rw [HE1.out, HE2.out]
    exact ⟨⟨⟨some ⟨g, 0, none⟩, d.zs, c, d.u⟩, by rw [HLn.out]; rfl, ⟨HC2.out.ri_app HWf.out, HL.out⟩, (fun ad h => by cases h; exact hg2), rfl, rfl⟩, HFf.out⟩
/-- What is held in a region: four cells. -/
abbrev RmS (p0 p1 p2 p3 : Addr) (v0 v1 v2 v3 : Value) (W : World) : Prop := W.cell? p0 = some v0 ∧ W.cell? p1 = some v1 ∧ W.cell? p2 = some v2 ∧ W.cell? p3 = some v3
theorem RmS.keep {p0 p1 p2 p3 : Addr} {v0 v1 v2 v3 : Value} {W W' : World} (h : RmS p0 p1 p2 p3 v0 v1 v2 v3 W) (l0 : p0.block < W.heap.size) (l1 : p1.block < W.heap.size) (l2 : p2.block < W.heap.size) (l3 : p3.block < W.heap.size) (hB : Below W.heap.size W W') : RmS p0 p1 p2 p3 v0 v1 v2 v3 W' := by
  obtain ⟨h0, h1, h2, h3⟩ := h
  exact ⟨(hB.cell l0).trans h0, (hB.cell l1).trans h1, (hB.cell l2).trans h2, (hB.cell l3).trans h3⟩
theorem RmS.far2 {p0 p1 p2 p3 : Addr} {v0 v1 v2 v3 : Value} {W : World} (h : RmS p0 p1 p2 p3 v0 v1 v2 v3 W) {b : Nat} (l0 : b ≠ p0.block) (l1 : b ≠ p1.block) (l2 : b ≠ p2.block) (l3 : b ≠ p3.block) (x y : Value) : RmS p0 p1 p2 p3 v0 v1 v2 v3 ((W.setCell ⟨b, 0, none⟩ x).setCell ⟨b, 1, none⟩ y) := by
  obtain ⟨h0, h1, h2, h3⟩ := h
  have f : ∀ (V : World) (p : Addr) (i : Nat) (z v : Value), b ≠ p.block → V.cell? p = some v → (V.setCell ⟨b, i, none⟩ z).cell? p = some v := fun V p i z v hn hc => by
    rw [World.cell?_setCell_far _ _ _ _ (by exact hn)]
    exact hc
  exact ⟨f _ _ _ _ _ l0 (f _ _ _ _ _ l0 h0), f _ _ _ _ _ l1 (f _ _ _ _ _ l1 h1), f _ _ _ _ _ l2 (f _ _ _ _ _ l2 h2), f _ _ _ _ _ l3 (f _ _ _ _ _ l3 h3)⟩
/-- What is held in a region: 2 cells. -/
abbrev CS2 (p0 p1 : Addr) (v0 v1 : Value) (W : World) : Prop := W.cell? p0 = some v0 ∧ W.cell? p1 = some v1
theorem CS2.keep {p0 p1 : Addr} {v0 v1 : Value} {W W' : World} (h : CS2 p0 p1 v0 v1 W) (l0 : p0.block < W.heap.size) (l1 : p1.block < W.heap.size) (hB : Below W.heap.size W W') : CS2 p0 p1 v0 v1 W' := by
  obtain ⟨h0, h1⟩ := h
  exact ⟨(hB.cell l0).trans h0, (hB.cell l1).trans h1⟩
theorem CS2.far {p0 p1 : Addr} {v0 v1 : Value} {W : World} (h : CS2 p0 p1 v0 v1 W) {b : Nat} (l0 : b ≠ p0.block) (l1 : b ≠ p1.block) (j : Nat) (x : Value) : CS2 p0 p1 v0 v1 (W.setCell ⟨b, j, none⟩ x) := by
  obtain ⟨h0, h1⟩ := h
  have f : ∀ (p : Addr) (v : Value), b ≠ p.block → W.cell? p = some v → (W.setCell ⟨b, j, none⟩ x).cell? p = some v := fun p v hn hc => by
    rw [World.cell?_setCell_far _ _ _ _ (by exact hn)]
    exact hc
  exact ⟨f _ _ l0 h0, f _ _ l1 h1⟩
theorem CS2.drew {p0 p1 : Addr} {v0 v1 : Value} {W : World} (h : CS2 p0 p1 v0 v1 W) : CS2 p0 p1 v0 v1 W.drew := h
/-- What is held in a region: 4 cells. -/
abbrev CS4 (p0 p1 p2 p3 : Addr) (v0 v1 v2 v3 : Value) (W : World) : Prop := W.cell? p0 = some v0 ∧ W.cell? p1 = some v1 ∧ W.cell? p2 = some v2 ∧ W.cell? p3 = some v3
theorem CS4.keep {p0 p1 p2 p3 : Addr} {v0 v1 v2 v3 : Value} {W W' : World} (h : CS4 p0 p1 p2 p3 v0 v1 v2 v3 W) (l0 : p0.block < W.heap.size) (l1 : p1.block < W.heap.size) (l2 : p2.block < W.heap.size) (l3 : p3.block < W.heap.size) (hB : Below W.heap.size W W') : CS4 p0 p1 p2 p3 v0 v1 v2 v3 W' := by
  obtain ⟨h0, h1, h2, h3⟩ := h
  exact ⟨(hB.cell l0).trans h0, (hB.cell l1).trans h1, (hB.cell l2).trans h2, (hB.cell l3).trans h3⟩
theorem CS4.far {p0 p1 p2 p3 : Addr} {v0 v1 v2 v3 : Value} {W : World} (h : CS4 p0 p1 p2 p3 v0 v1 v2 v3 W) {b : Nat} (l0 : b ≠ p0.block) (l1 : b ≠ p1.block) (l2 : b ≠ p2.block) (l3 : b ≠ p3.block) (j : Nat) (x : Value) : CS4 p0 p1 p2 p3 v0 v1 v2 v3 (W.setCell ⟨b, j, none⟩ x) := by
  obtain ⟨h0, h1, h2, h3⟩ := h
  have f : ∀ (p : Addr) (v : Value), b ≠ p.block → W.cell? p = some v → (W.setCell ⟨b, j, none⟩ x).cell? p = some v := fun p v hn hc => by
    rw [World.cell?_setCell_far _ _ _ _ (by exact hn)]
    exact hc
  exact ⟨f _ _ l0 h0, f _ _ l1 h1, f _ _ l2 h2, f _ _ l3 h3⟩
theorem CS4.drew {p0 p1 p2 p3 : Addr} {v0 v1 v2 v3 : Value} {W : World} (h : CS4 p0 p1 p2 p3 v0 v1 v2 v3 W) : CS4 p0 p1 p2 p3 v0 v1 v2 v3 W.drew := h
/-- What is held in a region: 6 cells. -/
abbrev CS6 (p0 p1 p2 p3 p4 p5 : Addr) (v0 v1 v2 v3 v4 v5 : Value) (W : World) : Prop := W.cell? p0 = some v0 ∧ W.cell? p1 = some v1 ∧ W.cell? p2 = some v2 ∧ W.cell? p3 = some v3 ∧ W.cell? p4 = some v4 ∧ W.cell? p5 = some v5
theorem CS6.keep {p0 p1 p2 p3 p4 p5 : Addr} {v0 v1 v2 v3 v4 v5 : Value} {W W' : World} (h : CS6 p0 p1 p2 p3 p4 p5 v0 v1 v2 v3 v4 v5 W) (l0 : p0.block < W.heap.size) (l1 : p1.block < W.heap.size) (l2 : p2.block < W.heap.size) (l3 : p3.block < W.heap.size) (l4 : p4.block < W.heap.size) (l5 : p5.block < W.heap.size) (hB : Below W.heap.size W W') : CS6 p0 p1 p2 p3 p4 p5 v0 v1 v2 v3 v4 v5 W' := by
  obtain ⟨h0, h1, h2, h3, h4, h5⟩ := h
  exact ⟨(hB.cell l0).trans h0, (hB.cell l1).trans h1, (hB.cell l2).trans h2, (hB.cell l3).trans h3, (hB.cell l4).trans h4, (hB.cell l5).trans h5⟩
theorem CS6.far {p0 p1 p2 p3 p4 p5 : Addr} {v0 v1 v2 v3 v4 v5 : Value} {W : World} (h : CS6 p0 p1 p2 p3 p4 p5 v0 v1 v2 v3 v4 v5 W) {b : Nat} (l0 : b ≠ p0.block) (l1 : b ≠ p1.block) (l2 : b ≠ p2.block) (l3 : b ≠ p3.block) (l4 : b ≠ p4.block) (l5 : b ≠ p5.block) (j : Nat) (x : Value) : CS6 p0 p1 p2 p3 p4 p5 v0 v1 v2 v3 v4 v5 (W.setCell ⟨b, j, none⟩ x) := by
  obtain ⟨h0, h1, h2, h3, h4, h5⟩ := h
  have f : ∀ (p : Addr) (v : Value), b ≠ p.block → W.cell? p = some v → (W.setCell ⟨b, j, none⟩ x).cell? p = some v := fun p v hn hc => by
    rw [World.cell?_setCell_far _ _ _ _ (by exact hn)]
    exact hc
  exact ⟨f _ _ l0 h0, f _ _ l1 h1, f _ _ l2 h2, f _ _ l3 h3, f _ _ l4 h4, f _ _ l5 h5⟩
theorem CS6.drew {p0 p1 p2 p3 p4 p5 : Addr} {v0 v1 v2 v3 v4 v5 : Value} {W : World} (h : CS6 p0 p1 p2 p3 p4 p5 v0 v1 v2 v3 v4 v5 W) : CS6 p0 p1 p2 p3 p4 p5 v0 v1 v2 v3 v4 v5 W.drew := h
set_option maxRecDepth 100000 in
theorem rknown16 (w : World) : Calls Tryz.prog 25 #[.int .i64 16] w fun e w' => e = .returned (.bool true) ∧ w' = w := by
  go_enter Tryz.func25, Tryz.ntmps25
  go_wp2_with fail
  go_ret
  exact ⟨rfl, rfl⟩
set_option maxRecDepth 100000 in
theorem rins16 (w : World) : Calls Tryz.prog 28 #[.int .i64 16] w fun e w' => e = .returned (.int .i64 2) ∧ w' = w := by
  go_enter Tryz.func28, Tryz.ntmps28
  go_wp2_with fail
  go_ret
  exact ⟨rfl, rfl⟩
set_option maxRecDepth 100000 in
theorem rargs16 (w : World) : Calls Tryz.prog 30 #[.int .i64 16] w fun e w' => e = .returned (.int .i64 0) ∧ w' = w := by
  go_enter Tryz.func30, Tryz.ntmps30
  go_wp2_with fail
  go_ret
  exact ⟨rfl, rfl⟩
set_option maxRecDepth 100000 in
theorem rknown17 (w : World) : Calls Tryz.prog 25 #[.int .i64 17] w fun e w' => e = .returned (.bool true) ∧ w' = w := by
  go_enter Tryz.func25, Tryz.ntmps25
  go_wp2_with fail
  go_ret
  exact ⟨rfl, rfl⟩
set_option maxRecDepth 100000 in
theorem rins17 (w : World) : Calls Tryz.prog 28 #[.int .i64 17] w fun e w' => e = .returned (.int .i64 2) ∧ w' = w := by
  go_enter Tryz.func28, Tryz.ntmps28
  go_wp2_with fail
  go_ret
  exact ⟨rfl, rfl⟩
set_option maxRecDepth 100000 in
theorem rargs17 (w : World) : Calls Tryz.prog 30 #[.int .i64 17] w fun e w' => e = .returned (.int .i64 0) ∧ w' = w := by
  go_enter Tryz.func30, Tryz.ntmps30
  go_wp2_with fail
  go_ret
  exact ⟨rfl, rfl⟩
set_option maxRecDepth 100000 in
theorem rknown19 (w : World) : Calls Tryz.prog 25 #[.int .i64 19] w fun e w' => e = .returned (.bool true) ∧ w' = w := by
  go_enter Tryz.func25, Tryz.ntmps25
  go_wp2_with fail
  go_ret
  exact ⟨rfl, rfl⟩
set_option maxRecDepth 100000 in
theorem rins19 (w : World) : Calls Tryz.prog 28 #[.int .i64 19] w fun e w' => e = .returned (.int .i64 1) ∧ w' = w := by
  go_enter Tryz.func28, Tryz.ntmps28
  go_wp2_with fail
  refine (rknown19 w).mono ?_
  rintro e wq ⟨rfl, hw⟩
  have hw := hw.symm
  subst hw
  go_wp2_with fail
  go_ret
  exact ⟨rfl, rfl⟩
set_option maxRecDepth 100000 in
theorem rargs19 (w : World) : Calls Tryz.prog 30 #[.int .i64 19] w fun e w' => e = .returned (.int .i64 0) ∧ w' = w := by
  go_enter Tryz.func30, Tryz.ntmps30
  go_wp2_with fail
  go_ret
  exact ⟨rfl, rfl⟩
set_option maxRecDepth 100000 in
theorem rknown20 (w : World) : Calls Tryz.prog 25 #[.int .i64 20] w fun e w' => e = .returned (.bool true) ∧ w' = w := by
  go_enter Tryz.func25, Tryz.ntmps25
  go_wp2_with fail
  go_ret
  exact ⟨rfl, rfl⟩
set_option maxRecDepth 100000 in
theorem rins20 (w : World) : Calls Tryz.prog 28 #[.int .i64 20] w fun e w' => e = .returned (.int .i64 1) ∧ w' = w := by
  go_enter Tryz.func28, Tryz.ntmps28
  go_wp2_with fail
  refine (rknown20 w).mono ?_
  rintro e wq ⟨rfl, hw⟩
  have hw := hw.symm
  subst hw
  go_wp2_with fail
  go_ret
  exact ⟨rfl, rfl⟩
set_option maxRecDepth 100000 in
theorem rargs20 (w : World) : Calls Tryz.prog 30 #[.int .i64 20] w fun e w' => e = .returned (.int .i64 0) ∧ w' = w := by
  go_enter Tryz.func30, Tryz.ntmps30
  go_wp2_with fail
  go_ret
  exact ⟨rfl, rfl⟩
/-- What is held in a region: 3 cells. -/
abbrev CS3 (p0 p1 p2 : Addr) (v0 v1 v2 : Value) (W : World) : Prop := W.cell? p0 = some v0 ∧ W.cell? p1 = some v1 ∧ W.cell? p2 = some v2
theorem CS3.keep {p0 p1 p2 : Addr} {v0 v1 v2 : Value} {W W' : World} (h : CS3 p0 p1 p2 v0 v1 v2 W) (l0 : p0.block < W.heap.size) (l1 : p1.block < W.heap.size) (l2 : p2.block < W.heap.size) (hB : Below W.heap.size W W') : CS3 p0 p1 p2 v0 v1 v2 W' := by
  obtain ⟨h0, h1, h2⟩ := h
  exact ⟨(hB.cell l0).trans h0, (hB.cell l1).trans h1, (hB.cell l2).trans h2⟩
theorem CS3.far {p0 p1 p2 : Addr} {v0 v1 v2 : Value} {W : World} (h : CS3 p0 p1 p2 v0 v1 v2 W) {b : Nat} (l0 : b ≠ p0.block) (l1 : b ≠ p1.block) (l2 : b ≠ p2.block) (j : Nat) (x : Value) : CS3 p0 p1 p2 v0 v1 v2 (W.setCell ⟨b, j, none⟩ x) := by
  obtain ⟨h0, h1, h2⟩ := h
  have f : ∀ (p : Addr) (v : Value), b ≠ p.block → W.cell? p = some v → (W.setCell ⟨b, j, none⟩ x).cell? p = some v := fun p v hn hc => by
    rw [World.cell?_setCell_far _ _ _ _ (by exact hn)]
    exact hc
  exact ⟨f _ _ l0 h0, f _ _ l1 h1, f _ _ l2 h2⟩
theorem CS3.drew {p0 p1 p2 : Addr} {v0 v1 v2 : Value} {W : World} (h : CS3 p0 p1 p2 v0 v1 v2 W) : CS3 p0 p1 p2 v0 v1 v2 W.drew := h
/-- The reference's answer: a tensor, and a fault. -/
def RTenE (w : World) (F : Nat × Option Nat) (zs : List Int) (u : Bool) (ds : List Int) (e : Ending) (w' : World) : Prop :=
  (∃ t : Ten, e = .returned (.tuple #[.agg (tcells t.P t.zs.length t.cap t.u t.D t.ds.length t.dcap), .agg (Tens.fval F)]) ∧ t.In w' ∧ t.zs = zs ∧ t.u = u ∧ t.ds = ds) ∧ Below w.heap.size w w'
theorem RTenE.bad {w W : World} {F : Nat × Option Nat} {e : Ending} (he : e = .returned (.tuple #[.agg (tcells none 0 0 false none 0 0), .agg (Tens.fval F)])) (hb : Below w.heap.size w W) : RTenE w F [] false [] e W :=
  ⟨⟨⟨none, [], 0, false, none, [], 0⟩, he, ⟨Ri.nil _ _, Ri.nil _ _, by simp, by simp⟩, rfl, rfl, rfl⟩, hb⟩
abbrev FatS (g : Nat) (w : World) (x y : Value) (W : World) : Prop := W.cell? ⟨g, 0, none⟩ = some x ∧ W.cell? ⟨g, 1, none⟩ = some y ∧ Hid (Below w.heap.size w W)
theorem FatS.keep {g : Nat} {w : World} {x y : Value} {W W' : World} (h : FatS g w x y W) (hb : Below W.heap.size W W') : FatS g w x y W' :=
  ⟨ten_kept h.1 hb, ten_kept h.2.1 hb, hide (h.2.2.out.trans (hb.mono h.2.2.out.size))⟩
theorem FatS.of {g : Nat} {w W : World} {x y : Value} {t : TypeId} (h : Has W g t [x, y]) (hb : Below w.heap.size w W) : FatS g w x y W :=
  ⟨by rw [h.cell]; rfl, by rw [h.cell]; rfl, hide hb⟩
/-- What is held in a region: eight cells. -/
abbrev CS8 (p0 p1 p2 p3 p4 p5 p6 p7 : Addr) (v0 v1 v2 v3 v4 v5 v6 v7 : Value) (W : World) : Prop := W.cell? p0 = some v0 ∧ W.cell? p1 = some v1 ∧ W.cell? p2 = some v2 ∧ W.cell? p3 = some v3 ∧ W.cell? p4 = some v4 ∧ W.cell? p5 = some v5 ∧ W.cell? p6 = some v6 ∧ W.cell? p7 = some v7
theorem CS8.keep {p0 p1 p2 p3 p4 p5 p6 p7 : Addr} {v0 v1 v2 v3 v4 v5 v6 v7 : Value} {W W' : World} (h : CS8 p0 p1 p2 p3 p4 p5 p6 p7 v0 v1 v2 v3 v4 v5 v6 v7 W) (hB : Below W.heap.size W W') : CS8 p0 p1 p2 p3 p4 p5 p6 p7 v0 v1 v2 v3 v4 v5 v6 v7 W' := by
  obtain ⟨h0, h1, h2, h3, h4, h5, h6, h7⟩ := h
  exact ⟨ten_kept h0 hB, ten_kept h1 hB, ten_kept h2 hB, ten_kept h3 hB, ten_kept h4 hB, ten_kept h5 hB, ten_kept h6 hB, ten_kept h7 hB⟩
theorem CS8.drew {p0 p1 p2 p3 p4 p5 p6 p7 : Addr} {v0 v1 v2 v3 v4 v5 v6 v7 : Value} {W : World} (h : CS8 p0 p1 p2 p3 p4 p5 p6 p7 v0 v1 v2 v3 v4 v5 v6 v7 W) : CS8 p0 p1 p2 p3 p4 p5 p6 p7 v0 v1 v2 v3 v4 v5 v6 v7 W.drew := h
/-- What lodgeref3.pool reads. -/
def RpS (p0 p1 p2 p3 p4 p5 p6 : Addr) (v0 v1 v2 v3 v4 v5 v6 : Value) (W : World) : Prop := W.cell? p0 = some v0 ∧ W.cell? p1 = some v1 ∧ W.cell? p2 = some v2 ∧ W.cell? p3 = some v3 ∧ W.cell? p4 = some v4 ∧ W.cell? p5 = some v5 ∧ W.cell? p6 = some v6
theorem RpS.keep {p0 p1 p2 p3 p4 p5 p6 : Addr} {v0 v1 v2 v3 v4 v5 v6 : Value} {W W' : World} (h : RpS p0 p1 p2 p3 p4 p5 p6 v0 v1 v2 v3 v4 v5 v6 W) (hB : Below W.heap.size W W') : RpS p0 p1 p2 p3 p4 p5 p6 v0 v1 v2 v3 v4 v5 v6 W' := by
  obtain ⟨h0, h1, h2, h3, h4, h5, h6⟩ := h
  exact ⟨ten_kept h0 hB, ten_kept h1 hB, ten_kept h2 hB, ten_kept h3 hB, ten_kept h4 hB, ten_kept h5 hB, ten_kept h6 hB⟩
/-- What is held in a region: 5 cells. -/
abbrev CS5 (p0 p1 p2 p3 p4 : Addr) (v0 v1 v2 v3 v4 : Value) (W : World) : Prop := W.cell? p0 = some v0 ∧ W.cell? p1 = some v1 ∧ W.cell? p2 = some v2 ∧ W.cell? p3 = some v3 ∧ W.cell? p4 = some v4
theorem CS5.keep {p0 p1 p2 p3 p4 : Addr} {v0 v1 v2 v3 v4 : Value} {W W' : World} (h : CS5 p0 p1 p2 p3 p4 v0 v1 v2 v3 v4 W) (hB : Below W.heap.size W W') : CS5 p0 p1 p2 p3 p4 v0 v1 v2 v3 v4 W' := by
  obtain ⟨h0, h1, h2, h3, h4⟩ := h
  exact ⟨ten_kept h0 hB, ten_kept h1 hB, ten_kept h2 hB, ten_kept h3 hB, ten_kept h4 hB⟩
theorem CS5.far {p0 p1 p2 p3 p4 : Addr} {v0 v1 v2 v3 v4 : Value} {W : World} (h : CS5 p0 p1 p2 p3 p4 v0 v1 v2 v3 v4 W) {b : Nat} (l0 : b ≠ p0.block) (l1 : b ≠ p1.block) (l2 : b ≠ p2.block) (l3 : b ≠ p3.block) (l4 : b ≠ p4.block) (j : Nat) (x : Value) : CS5 p0 p1 p2 p3 p4 v0 v1 v2 v3 v4 (W.setCell ⟨b, j, none⟩ x) := by
  obtain ⟨h0, h1, h2, h3, h4⟩ := h
  have f : ∀ (p : Addr) (v : Value), b ≠ p.block → W.cell? p = some v → (W.setCell ⟨b, j, none⟩ x).cell? p = some v := fun p v hn hc => by
    rw [World.cell?_setCell_far _ _ _ _ (by exact hn)]
    exact hc
  exact ⟨f _ _ l0 h0, f _ _ l1 h1, f _ _ l2 h2, f _ _ l3 h3, f _ _ l4 h4⟩
end Go.Proofs.YtgdcfjmpjhlndaaGreatDoor
