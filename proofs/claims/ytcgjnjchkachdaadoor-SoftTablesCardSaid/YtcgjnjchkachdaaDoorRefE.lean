/-
  What the reference's Result functions answer, in one form; lodgeref3.seen, walked. lodgeref3.MatResult, walked. lodgeref3.descsOf, walked. lodgeref3.Known, Ins, Args; Result of MatMul and of Turn, walked. lodgeref3.element of MatMul and of Turn, walked. By an AI agent. No person has read it.
-/
import Derived.Test.YtcgjnjchkachdaaDoorElmN
import Derived.Test.YtcgjnjchkachdaaDoorElmN
import Derived.Test.YtcgjnjchkachdaaDoorCelC
import Derived.Test.YtcgjnjchkachdaaDoorMatN
import Derived.Test.YtcgjnjchkachdaaDoorElmN
import Derived.Test.YtcgjnjchkachdaaDoorMatN
namespace Go.Proofs.YtcgjnjchkachdaaDoor
open Go.RowKit

/-- The reference's answer: what it looks like, and the error's number. -/
def RefE (w : World) (zs : List Int) (u : Bool) (k : Nat) (e : Ending) (w' : World) : Prop :=
  (∃ d : Dsc, e = .returned (.tuple #[.agg (dcells d.P d.zs.length d.cap d.u), .int .i64 (k : Nat)]) ∧ d.In w' ∧ d.Fresh w.heap.size ∧ d.zs = zs ∧ d.u = u) ∧ Below w.heap.size w w'
theorem RefE.bad {w W : World} {k : Nat} {e : Ending} (he : e = .returned (.tuple #[.agg (dcells none 0 0 false), .int .i64 (k : Nat)])) (hb : Below w.heap.size w W) : RefE w [] false k e W :=
  ⟨⟨⟨none, [], 0, false⟩, he, ⟨Ri.nil _ _, by simp⟩, (fun ad h => by cases h), rfl, rfl⟩, hb⟩
def Rf.zs (d : Dsc) : List Int := if Shp.code d.zs = 0 then d.zs else []
def Rf.u (d : Dsc) : Bool := if Shp.code d.zs = 0 then d.u else false
set_option maxRecDepth 100000 in
set_option maxHeartbeats 4000000 in
theorem seen_c (d : Dsc) (w : World) (hd : d.In w) :
    Calls Tryd.prog 66 #[.agg (dcells d.P d.zs.length d.cap d.u)] w (RefE w (Rf.zs d) (Rf.u d) (Shp.code d.zs)) := by
  obtain ⟨W0, hW0⟩ : ∃ W, W = (w.alloc (.cells #[.slice d.P d.zs.length d.cap, .bool d.u] 24)).alloc (.cells #[.slice none 0 0, .bool false] 24) := ⟨_, rfl⟩
  have HA : Hid (Has W0 w.heap.size 24 [.slice d.P d.zs.length d.cap, .bool d.u]) := hide (by rw [hW0]; exact (Has.new w 24 _).alloc _)
  have HZ : Hid (Has W0 (w.heap.size + 1) 24 [.slice none 0 0, .bool false]) := hide (by rw [hW0]; exact box_at _ _ _ _ (by simp))
  have HB : Hid (Below w.heap.size w W0) := hide (by rw [hW0]; exact ((Below.refl _ _).alloc (Nat.le_refl _) _).alloc (by simp) _)
  have HV := hide (refvalid_c d.zs d.P d.cap d.u W0 (hd.shp.below HB.out) (by have := hd.ls; omega))
  have HD := hide (fun W (h : Below w.heap.size w W) => rdesc_c d.zs d.P d.cap d.u W (hd.shp.below h) hd.ls)
  have HL := hide hd.ls
  have HWf := hide hd.shp.1
  obtain ⟨n, hn⟩ : ∃ n, Hid (d.zs.length = n) := ⟨_, hide rfl⟩
  obtain ⟨k, hk⟩ : ∃ k, Hid (Shp.code d.zs = k) := ⟨_, hide rfl⟩
  have HR1 : Hid (k = 0 → Rf.zs d = d.zs ∧ Rf.u d = d.u) := hide (fun h => by unfold Rf.zs Rf.u; rw [hk.out, if_pos h, if_pos h]; exact ⟨rfl, rfl⟩)
  have HR2 : Hid (k ≠ 0 → Rf.zs d = [] ∧ Rf.u d = false) := hide (fun h => by unfold Rf.zs Rf.u; rw [hk.out, if_neg h, if_neg h]; exact ⟨rfl, rfl⟩)
  have hkc := Shp.code_is d.zs
  rw [hk.out] at HV hkc ⊢
  have HW := hide hW0
  have HLn : Hid (d.zs.length = n) := hn
  rw [hn.out] at HA HV HD HW ⊢
  have c0 := HA.out.cell 0
  have c1 := HA.out.cell 1
  clear hd hW0
  go_enter Tryd.func66, Tryd.ntmps66
  go_wp2_with fail
  rw [← HW.out]
  clear HW c0 c1
  refine HV.out.mono ?_
  rintro e w1 ⟨rfl, hb⟩
  replace HA := hide (HA.out.below hb HA.out.lt)
  replace HZ := hide (HZ.out.below hb HZ.out.lt)
  replace HB := hide (HB.out.trans (hb.mono HB.out.size))
  clear hb HV
  by_cases h0 : k = 0
  case neg =>
    obtain ⟨e1, e2⟩ := HR2.out h0
    have h1 : ((k : Int) == 0) = false := by simp; omega
    have h2 : ((k : Int) != 0) = true := by simp; omega
    obtain ⟨z0, z1, zf0, zf1, HZf, HFf⟩ := elm_two HZ.out HB.out (Nat.le_add_right _ 1) (.slice none 0 0) (.bool false)
    have HE1 := hide e1
    have HE2 := hide e2
    clear e1 e2 hkc h0
    go_wp2_with fail
    refine bodyPost_ret (results_desc rfl _ _ (w.heap.size + 1) _ _ rfl HZf.out) rfl ?_
    rw [HE1.out, HE2.out]
    exact RefE.bad rfl HFf.out
  case pos =>
    subst h0
    obtain ⟨e1, e2⟩ := HR1.out rfl
    have HE1 := hide e1
    have HE2 := hide e2
    have c0 := HA.out.cell 0
    have c1 := HA.out.cell 1
    clear hkc e1 e2
    go_wp2_with fail
    clear c0 c1
    refine (HD.out _ HB.out).mono ?_
    rintro e w2 ⟨⟨g, c, rest, rfl, hg, hC⟩, hb⟩
    have hz := HZ.out.below hb HZ.out.lt
    have hB := HB.out.trans (hb.mono HB.out.size)
    have hgs := HB.out.size
    have hzl := HZ.out.lt
    obtain ⟨z0, z1, zf0, zf1, HZf, HFf⟩ := elm_two hz hB (Nat.le_add_right _ 1) (.slice (some ⟨g, 0, none⟩) n c) (.bool d.u)
    have HC2 := hide ((hC.far (p := ⟨w.heap.size + 1, 0, none⟩) (by show g ≠ w.heap.size + 1; omega) (.slice (some ⟨g, 0, none⟩) n c)).far (p := ⟨w.heap.size + 1, 1, none⟩) (by show g ≠ w.heap.size + 1; omega) (.bool d.u))
    have hg2 : w.heap.size ≤ g := by omega
    clear hz hB hb hgs hzl hC
    go_wp2_with fail
    refine bodyPost_ret (results_desc rfl _ _ (w.heap.size + 1) _ _ rfl HZf.out) rfl ?_
    rw [HE1.out, HE2.out]
    exact ⟨⟨⟨some ⟨g, 0, none⟩, d.zs, c, d.u⟩, by rw [HLn.out]; rfl, ⟨HC2.out.ri_app HWf.out, HL.out⟩, (fun ad h => by cases h; exact hg2), rfl, rfl⟩, HFf.out⟩
theorem Tens.fit_narrow (n : Int) : Tens.fit false n = decide (Tens.narrow n = n) := by
  unfold Tens.fit Tens.narrow
  rw [if_neg (by decide)]
  by_cases h : -128 ≤ n ∧ n ≤ 127
  · rw [decide_eq_true h, decide_eq_true (by omega)]
  · rw [decide_eq_false h, decide_eq_false (by omega)]
/-- What is held in a region: four cells. -/
abbrev RmS (p0 p1 p2 p3 : Addr) (v0 v1 v2 v3 : Value) (W : World) : Prop := W.cell? p0 = some v0 ∧ W.cell? p1 = some v1 ∧ W.cell? p2 = some v2 ∧ W.cell? p3 = some v3
theorem RmS.keep {p0 p1 p2 p3 : Addr} {v0 v1 v2 v3 : Value} {W W' : World} (h : RmS p0 p1 p2 p3 v0 v1 v2 v3 W) (l0 : p0.block < W.heap.size) (l1 : p1.block < W.heap.size) (l2 : p2.block < W.heap.size) (l3 : p3.block < W.heap.size) (hB : Below W.heap.size W W') : RmS p0 p1 p2 p3 v0 v1 v2 v3 W' := by
  obtain ⟨h0, h1, h2, h3⟩ := h
  exact ⟨(hB.cell l0).trans h0, (hB.cell l1).trans h1, (hB.cell l2).trans h2, (hB.cell l3).trans h3⟩
theorem RmS.far2 {p0 p1 p2 p3 : Addr} {v0 v1 v2 v3 : Value} {W : World} (h : RmS p0 p1 p2 p3 v0 v1 v2 v3 W) {b : Nat} (l0 : b ≠ p0.block) (l1 : b ≠ p1.block) (l2 : b ≠ p2.block) (l3 : b ≠ p3.block) (x y : Value) : RmS p0 p1 p2 p3 v0 v1 v2 v3 ((W.setCell ⟨b, 0, none⟩ x).setCell ⟨b, 1, none⟩ y) := by
  obtain ⟨h0, h1, h2, h3⟩ := h
  have f : ∀ (V : World) (p : Addr) (i : Nat) (z v : Value), b ≠ p.block → V.cell? p = some v → (V.setCell ⟨b, i, none⟩ z).cell? p = some v := fun V p i z v hn hc => by
    rw [World.cell?_setCell_far _ _ _ _ (by exact hn)]
    exact hc
  exact ⟨f _ _ _ _ _ l0 (f _ _ _ _ _ l0 h0), f _ _ _ _ _ l1 (f _ _ _ _ _ l1 h1), f _ _ _ _ _ l2 (f _ _ _ _ _ l2 h2), f _ _ _ _ _ l3 (f _ _ _ _ _ l3 h3)⟩
set_option maxRecDepth 100000 in
set_option maxHeartbeats 8000000 in
theorem rmat_c (za zb : Int) (a b : Dsc) (w : World) (ha : a.In w) (hb : b.In w) :
    Calls Tryd.prog 88 #[.int .i64 za, .int .i64 zb, .agg (dcells a.P a.zs.length a.cap a.u), .agg (dcells b.P b.zs.length b.cap b.u)] w (RefE w (Mat.shape za zb a b) (Mat.kind za zb a b) (Mat.code za zb a b)) := by
  obtain ⟨W0, hW0⟩ : ∃ W, W = ((((w.alloc (.cells #[.slice a.P a.zs.length a.cap, .bool a.u] 24)).alloc (.cells #[.slice b.P b.zs.length b.cap, .bool b.u] 24)).alloc (.cells #[.slice none 0 0, .bool false] 24)).alloc (.cells #[.slice a.P a.zs.length a.cap, .bool a.u, .slice b.P b.zs.length b.cap, .bool b.u] 24)) := ⟨_, rfl⟩
  have HA : Hid (Has W0 w.heap.size 24 [.slice a.P a.zs.length a.cap, .bool a.u]) := hide (by rw [hW0]; exact (((Has.new w 24 _).alloc _).alloc _).alloc _)
  have HB : Hid (Has W0 (w.heap.size + 1) 24 [.slice b.P b.zs.length b.cap, .bool b.u]) := hide (by rw [hW0]; exact ((box_at _ _ _ _ (by simp)).alloc _).alloc _)
  have HZ : Hid (Has W0 (w.heap.size + 2) 24 [.slice none 0 0, .bool false]) := hide (by rw [hW0]; exact (box_at _ _ _ _ (by simp)).alloc _)
  have HS : Hid (Has W0 (w.heap.size + 3) 24 ([a, b].flatMap Dsc.vals)) := hide (by rw [hW0]; exact box_at _ _ _ _ (by simp))
  have HB0 : Hid (Below w.heap.size w W0) := hide (by rw [hW0]; exact ((((Below.refl _ _).alloc (Nat.le_refl _) _).alloc (by simp) _).alloc (by simp; omega) _).alloc (by simp; omega) _)
  have HW := hide hW0
  have HDS := hide (descs_c [a, b] (some ⟨w.heap.size + 3, 0, none⟩) 2 W0 HS.out.row (fun d hd => by
    simp at hd
    rcases hd with rfl | rfl
    · exact ha.below HB0.out
    · exact hb.below HB0.out) (by simp))
  have HIa := hide (fun W (h : Below w.heap.size w W) => ha.shp.below h)
  have HIb := hide (fun W (h : Below w.heap.size w W) => hb.shp.below h)
  have HNW := hide (fun n W => rnarrow_c n W)
  obtain ⟨F, hF⟩ : ∃ n, Hid (Shp.firstbad [a, b] = n) := ⟨_, hide rfl⟩
  rw [hF.out] at HDS
  clear ha hb hW0 HS
  go_enter Tryd.func88, Tryd.ntmps88
  go_wp2_with fail
  rw [← HW.out]
  clear HW
  refine HDS.out.mono ?_
  rintro e w1 ⟨rfl, hb⟩
  replace HA := hide (HA.out.below hb HA.out.lt)
  replace HB := hide (HB.out.below hb HB.out.lt)
  replace HZ := hide (HZ.out.below hb HZ.out.lt)
  replace HB0 := hide (HB0.out.trans (hb.mono HB0.out.size))
  clear hb HDS
  by_cases h0 : F = 0
  case neg =>
    have hcd : Mat.code za zb a b = F := by
      unfold Mat.code
      rw [hF.out, if_pos h0]
    obtain ⟨e1, e2⟩ := Mat.bad (by rw [hcd]; exact h0)
    have HD1 := hide e1
    have HD2 := hide e2
    have HCD := hide hcd
    have h1 : ((F : Int) == 0) = false := by simp; omega
    have h2 : ((F : Int) != 0) = true := by simp; omega
    clear e1 e2 hcd h0
    obtain ⟨z0, z1, zf0, zf1, HZf, HFf⟩ := elm_two HZ.out HB0.out (Nat.le_add_right _ 2) (.slice none 0 0) (.bool false)
    go_wp2_with fail
    refine bodyPost_ret (results_desc rfl _ _ (w.heap.size + 2) _ _ rfl HZf.out) rfl ?_
    rw [HD1.out, HD2.out, HCD.out]
    exact RefE.bad rfl HFf.out
  case pos =>
  subst h0
  have HFB := hF
  have hcode : ∀ k, (¬ (a.u = true ∨ b.u = true ∨ a.zs.length ≠ 2 ∨ b.zs.length ≠ 2 ∨ a.zs.getD 1 0 ≠ b.zs.getD 0 0) → False) → k = 101 → Mat.code za zb a b = k := fun k h hk => by
    unfold Mat.code
    rw [if_neg (by rw [HFB.out]; simp), if_pos (Classical.byContradiction h), hk]
  have HC101 : Hid (¬ (¬ (a.u = true ∨ b.u = true ∨ a.zs.length ≠ 2 ∨ b.zs.length ≠ 2 ∨ a.zs.getD 1 0 ≠ b.zs.getD 0 0)) → Mat.code za zb a b = 101 ∧ Mat.shape za zb a b = [] ∧ Mat.kind za zb a b = false) := hide (fun h => by
    have h1 := hcode 101 h rfl
    have h2 := Mat.bad (by rw [h1]; decide)
    exact ⟨h1, h2.1, h2.2⟩)
  have HC102 : Hid (¬ (a.u = true ∨ b.u = true ∨ a.zs.length ≠ 2 ∨ b.zs.length ≠ 2 ∨ a.zs.getD 1 0 ≠ b.zs.getD 0 0) → (Tens.narrow za ≠ za ∨ Tens.narrow zb ≠ zb) → Mat.code za zb a b = 102 ∧ Mat.shape za zb a b = [] ∧ Mat.kind za zb a b = false) := hide (fun h h' => by
    have h1 : Mat.code za zb a b = 102 := by
      unfold Mat.code
      rw [if_neg (by rw [HFB.out]; simp), if_neg h, if_pos h']
    have h2 := Mat.bad (by rw [h1]; decide)
    exact ⟨h1, h2.1, h2.2⟩)
  clear hcode
  obtain ⟨na, hna⟩ : ∃ n, Hid (a.zs.length = n) := ⟨_, hide rfl⟩
  obtain ⟨nb, hnb⟩ : ∃ n, Hid (b.zs.length = n) := ⟨_, hide rfl⟩
  rw [hna.out, hnb.out] at HC101 HC102
  rw [hna.out] at HA
  rw [hnb.out] at HB
  obtain ⟨ua, hua⟩ : ∃ n, Hid (a.u = n) := ⟨_, hide rfl⟩
  obtain ⟨ub, hub⟩ : ∃ n, Hid (b.u = n) := ⟨_, hide rfl⟩
  rw [hua.out, hub.out] at HC101 HC102
  rw [hua.out] at HA
  rw [hub.out] at HB
  have a0 : w1.cell? ⟨w.heap.size, 0, none⟩ = some (.slice a.P na a.cap) := HA.out.cell 0
  have a1 : w1.cell? ⟨w.heap.size, 1, none⟩ = some (.bool ua) := HA.out.cell 1
  have b0 : w1.cell? ⟨w.heap.size + 1, 0, none⟩ = some (.slice b.P nb b.cap) := HB.out.cell 0
  have b1 : w1.cell? ⟨w.heap.size + 1, 1, none⟩ = some (.bool ub) := HB.out.cell 1
  have hq1 : ((0 : Int) == 0) = true := rfl
  have hq2 : ((0 : Int) != 0) = false := rfl
  go_wp2_with fail
  clear hq1 hq2
  by_cases h1 : na = 2
  case neg =>
    have i1 : ((na : Int) == 2) = false := by simp; omega
    have i2 : ((na : Int) != 2) = true := by simp; omega
    obtain ⟨e0, e1, e2⟩ := HC101.out (by exact fun h => h (.inr (.inr (.inl h1))))
    have HCD := hide e0
    have HD1 := hide e1
    have HD2 := hide e2
    clear e0 e1 e2 HC101
    go_quiet (fail)
    clear a0 a1 b0 b1
    replace HZ := hide (HZ.out.drewN nq)
    replace HB0 := hide (below_drewN HB0.out nq)
    generalize w1.drewN nq = W3 at *
    obtain ⟨z0, z1, zf0, zf1, HZf, HFf⟩ := elm_two HZ.out HB0.out (Nat.le_add_right _ 2) (.slice none 0 0) (.bool false)
    go_wp2_with fail
    refine bodyPost_ret (results_desc rfl _ _ (w.heap.size + 2) _ _ rfl HZf.out) rfl ?_
    rw [HD1.out, HD2.out, HCD.out]
    exact RefE.bad rfl HFf.out
  case pos =>
  subst h1
  by_cases h2 : nb = 2
  case neg =>
    have i1 : ((nb : Int) == 2) = false := by simp; omega
    have i2 : ((nb : Int) != 2) = true := by simp; omega
    obtain ⟨e0, e1, e2⟩ := HC101.out (by exact fun h => h (.inr (.inr (.inr (.inl h2)))))
    have HCD := hide e0
    have HD1 := hide e1
    have HD2 := hide e2
    clear e0 e1 e2 HC101
    go_quiet (fail)
    clear a0 a1 b0 b1
    replace HZ := hide (HZ.out.drewN nq)
    replace HB0 := hide (below_drewN HB0.out nq)
    generalize w1.drewN nq = W3 at *
    obtain ⟨z0, z1, zf0, zf1, HZf, HFf⟩ := elm_two HZ.out HB0.out (Nat.le_add_right _ 2) (.slice none 0 0) (.bool false)
    go_wp2_with fail
    refine bodyPost_ret (results_desc rfl _ _ (w.heap.size + 2) _ _ rfl HZf.out) rfl ?_
    rw [HD1.out, HD2.out, HCD.out]
    exact RefE.bad rfl HFf.out
  case pos =>
  subst h2
  cases ua
  case true =>
    obtain ⟨e0, e1, e2⟩ := HC101.out (by exact fun h => h (.inl rfl))
    have HCD := hide e0
    have HD1 := hide e1
    have HD2 := hide e2
    clear e0 e1 e2 HC101
    go_quiet (fail)
    clear a0 a1 b0 b1
    replace HZ := hide (HZ.out.drewN nq)
    replace HB0 := hide (below_drewN HB0.out nq)
    generalize w1.drewN nq = W3 at *
    obtain ⟨z0, z1, zf0, zf1, HZf, HFf⟩ := elm_two HZ.out HB0.out (Nat.le_add_right _ 2) (.slice none 0 0) (.bool false)
    go_wp2_with fail
    refine bodyPost_ret (results_desc rfl _ _ (w.heap.size + 2) _ _ rfl HZf.out) rfl ?_
    rw [HD1.out, HD2.out, HCD.out]
    exact RefE.bad rfl HFf.out
  case false =>
  cases ub
  case true =>
    obtain ⟨e0, e1, e2⟩ := HC101.out (by exact fun h => h (.inr (.inl rfl)))
    have HCD := hide e0
    have HD1 := hide e1
    have HD2 := hide e2
    clear e0 e1 e2 HC101
    go_quiet (fail)
    clear a0 a1 b0 b1
    replace HZ := hide (HZ.out.drewN nq)
    replace HB0 := hide (below_drewN HB0.out nq)
    generalize w1.drewN nq = W3 at *
    obtain ⟨z0, z1, zf0, zf1, HZf, HFf⟩ := elm_two HZ.out HB0.out (Nat.le_add_right _ 2) (.slice none 0 0) (.bool false)
    go_wp2_with fail
    refine bodyPost_ret (results_desc rfl _ _ (w.heap.size + 2) _ _ rfl HZf.out) rfl ?_
    rw [HD1.out, HD2.out, HCD.out]
    exact RefE.bad rfl HFf.out
  case false =>
  obtain ⟨x0, x1, hax⟩ : ∃ x y, Hid (a.zs = [x, y]) := by
    match hz : a.zs, hna.out with
    | [x, y], _ => exact ⟨x, y, hide rfl⟩
  obtain ⟨y0, y1, hbx⟩ : ∃ x y, Hid (b.zs = [x, y]) := by
    match hz : b.zs, hnb.out with
    | [x, y], _ => exact ⟨x, y, hide rfl⟩
  have hra := HIa.out w1 HB0.out
  have hrb := HIb.out w1 HB0.out
  rw [hax.out] at hra HC101 HC102
  rw [hbx.out] at hrb HC101 HC102
  obtain ⟨pa, epa, p0, p1⟩ := ri_pair hra
  obtain ⟨pb, epb, q0, q1⟩ := ri_pair hrb
  have HPL : Hid (pa.block < w.heap.size) := hide (by obtain ⟨ad, h1, h2, -⟩ := (HIa.out w (Below.refl _ _)).2 (by rw [hax.out]; simp); rw [epa] at h1; rw [Option.some.inj h1]; exact h2)
  have HQL : Hid (pb.block < w.heap.size) := hide (by obtain ⟨ad, h1, h2, -⟩ := (HIb.out w (Below.refl _ _)).2 (by rw [hbx.out]; simp); rw [epb] at h1; rw [Option.some.inj h1]; exact h2)
  have hpl1 : pa.block < w1.heap.size := by obtain ⟨ad, h1, h2, -⟩ := hra.2 (by simp); rw [epa] at h1; rw [Option.some.inj h1]; exact h2
  have hpl2 : pb.block < w1.heap.size := by obtain ⟨ad, h1, h2, -⟩ := hrb.2 (by simp); rw [epb] at h1; rw [Option.some.inj h1]; exact h2
  have HWF : Hid (∀ q ∈ [x0, y1], (Lit.int .i64 q).wf = true) := hide (by
    intro q hq
    simp at hq
    rcases hq with rfl | rfl
    · exact hra.1 _ (by simp)
    · exact hrb.1 _ (by simp))
  rw [epa] at a0 HA
  rw [epb] at b0 HB
  clear epa epb hra hrb
  by_cases hxy : x1 = y0
  case neg =>
    have i1 : (x1 == y0) = false := by simpa using hxy
    have i2 : (x1 != y0) = true := by simpa using hxy
    obtain ⟨e0, e1, e2⟩ := HC101.out (by exact fun h => h (.inr (.inr (.inr (.inr (by simpa using hxy))))))
    have HCD := hide e0
    have HD1 := hide e1
    have HD2 := hide e2
    clear e0 e1 e2 HC101
    go_quiet (fail)
    clear a0 a1 b0 b1 p0 p1 q0 q1 hpl1 hpl2
    replace HZ := hide (HZ.out.drewN nq)
    replace HB0 := hide (below_drewN HB0.out nq)
    generalize w1.drewN nq = W3 at *
    obtain ⟨z0, z1, zf0, zf1, HZf, HFf⟩ := elm_two HZ.out HB0.out (Nat.le_add_right _ 2) (.slice none 0 0) (.bool false)
    go_wp2_with fail
    refine bodyPost_ret (results_desc rfl _ _ (w.heap.size + 2) _ _ rfl HZf.out) rfl ?_
    rw [HD1.out, HD2.out, HCD.out]
    exact RefE.bad rfl HFf.out
  case pos =>
  subst hxy
  have i1 : (x1 == x1) = true := by simp
  have i2 : (x1 != x1) = false := by simp
  have HNO : Hid (¬ (false = true ∨ false = true ∨ 2 ≠ 2 ∨ 2 ≠ 2 ∨ [x0, x1].getD 1 0 ≠ [x1, y1].getD 0 0)) := hide (by simp)
  go_quiet (fail)
  have p0' : (w1.drewN nq).cell? pa = _ := p0
  have q1' : (w1.drewN nq).cell? ⟨pb.block, pb.off + 1, none⟩ = _ := q1
  have hpal : pa.block < (w1.drewN nq).heap.size := hpl1
  have hpbl : pb.block < (w1.drewN nq).heap.size := hpl2
  clear hpl1 hpl2 i1 i2
  clear a0 a1 b0 b1 p0 p1 q0 q1
  replace HZ := hide (HZ.out.drewN nq)
  replace HA := hide (HA.out.drewN nq)
  replace HB := hide (HB.out.drewN nq)
  replace HB0 := hide (below_drewN HB0.out nq)
  generalize w1.drewN nq = W3 at *
  go_wp2_with fail
  refine (HNW.out za W3).mono ?_
  rintro e wq ⟨rfl, hw⟩
  have hw := hw.symm
  subst hw
  rw [Tens.fit_narrow]
  by_cases hza : Tens.narrow za = za
  case neg =>
    rw [decide_eq_false hza]
    obtain ⟨e0, e1, e2⟩ := HC102.out HNO.out (.inl hza)
    have HCD := hide e0
    have HD1 := hide e1
    have HD2 := hide e2
    clear e0 e1 e2 HC102 hza
    obtain ⟨z0, z1, zf0, zf1, HZf, HFf⟩ := elm_two HZ.out HB0.out (Nat.le_add_right _ 2) (.slice none 0 0) (.bool false)
    go_wp2_with fail
    refine bodyPost_ret (results_desc rfl _ _ (w.heap.size + 2) _ _ rfl HZf.out) rfl ?_
    rw [HD1.out, HD2.out, HCD.out]
    exact RefE.bad rfl HFf.out
  case pos =>
  rw [decide_eq_true hza]
  go_wp2_with fail
  refine (HNW.out zb W3).mono ?_
  rintro e wq ⟨rfl, hw⟩
  have hw := hw.symm
  subst hw
  rw [Tens.fit_narrow]
  by_cases hzb : Tens.narrow zb = zb
  case neg =>
    rw [decide_eq_false hzb]
    obtain ⟨e0, e1, e2⟩ := HC102.out HNO.out (.inr hzb)
    have HCD := hide e0
    have HD1 := hide e1
    have HD2 := hide e2
    clear e0 e1 e2 HC102 hza hzb
    obtain ⟨z0, z1, zf0, zf1, HZf, HFf⟩ := elm_two HZ.out HB0.out (Nat.le_add_right _ 2) (.slice none 0 0) (.bool false)
    go_wp2_with fail
    refine bodyPost_ret (results_desc rfl _ _ (w.heap.size + 2) _ _ rfl HZf.out) rfl ?_
    rw [HD1.out, HD2.out, HCD.out]
    exact RefE.bad rfl HFf.out
  case pos =>
  rw [decide_eq_true hzb]
  have HCK : Hid (Mat.code za zb a b = Shp.code [x0, y1]) := hide (by
    unfold Mat.code
    rw [if_neg (by rw [HFB.out]; simp), if_neg (by rw [hax.out, hbx.out, hua.out, hub.out]; simp), if_neg (by rw [hza, hzb]; simp), hax.out, hbx.out]
    rfl)
  have HSH : Hid (Mat.shape za zb a b = Rf.zs ⟨none, [x0, y1], 0, true⟩ ∧ Mat.kind za zb a b = Rf.u ⟨none, [x0, y1], 0, true⟩) := hide (by
    unfold Mat.shape Mat.kind Rf.zs Rf.u
    rw [HCK.out, hax.out, hbx.out]
    refine ⟨rfl, ?_⟩
    by_cases h : Shp.code [x0, y1] = 0
    · rw [decide_eq_true h, if_pos h]
    · rw [decide_eq_false h, if_neg h])
  have HS0 : RmS ⟨w.heap.size, 0, none⟩ ⟨w.heap.size + 1, 0, none⟩ pa ⟨pb.block, pb.off + 1, none⟩ (.slice (some pa) 2 a.cap) (.slice (some pb) 2 b.cap) (.int .i64 x0) (.int .i64 y1) W3 := ⟨HA.out.cell 0, HB.out.cell 0, p0', q1'⟩
  have hS0 : RmS ⟨w.heap.size, 0, none⟩ ⟨w.heap.size + 1, 0, none⟩ pa ⟨pb.block, pb.off + 1, none⟩ (.slice (some pa) 2 a.cap) (.slice (some pb) 2 b.cap) (.int .i64 x0) (.int .i64 y1) W3.drew := ⟨HA.out.cell 0, HB.out.cell 0, p0', q1'⟩
  have hbA : Below W3.heap.size W3 (W3.alloc (.cells #[.int .i64 x0, .int .i64 y1] 3)) := (Below.refl _ _).alloc (Nat.le_refl _) _
  have hS1 : RmS ⟨w.heap.size, 0, none⟩ ⟨w.heap.size + 1, 0, none⟩ pa ⟨pb.block, pb.off + 1, none⟩ (.slice (some pa) 2 a.cap) (.slice (some pb) 2 b.cap) (.int .i64 x0) (.int .i64 y1) (W3.alloc (.cells #[.int .i64 x0, .int .i64 y1] 3)).drew := RmS.keep HS0 HA.out.lt HB.out.lt hpal hpbl hbA.drew
  have hri : Ri (W3.alloc (.cells #[.int .i64 x0, .int .i64 y1] 3)).drew (some ⟨W3.heap.size, 0, none⟩) [x0, y1] := ((Has.new W3 3 (i64s [x0, y1])).drewN 1).ri HWF.out
  have HC : Hid (Calls Tryd.prog 66 #[.agg #[.slice (some ⟨W3.heap.size, 0, none⟩) 2 2, .bool true]] (W3.alloc (.cells #[.int .i64 x0, .int .i64 y1] 3)).drew (RefE (W3.alloc (.cells #[.int .i64 x0, .int .i64 y1] 3)).drew (Rf.zs ⟨none, [x0, y1], 0, true⟩) (Rf.u ⟨none, [x0, y1], 0, true⟩) (Shp.code [x0, y1]))) := hide (seen_c ⟨some ⟨W3.heap.size, 0, none⟩, [x0, y1], 2, true⟩ _ ⟨hri, by simp⟩)
  have HZ0 := hide ((HZ.out.alloc (.cells #[.int .i64 x0, .int .i64 y1] 3)).drewN 1)
  have HBA := hide (HB0.out.trans (hbA.drew.mono HB0.out.size))
  have HZL := hide HZ.out.lt
  obtain ⟨kc, hkc⟩ : ∃ n, Hid (Shp.code [x0, y1] = n) := ⟨_, hide rfl⟩
  rw [hkc.out] at HC HCK
  clear HS0 hbA hri p0' q1' hpal hpbl HC101 HC102 HNO hza hzb
  go_wp2_with fail
  go_region_held3 (fun W => W.cell? ⟨w.heap.size, 0, none⟩ = some (.slice (some pa) 2 a.cap) ∧ W.cell? ⟨w.heap.size + 1, 0, none⟩ = some (.slice (some pb) 2 b.cap) ∧ W.cell? pa = some (.int .i64 x0) ∧ W.cell? ⟨pb.block, pb.off + 1, none⟩ = some (.int .i64 y1))
    (first | exact hS0 | exact hS1 | exact hS2 | exact hS3.out | assumption)
    (first | (go_at_call 66; (with_reducible refine HC.out.mono ?_); rintro e W4 ⟨⟨d, rfl, hdi, hdf, hdz, hdu⟩, hb⟩; have HDZ := hide hdz; have HDU := hide hdu; clear hdz hdu; have hS2 := RmS.keep hS1 (by have := HA.out.lt; simp; omega) (by have := HB.out.lt; simp; omega) (by have := HPL.out; have := HZL.out; simp; omega) (by have := HQL.out; have := HZL.out; simp; omega) hb; have hS3 := hide (RmS.far2 hS2 (b := w.heap.size + 2) (by simp) (by simp) (by have := HPL.out; omega) (by have := HQL.out; show w.heap.size + 2 ≠ pb.block; omega) (.slice d.P d.zs.length d.cap) (.bool d.u)); have hz4 := HZ0.out.below hb HZ0.out.lt; have hB4 := HBA.out.trans (hb.mono HBA.out.size); obtain ⟨z0, z1, zf0, zf1, HZf, HFf⟩ := elm_two hz4 hB4 (Nat.le_add_right _ 2) (.slice d.P d.zs.length d.cap) (.bool d.u); have hdl := hide (hdi.far2 hdf (by show w.heap.size + 2 < _; have := HZL.out; simp; omega) (.slice d.P d.zs.length d.cap) (.bool d.u))))
  go_wp2_with fail
  refine bodyPost_ret (results_desc rfl _ _ (w.heap.size + 2) _ _ rfl HZf.out) rfl ?_
  rw [HSH.out.1, HSH.out.2, HCK.out]
  exact ⟨⟨d, rfl, hdl.out, fun ad h => Nat.le_trans (by have := HZL.out; simp; omega) (hdf ad h), HDZ.out, HDU.out⟩, HFf.out⟩
set_option maxRecDepth 100000 in
set_option maxHeartbeats 8000000 in
theorem descsof_c (ts : List Ten) (B : Option Addr) (cap : Nat) (w : World) (hT : Row w B (ts.flatMap Ten.vals)) (hl : ts.length ≤ 1000000) :
    Calls Tryd.prog 54 #[.slice B ts.length cap] w fun e w' =>
      (∃ v, e = .returned v ∧ w'.ownsRow w.heap.size 24 2 v ts.length (ts.flatMap fun t => t.look.vals)) ∧ Below w.heap.size w w' := by
  have HR := hide hT
  obtain ⟨i0, hi0, hz0, hz1, hz2⟩ := descinfo
  have HI0 := hide hi0
  have HZ0 := hide hz0
  have HZ1 := hide hz1
  have HZ2 := hide hz2
  have HU := hide uds
  clear hi0 hz0 hz1 hz2 hT
  obtain ⟨n, hn⟩ : ∃ n, Hid (ts.length = n) := ⟨_, hide rfl⟩
  rw [hn.out] at hl ⊢
  go_enter Tryd.func54, Tryd.ntmps54
  go_wp2_with fail
  go_loopw [3, 4] (fun v k wr => ∃ i : Nat, i ≤ n ∧ k = .int .i64 i ∧ Hid (wr.ownsRow w.heap.size 24 2 v i ((ts.take i).flatMap fun t => t.look.vals)) ∧ Hid (Below w.heap.size w wr)) (fun _ k _ => n - (intOf k).toNat)
  case atStart => exact ⟨0, by omega, rfl, hide ⟨rfl, .inl ⟨rfl, rfl⟩⟩, hide (Below.refl _ _)⟩
  case round =>
    obtain ⟨i, hi, rfl, HO, HB⟩ := hrel
    by_cases hlt : i < n
    · obtain ⟨ad, t, rfl, had, ht, c0, c1, c2⟩ := row_ten (HR.out.below HB.out) i (by rw [hn.out]; exact hlt)
      have hown2 := hide (HO.out.alloc (.cells #[.slice t.P t.zs.length t.cap, .bool t.u] 24))
      have HB2 := hide (HB.out.alloc HB.out.size (.cells #[.slice t.P t.zs.length t.cap, .bool t.u] 24))
      have hsz := hide HB2.out.size
      have hnw := hide (new_cells wr 24 [.slice t.P t.zs.length t.cap, .bool t.u])
      have h1w : Hid (∀ x ∈ [Value.slice t.P t.zs.length t.cap, .bool t.u], x.oneCell' = true) := hide (by
        intro x hx
        simp at hx
        rcases hx with rfl | rfl
        all_goals rfl)
      clear HB HO had c2
      go_wp2_with (at_builtin; refine wpList_append_own_at _ rfl _ _ 84 rfl w.heap.size 24 i0 (.agg #[.slice none 0 0, .bool false]) 2 32 HU.out HI0.out HZ0.out HZ1.out HZ2.out rfl (by decide) _ i _ rfl hown2.out ⟨wr.heap.size, 0, none⟩ 1 1 [.slice t.P t.zs.length t.cap, .bool t.u] rfl rfl hnw.out h1w.out (by unfold maxLen; omega) (by omega) hsz.out ?_)
      intro s0 W0 hown' hgrow hnil hat
      have HB := hide (elm_grown HB2.out hown2.out HB2.out.size hgrow)
      have HO := hide hown'
      clear HB2 hown2 hown' hgrow hnw h1w hsz c0 c1 hnil hat
      go_wp2_with fail
      go_roundw
      case rel =>
        refine ⟨i + 1, by omega, by go_num, hide ?_, HB⟩
        have h := HO.out
        rw [List.take_add_one, ht.out, Option.toList_some, List.flatMap_append, List.flatMap_cons, List.flatMap_nil, List.append_nil]
        exact h
      case measure => simp [intOf]; omega
    · obtain rfl : i = n := by omega
      have hl2 : ts.take i = ts := List.take_of_length_le (by rw [hn.out]; exact Nat.le_refl _)
      rw [hl2] at HO
      clear hl2
      go_wp2_with fail
      go_ret
      exact ⟨⟨_, rfl, HO.out⟩, HB.out⟩
/-- What is held in a region: 2 cells. -/
abbrev CS2 (p0 p1 : Addr) (v0 v1 : Value) (W : World) : Prop := W.cell? p0 = some v0 ∧ W.cell? p1 = some v1
theorem CS2.keep {p0 p1 : Addr} {v0 v1 : Value} {W W' : World} (h : CS2 p0 p1 v0 v1 W) (l0 : p0.block < W.heap.size) (l1 : p1.block < W.heap.size) (hB : Below W.heap.size W W') : CS2 p0 p1 v0 v1 W' := by
  obtain ⟨h0, h1⟩ := h
  exact ⟨(hB.cell l0).trans h0, (hB.cell l1).trans h1⟩
theorem CS2.far {p0 p1 : Addr} {v0 v1 : Value} {W : World} (h : CS2 p0 p1 v0 v1 W) {b : Nat} (l0 : b ≠ p0.block) (l1 : b ≠ p1.block) (j : Nat) (x : Value) : CS2 p0 p1 v0 v1 (W.setCell ⟨b, j, none⟩ x) := by
  obtain ⟨h0, h1⟩ := h
  have f : ∀ (p : Addr) (v : Value), b ≠ p.block → W.cell? p = some v → (W.setCell ⟨b, j, none⟩ x).cell? p = some v := fun p v hn hc => by
    rw [World.cell?_setCell_far _ _ _ _ (by exact hn)]
    exact hc
  exact ⟨f _ _ l0 h0, f _ _ l1 h1⟩
theorem CS2.drew {p0 p1 : Addr} {v0 v1 : Value} {W : World} (h : CS2 p0 p1 v0 v1 W) : CS2 p0 p1 v0 v1 W.drew := h
/-- What is held in a region: 4 cells. -/
abbrev CS4 (p0 p1 p2 p3 : Addr) (v0 v1 v2 v3 : Value) (W : World) : Prop := W.cell? p0 = some v0 ∧ W.cell? p1 = some v1 ∧ W.cell? p2 = some v2 ∧ W.cell? p3 = some v3
theorem CS4.keep {p0 p1 p2 p3 : Addr} {v0 v1 v2 v3 : Value} {W W' : World} (h : CS4 p0 p1 p2 p3 v0 v1 v2 v3 W) (l0 : p0.block < W.heap.size) (l1 : p1.block < W.heap.size) (l2 : p2.block < W.heap.size) (l3 : p3.block < W.heap.size) (hB : Below W.heap.size W W') : CS4 p0 p1 p2 p3 v0 v1 v2 v3 W' := by
  obtain ⟨h0, h1, h2, h3⟩ := h
  exact ⟨(hB.cell l0).trans h0, (hB.cell l1).trans h1, (hB.cell l2).trans h2, (hB.cell l3).trans h3⟩
theorem CS4.far {p0 p1 p2 p3 : Addr} {v0 v1 v2 v3 : Value} {W : World} (h : CS4 p0 p1 p2 p3 v0 v1 v2 v3 W) {b : Nat} (l0 : b ≠ p0.block) (l1 : b ≠ p1.block) (l2 : b ≠ p2.block) (l3 : b ≠ p3.block) (j : Nat) (x : Value) : CS4 p0 p1 p2 p3 v0 v1 v2 v3 (W.setCell ⟨b, j, none⟩ x) := by
  obtain ⟨h0, h1, h2, h3⟩ := h
  have f : ∀ (p : Addr) (v : Value), b ≠ p.block → W.cell? p = some v → (W.setCell ⟨b, j, none⟩ x).cell? p = some v := fun p v hn hc => by
    rw [World.cell?_setCell_far _ _ _ _ (by exact hn)]
    exact hc
  exact ⟨f _ _ l0 h0, f _ _ l1 h1, f _ _ l2 h2, f _ _ l3 h3⟩
theorem CS4.drew {p0 p1 p2 p3 : Addr} {v0 v1 v2 v3 : Value} {W : World} (h : CS4 p0 p1 p2 p3 v0 v1 v2 v3 W) : CS4 p0 p1 p2 p3 v0 v1 v2 v3 W.drew := h
/-- What is held in a region: 6 cells. -/
abbrev CS6 (p0 p1 p2 p3 p4 p5 : Addr) (v0 v1 v2 v3 v4 v5 : Value) (W : World) : Prop := W.cell? p0 = some v0 ∧ W.cell? p1 = some v1 ∧ W.cell? p2 = some v2 ∧ W.cell? p3 = some v3 ∧ W.cell? p4 = some v4 ∧ W.cell? p5 = some v5
theorem CS6.keep {p0 p1 p2 p3 p4 p5 : Addr} {v0 v1 v2 v3 v4 v5 : Value} {W W' : World} (h : CS6 p0 p1 p2 p3 p4 p5 v0 v1 v2 v3 v4 v5 W) (l0 : p0.block < W.heap.size) (l1 : p1.block < W.heap.size) (l2 : p2.block < W.heap.size) (l3 : p3.block < W.heap.size) (l4 : p4.block < W.heap.size) (l5 : p5.block < W.heap.size) (hB : Below W.heap.size W W') : CS6 p0 p1 p2 p3 p4 p5 v0 v1 v2 v3 v4 v5 W' := by
  obtain ⟨h0, h1, h2, h3, h4, h5⟩ := h
  exact ⟨(hB.cell l0).trans h0, (hB.cell l1).trans h1, (hB.cell l2).trans h2, (hB.cell l3).trans h3, (hB.cell l4).trans h4, (hB.cell l5).trans h5⟩
theorem CS6.far {p0 p1 p2 p3 p4 p5 : Addr} {v0 v1 v2 v3 v4 v5 : Value} {W : World} (h : CS6 p0 p1 p2 p3 p4 p5 v0 v1 v2 v3 v4 v5 W) {b : Nat} (l0 : b ≠ p0.block) (l1 : b ≠ p1.block) (l2 : b ≠ p2.block) (l3 : b ≠ p3.block) (l4 : b ≠ p4.block) (l5 : b ≠ p5.block) (j : Nat) (x : Value) : CS6 p0 p1 p2 p3 p4 p5 v0 v1 v2 v3 v4 v5 (W.setCell ⟨b, j, none⟩ x) := by
  obtain ⟨h0, h1, h2, h3, h4, h5⟩ := h
  have f : ∀ (p : Addr) (v : Value), b ≠ p.block → W.cell? p = some v → (W.setCell ⟨b, j, none⟩ x).cell? p = some v := fun p v hn hc => by
    rw [World.cell?_setCell_far _ _ _ _ (by exact hn)]
    exact hc
  exact ⟨f _ _ l0 h0, f _ _ l1 h1, f _ _ l2 h2, f _ _ l3 h3, f _ _ l4 h4, f _ _ l5 h5⟩
theorem CS6.drew {p0 p1 p2 p3 p4 p5 : Addr} {v0 v1 v2 v3 v4 v5 : Value} {W : World} (h : CS6 p0 p1 p2 p3 p4 p5 v0 v1 v2 v3 v4 v5 W) : CS6 p0 p1 p2 p3 p4 p5 v0 v1 v2 v3 v4 v5 W.drew := h
set_option maxRecDepth 100000 in
theorem rknown12 (w : World) : Calls Tryd.prog 84 #[.int .i64 12] w fun e w' => e = .returned (.bool true) ∧ w' = w := by
  go_enter Tryd.func84, Tryd.ntmps84
  go_wp2_with fail
  go_ret
  exact ⟨rfl, rfl⟩
set_option maxRecDepth 100000 in
theorem rins12 (w : World) : Calls Tryd.prog 86 #[.int .i64 12] w fun e w' => e = .returned (.int .i64 2) ∧ w' = w := by
  go_enter Tryd.func86, Tryd.ntmps86
  go_wp2_with fail
  go_ret
  exact ⟨rfl, rfl⟩
set_option maxRecDepth 100000 in
theorem rargs12 (w : World) : Calls Tryd.prog 87 #[.int .i64 12] w fun e w' => e = .returned (.int .i64 2) ∧ w' = w := by
  go_enter Tryd.func87, Tryd.ntmps87
  go_wp2_with fail
  go_ret
  exact ⟨rfl, rfl⟩
set_option maxRecDepth 100000 in
theorem rknown13 (w : World) : Calls Tryd.prog 84 #[.int .i64 13] w fun e w' => e = .returned (.bool true) ∧ w' = w := by
  go_enter Tryd.func84, Tryd.ntmps84
  go_wp2_with fail
  go_ret
  exact ⟨rfl, rfl⟩
set_option maxRecDepth 100000 in
theorem rins13 (w : World) : Calls Tryd.prog 86 #[.int .i64 13] w fun e w' => e = .returned (.int .i64 2) ∧ w' = w := by
  go_enter Tryd.func86, Tryd.ntmps86
  go_wp2_with fail
  go_ret
  exact ⟨rfl, rfl⟩
set_option maxRecDepth 100000 in
theorem rargs13 (w : World) : Calls Tryd.prog 87 #[.int .i64 13] w fun e w' => e = .returned (.int .i64 3) ∧ w' = w := by
  go_enter Tryd.func87, Tryd.ntmps87
  go_wp2_with fail
  go_ret
  exact ⟨rfl, rfl⟩
set_option maxRecDepth 100000 in
theorem rknown14 (w : World) : Calls Tryd.prog 84 #[.int .i64 14] w fun e w' => e = .returned (.bool true) ∧ w' = w := by
  go_enter Tryd.func84, Tryd.ntmps84
  go_wp2_with fail
  go_ret
  exact ⟨rfl, rfl⟩
set_option maxRecDepth 100000 in
theorem rins14 (w : World) : Calls Tryd.prog 86 #[.int .i64 14] w fun e w' => e = .returned (.int .i64 1) ∧ w' = w := by
  go_enter Tryd.func86, Tryd.ntmps86
  go_wp2_with fail
  refine (rknown14 w).mono ?_
  rintro e wq ⟨rfl, hw⟩
  have hw := hw.symm
  subst hw
  go_wp2_with fail
  go_ret
  exact ⟨rfl, rfl⟩
set_option maxRecDepth 100000 in
theorem rargs14 (w : World) : Calls Tryd.prog 87 #[.int .i64 14] w fun e w' => e = .returned (.int .i64 2) ∧ w' = w := by
  go_enter Tryd.func87, Tryd.ntmps87
  go_wp2_with fail
  go_ret
  exact ⟨rfl, rfl⟩
set_option maxRecDepth 100000 in
theorem rknown15 (w : World) : Calls Tryd.prog 84 #[.int .i64 15] w fun e w' => e = .returned (.bool true) ∧ w' = w := by
  go_enter Tryd.func84, Tryd.ntmps84
  go_wp2_with fail
  go_ret
  exact ⟨rfl, rfl⟩
set_option maxRecDepth 100000 in
theorem rins15 (w : World) : Calls Tryd.prog 86 #[.int .i64 15] w fun e w' => e = .returned (.int .i64 1) ∧ w' = w := by
  go_enter Tryd.func86, Tryd.ntmps86
  go_wp2_with fail
  refine (rknown15 w).mono ?_
  rintro e wq ⟨rfl, hw⟩
  have hw := hw.symm
  subst hw
  go_wp2_with fail
  go_ret
  exact ⟨rfl, rfl⟩
set_option maxRecDepth 100000 in
theorem rargs15 (w : World) : Calls Tryd.prog 87 #[.int .i64 15] w fun e w' => e = .returned (.int .i64 2) ∧ w' = w := by
  go_enter Tryd.func87, Tryd.ntmps87
  go_wp2_with fail
  go_ret
  exact ⟨rfl, rfl⟩
set_option maxRecDepth 100000 in
theorem rknown16 (w : World) : Calls Tryd.prog 84 #[.int .i64 16] w fun e w' => e = .returned (.bool true) ∧ w' = w := by
  go_enter Tryd.func84, Tryd.ntmps84
  go_wp2_with fail
  go_ret
  exact ⟨rfl, rfl⟩
set_option maxRecDepth 100000 in
theorem rins16 (w : World) : Calls Tryd.prog 86 #[.int .i64 16] w fun e w' => e = .returned (.int .i64 2) ∧ w' = w := by
  go_enter Tryd.func86, Tryd.ntmps86
  go_wp2_with fail
  go_ret
  exact ⟨rfl, rfl⟩
set_option maxRecDepth 100000 in
theorem rargs16 (w : World) : Calls Tryd.prog 87 #[.int .i64 16] w fun e w' => e = .returned (.int .i64 0) ∧ w' = w := by
  go_enter Tryd.func87, Tryd.ntmps87
  go_wp2_with fail
  go_ret
  exact ⟨rfl, rfl⟩
set_option maxRecDepth 100000 in
theorem rknown17 (w : World) : Calls Tryd.prog 84 #[.int .i64 17] w fun e w' => e = .returned (.bool true) ∧ w' = w := by
  go_enter Tryd.func84, Tryd.ntmps84
  go_wp2_with fail
  go_ret
  exact ⟨rfl, rfl⟩
set_option maxRecDepth 100000 in
theorem rins17 (w : World) : Calls Tryd.prog 86 #[.int .i64 17] w fun e w' => e = .returned (.int .i64 2) ∧ w' = w := by
  go_enter Tryd.func86, Tryd.ntmps86
  go_wp2_with fail
  go_ret
  exact ⟨rfl, rfl⟩
set_option maxRecDepth 100000 in
theorem rargs17 (w : World) : Calls Tryd.prog 87 #[.int .i64 17] w fun e w' => e = .returned (.int .i64 0) ∧ w' = w := by
  go_enter Tryd.func87, Tryd.ntmps87
  go_wp2_with fail
  go_ret
  exact ⟨rfl, rfl⟩
set_option maxRecDepth 100000 in
theorem rknown18 (w : World) : Calls Tryd.prog 84 #[.int .i64 18] w fun e w' => e = .returned (.bool true) ∧ w' = w := by
  go_enter Tryd.func84, Tryd.ntmps84
  go_wp2_with fail
  go_ret
  exact ⟨rfl, rfl⟩
set_option maxRecDepth 100000 in
theorem rins18 (w : World) : Calls Tryd.prog 86 #[.int .i64 18] w fun e w' => e = .returned (.int .i64 1) ∧ w' = w := by
  go_enter Tryd.func86, Tryd.ntmps86
  go_wp2_with fail
  refine (rknown18 w).mono ?_
  rintro e wq ⟨rfl, hw⟩
  have hw := hw.symm
  subst hw
  go_wp2_with fail
  go_ret
  exact ⟨rfl, rfl⟩
set_option maxRecDepth 100000 in
theorem rargs18 (w : World) : Calls Tryd.prog 87 #[.int .i64 18] w fun e w' => e = .returned (.int .i64 0) ∧ w' = w := by
  go_enter Tryd.func87, Tryd.ntmps87
  go_wp2_with fail
  go_ret
  exact ⟨rfl, rfl⟩
set_option maxRecDepth 100000 in
theorem rknown19 (w : World) : Calls Tryd.prog 84 #[.int .i64 19] w fun e w' => e = .returned (.bool true) ∧ w' = w := by
  go_enter Tryd.func84, Tryd.ntmps84
  go_wp2_with fail
  go_ret
  exact ⟨rfl, rfl⟩
set_option maxRecDepth 100000 in
theorem rins19 (w : World) : Calls Tryd.prog 86 #[.int .i64 19] w fun e w' => e = .returned (.int .i64 1) ∧ w' = w := by
  go_enter Tryd.func86, Tryd.ntmps86
  go_wp2_with fail
  refine (rknown19 w).mono ?_
  rintro e wq ⟨rfl, hw⟩
  have hw := hw.symm
  subst hw
  go_wp2_with fail
  go_ret
  exact ⟨rfl, rfl⟩
set_option maxRecDepth 100000 in
theorem rargs19 (w : World) : Calls Tryd.prog 87 #[.int .i64 19] w fun e w' => e = .returned (.int .i64 0) ∧ w' = w := by
  go_enter Tryd.func87, Tryd.ntmps87
  go_wp2_with fail
  go_ret
  exact ⟨rfl, rfl⟩
set_option maxRecDepth 100000 in
theorem rknown20 (w : World) : Calls Tryd.prog 84 #[.int .i64 20] w fun e w' => e = .returned (.bool true) ∧ w' = w := by
  go_enter Tryd.func84, Tryd.ntmps84
  go_wp2_with fail
  go_ret
  exact ⟨rfl, rfl⟩
set_option maxRecDepth 100000 in
theorem rins20 (w : World) : Calls Tryd.prog 86 #[.int .i64 20] w fun e w' => e = .returned (.int .i64 1) ∧ w' = w := by
  go_enter Tryd.func86, Tryd.ntmps86
  go_wp2_with fail
  refine (rknown20 w).mono ?_
  rintro e wq ⟨rfl, hw⟩
  have hw := hw.symm
  subst hw
  go_wp2_with fail
  go_ret
  exact ⟨rfl, rfl⟩
set_option maxRecDepth 100000 in
theorem rargs20 (w : World) : Calls Tryd.prog 87 #[.int .i64 20] w fun e w' => e = .returned (.int .i64 0) ∧ w' = w := by
  go_enter Tryd.func87, Tryd.ntmps87
  go_wp2_with fail
  go_ret
  exact ⟨rfl, rfl⟩
set_option maxRecDepth 100000 in
theorem rknown21 (w : World) : Calls Tryd.prog 84 #[.int .i64 21] w fun e w' => e = .returned (.bool true) ∧ w' = w := by
  go_enter Tryd.func84, Tryd.ntmps84
  go_wp2_with fail
  go_ret
  exact ⟨rfl, rfl⟩
set_option maxRecDepth 100000 in
theorem rins21 (w : World) : Calls Tryd.prog 86 #[.int .i64 21] w fun e w' => e = .returned (.int .i64 1) ∧ w' = w := by
  go_enter Tryd.func86, Tryd.ntmps86
  go_wp2_with fail
  refine (rknown21 w).mono ?_
  rintro e wq ⟨rfl, hw⟩
  have hw := hw.symm
  subst hw
  go_wp2_with fail
  go_ret
  exact ⟨rfl, rfl⟩
set_option maxRecDepth 100000 in
theorem rargs21 (w : World) : Calls Tryd.prog 87 #[.int .i64 21] w fun e w' => e = .returned (.int .i64 0) ∧ w' = w := by
  go_enter Tryd.func87, Tryd.ntmps87
  go_wp2_with fail
  go_ret
  exact ⟨rfl, rfl⟩
set_option maxRecDepth 100000 in
set_option maxHeartbeats 8000000 in
theorem rres_mat (za zb : Int) (a b : Dsc) (A B : Option Addr) (qcap cap : Nat) (w : World) (hQ : Ri w A [za, zb]) (hR : Row w B ([a, b].flatMap Dsc.vals)) (ha : a.In w) (hb : b.In w) :
    Calls Tryd.prog 53 #[.int .i64 12, .slice A 2 qcap, .slice B 2 cap] w (RefE w (Mat.shape za zb a b) (Mat.kind za zb a b) (Mat.code za zb a b)) := by
  obtain ⟨W0, hW0⟩ : ∃ W, W = w.alloc (.cells #[.slice none 0 0, .bool false] 24) := ⟨_, rfl⟩
  have hbw : Below w.heap.size w W0 := by rw [hW0]; exact (Below.refl _ _).alloc (Nat.le_refl _) _
  have HZ : Hid (Has W0 w.heap.size 24 [.slice none 0 0, .bool false]) := hide (by rw [hW0]; exact Has.new _ _ _)
  obtain ⟨pq, hpq, p0, p1⟩ := ri_pair hQ
  have hpql : pq.block < w.heap.size := by obtain ⟨ad, h1, h2, -⟩ := hQ.2 (by simp); rw [hpq] at h1; rw [Option.some.inj h1]; exact h2
  obtain ⟨pr, hpr, hprl, r0, r1, r2, r3⟩ := rowd_two hR
  subst hpq
  subst hpr
  have HS00 : CS6 pq ⟨pq.block, pq.off + 1, none⟩ pr ⟨pr.block, pr.off + 1, none⟩ ⟨pr.block, pr.off + 2, none⟩ ⟨pr.block, pr.off + 3, none⟩ (.int .i64 za) (.int .i64 zb) (.slice a.P a.zs.length a.cap) (.bool a.u) (.slice b.P b.zs.length b.cap) (.bool b.u) w := ⟨p0, p1, r0, r1, r2, r3⟩
  have HS0 := CS6.keep HS00 hpql hpql hprl hprl hprl hprl hbw
  have hS0 : CS6 pq ⟨pq.block, pq.off + 1, none⟩ pr ⟨pr.block, pr.off + 1, none⟩ ⟨pr.block, pr.off + 2, none⟩ ⟨pr.block, pr.off + 3, none⟩ (.int .i64 za) (.int .i64 zb) (.slice a.P a.zs.length a.cap) (.bool a.u) (.slice b.P b.zs.length b.cap) (.bool b.u) W0.drew := HS0
  have HB0 := hide hbw.drew
  have HC : Hid (Calls Tryd.prog 88 #[.int .i64 za, .int .i64 zb, .agg #[.slice a.P a.zs.length a.cap, .bool a.u], .agg #[.slice b.P b.zs.length b.cap, .bool b.u]] W0.drew (RefE W0.drew (Mat.shape za zb a b) (Mat.kind za zb a b) (Mat.code za zb a b))) := hide (rmat_c za zb a b W0.drew (ha.below hbw.drew) (hb.below hbw.drew))
  have HW := hide hW0
  have HQL := hide hpql
  have HRL := hide hprl
  have HWZ : Hid (w.heap.size < W0.heap.size) := hide HZ.out.lt
  obtain ⟨k, hk⟩ : ∃ n, Hid (Mat.code za zb a b = n) := ⟨_, hide rfl⟩
  obtain ⟨zs, hzs⟩ : ∃ n, Hid (Mat.shape za zb a b = n) := ⟨_, hide rfl⟩
  obtain ⟨u, hu⟩ : ∃ n, Hid (Mat.kind za zb a b = n) := ⟨_, hide rfl⟩
  rw [hk.out, hzs.out, hu.out] at HC ⊢
  clear hQ hR ha hb hW0 hbw p0 p1 r0 r1 r2 r3 HS00 HS0 hpql hprl
  go_enter Tryd.func53, Tryd.ntmps53
  go_wp2_with fail
  rw [← HW.out]
  clear HW
  refine (rknown12 _).mono ?_
  rintro e wq ⟨rfl, hw⟩
  have hw := hw.symm
  subst hw
  go_wp2_with fail
  refine (rins12 _).mono ?_
  rintro e wq ⟨rfl, hw⟩
  have hw := hw.symm
  subst hw
  go_wp2_with fail
  refine (rargs12 _).mono ?_
  rintro e wq ⟨rfl, hw⟩
  have hw := hw.symm
  subst hw
  go_wp2_with fail
  go_region_held3 (fun W => W.cell? pq = some (.int .i64 za) ∧ W.cell? ⟨pq.block, pq.off + 1, none⟩ = some (.int .i64 zb) ∧ W.cell? pr = some (.slice a.P a.zs.length a.cap) ∧ W.cell? ⟨pr.block, pr.off + 1, none⟩ = some (.bool a.u) ∧ W.cell? ⟨pr.block, pr.off + 2, none⟩ = some (.slice b.P b.zs.length b.cap) ∧ W.cell? ⟨pr.block, pr.off + 3, none⟩ = some (.bool b.u))
    (first | exact hS0 | exact hS2 | exact hS3.out | assumption)
    (first | (go_at_call 88; (with_reducible refine HC.out.mono ?_); rintro e W4 ⟨⟨d, rfl, hdi, hdf, hdz, hdu⟩, hb⟩; have HDZ := hide hdz; have HDU := hide hdu; clear hdz hdu; have q1 : pq.block < W0.drew.heap.size := Nat.lt_trans HQL.out HWZ.out; have q2 : pr.block < W0.drew.heap.size := Nat.lt_trans HRL.out HWZ.out; have hS2 := CS6.keep hS0 q1 q1 q2 q2 q2 q2 hb; have n1 : w.heap.size ≠ pq.block := (Nat.ne_of_lt HQL.out).symm; have n2 : w.heap.size ≠ pr.block := (Nat.ne_of_lt HRL.out).symm; have hS3 := hide (CS6.far (CS6.far hS2 n1 n1 n2 n2 n2 n2 0 (.slice d.P d.zs.length d.cap)) n1 n1 n2 n2 n2 n2 1 (.bool d.u)); have hz4 := (HZ.out.drewN 1).below hb (HZ.out.drewN 1).lt; have hB4 := HB0.out.trans (hb.mono HB0.out.size); obtain ⟨z0, z1, zf0, zf1, HZf, HFf⟩ := elm_two hz4 hB4 (Nat.le_refl _) (.slice d.P d.zs.length d.cap) (.bool d.u); have hdl := hide (hdi.far2 hdf (by exact HWZ.out) (.slice d.P d.zs.length d.cap) (.bool d.u))))
  go_wp2_with fail
  refine bodyPost_ret (results_desc rfl _ _ w.heap.size _ _ rfl HZf.out) rfl ?_
  exact ⟨⟨d, rfl, hdl.out, fun ad h => Nat.le_trans (Nat.le_of_lt HWZ.out) (hdf ad h), HDZ.out, HDU.out⟩, HFf.out⟩
/-- What a turned one looks like. -/
def Rf.tzs (d : Dsc) : List Int := if Mat.tcode d = 0 then [d.zs.getD 1 0, d.zs.getD 0 0] else []
def Rf.tu (d : Dsc) : Bool := if Mat.tcode d = 0 then d.u else false
theorem Rf.tbad {d : Dsc} (h : Mat.tcode d ≠ 0) : Rf.tzs d = [] ∧ Rf.tu d = false := by
  unfold Rf.tzs Rf.tu
  rw [if_neg h, if_neg h]
  exact ⟨rfl, rfl⟩
theorem Shp.code_turn {x y : Int} (h : Shp.code [x, y] = 0) : Shp.code [y, x] = 0 := by
  obtain ⟨-, h2, -, h4, h5⟩ := Shp.whole h
  have hx := h2 x (by simp)
  have hy := h2 y (by simp)
  unfold Shp.prod at h4 h5
  unfold Shp.code
  rw [if_neg (by show ¬ 4 < 2; omega), if_neg (by simp [Shp.okDim]; omega), if_neg]
  simp [Shp.prod] at h5 ⊢
  rw [Int.mul_comm]
  exact h5
set_option maxRecDepth 100000 in
set_option maxHeartbeats 8000000 in
theorem rres_turn (a : Dsc) (A B : Option Addr) (qcap cap : Nat) (w : World) (hR : Row w B ([a].flatMap Dsc.vals)) (ha : a.In w) :
    Calls Tryd.prog 53 #[.int .i64 21, .slice A 0 qcap, .slice B 1 cap] w (RefE w (Rf.tzs a) (Rf.tu a) (Mat.tcode a)) := by
  obtain ⟨W0, hW0⟩ : ∃ W, W = w.alloc (.cells #[.slice none 0 0, .bool false] 24) := ⟨_, rfl⟩
  have hbw : Below w.heap.size w W0 := by rw [hW0]; exact (Below.refl _ _).alloc (Nat.le_refl _) _
  have hz0 : Has W0 w.heap.size 24 [.slice none 0 0, .bool false] := by rw [hW0]; exact Has.new _ _ _
  obtain ⟨W1, hW1⟩ : ∃ W, W = W0.alloc (.cells #[.slice a.P a.zs.length a.cap, .bool a.u] 24) := ⟨_, rfl⟩
  have hs0 : W0.heap.size = w.heap.size + 1 := by rw [hW0]; simp
  have HZ : Hid (Has W1 w.heap.size 24 [.slice none 0 0, .bool false]) := hide (by rw [hW1]; exact hz0.alloc _)
  have HA : Hid (Has W1 (w.heap.size + 1) 24 [.slice a.P a.zs.length a.cap, .bool a.u]) := hide (by rw [hW1, ← hs0]; exact Has.new _ _ _)
  have hb1 : Below W0.heap.size W0 W1 := by rw [hW1]; exact (Below.refl _ _).alloc (Nat.le_refl _) _
  have HB : Hid (Below w.heap.size w W1) := hide (hbw.trans (hb1.mono hbw.size))
  obtain ⟨pr, hpr, hprl, r0', r1', -⟩ : ∃ ad, B = some ad ∧ ad.block < w.heap.size ∧ w.cell? ad = some (.slice a.P a.zs.length a.cap) ∧ w.cell? ⟨ad.block, ad.off + 1, none⟩ = some (.bool a.u) ∧ True := by
    obtain ⟨ad, h1, h2, h3⟩ := hR (by simp [Dsc.vals])
    have c0 := h3 0 _ rfl
    have c1 := h3 1 _ rfl
    rw [Addr.add_zero'] at c0
    simp only [Addr.add, Nat.reduceEqDiff, if_false] at c1
    exact ⟨ad, h1, h2, c0, c1, trivial⟩
  subst hpr
  have r0 : W0.cell? pr = some (.slice a.P a.zs.length a.cap) := (hbw.cell hprl).trans r0'
  have r1 : W0.cell? ⟨pr.block, pr.off + 1, none⟩ = some (.bool a.u) := (hbw.cell (p := ⟨pr.block, pr.off + 1, none⟩) hprl).trans r1'
  have HV := hide (refvalid_c a.zs a.P a.cap a.u W1 (ha.shp.below HB.out) (by have := ha.ls; omega))
  have HI := hide (fun W (h : Below w.heap.size w W) => ha.shp.below h)
  have HW := hide hW0
  have HW1 := hide hW1
  have HS0 := hide hs0
  obtain ⟨na, hna⟩ : ∃ n, Hid (a.zs.length = n) := ⟨_, hide rfl⟩
  obtain ⟨ka, hka⟩ : ∃ n, Hid (Shp.code a.zs = n) := ⟨_, hide rfl⟩
  obtain ⟨kt, hkt⟩ : ∃ n, Hid (Mat.tcode a = n) := ⟨_, hide rfl⟩
  rw [hka.out] at HV
  rw [hna.out] at HV HA HW1 r0
  have hkc := Shp.code_is a.zs
  rw [hka.out] at hkc
  clear hR ha hW0 hW1 hbw hb1 hz0 hs0 r0' r1' hprl
  go_enter Tryd.func53, Tryd.ntmps53
  go_wp2_with fail
  rw [← HW.out]
  clear HW
  refine (rknown21 _).mono ?_
  rintro e wq ⟨rfl, hw⟩
  have hw := hw.symm
  subst hw
  go_wp2_with fail
  refine (rins21 _).mono ?_
  rintro e wq ⟨rfl, hw⟩
  have hw := hw.symm
  subst hw
  go_wp2_with fail
  have hs := HS0.out
  refine (rargs21 _).mono ?_
  rintro e wq ⟨rfl, hw⟩
  have hw := hw.symm
  subst hw
  go_wp2_with fail
  rw [← HW1.out]
  clear HW1 r0 r1
  refine HV.out.mono ?_
  rintro e w1 ⟨rfl, hb⟩
  replace HZ := hide (HZ.out.below hb HZ.out.lt)
  replace HA := hide (HA.out.below hb HA.out.lt)
  replace HB := hide (HB.out.trans (hb.mono HB.out.size))
  clear hb HV
  by_cases h0 : ka = 0
  case neg =>
    have hcd : Mat.tcode a = ka := by
      unfold Mat.tcode
      rw [hka.out, if_pos h0]
    obtain ⟨e1, e2⟩ := Rf.tbad (by rw [hcd]; exact h0)
    have HD1 := hide e1
    have HD2 := hide e2
    have HCD := hide hcd
    have h1 : ((ka : Int) == 0) = false := by simp; omega
    have h2 : ((ka : Int) != 0) = true := by simp; omega
    clear e1 e2 hcd h0 hkc
    obtain ⟨z0, z1, zf0, zf1, HZf, HFf⟩ := elm_two HZ.out HB.out (Nat.le_refl _) (.slice none 0 0) (.bool false)
    go_wp2_with fail
    refine bodyPost_ret (results_desc rfl _ _ w.heap.size _ _ rfl HZf.out) rfl ?_
    rw [HD1.out, HD2.out, HCD.out]
    exact RefE.bad rfl HFf.out
  case pos =>
  subst h0
  have a0 : w1.cell? ⟨w.heap.size + 1, 0, none⟩ = some (.slice a.P na a.cap) := HA.out.cell 0
  by_cases h1 : na = 2
  case neg =>
    have hcd : Mat.tcode a = 101 := by
      unfold Mat.tcode
      rw [hka.out, if_neg (by simp), if_pos (by rw [hna.out]; exact h1)]
    obtain ⟨e1, e2⟩ := Rf.tbad (by rw [hcd]; decide)
    have HD1 := hide e1
    have HD2 := hide e2
    have HCD := hide hcd
    have i1 : ((na : Int) == 2) = false := by simp; omega
    have i2 : ((na : Int) != 2) = true := by simp; omega
    clear e1 e2 hcd hkc
    obtain ⟨z0, z1, zf0, zf1, HZf, HFf⟩ := elm_two HZ.out HB.out (Nat.le_refl _) (.slice none 0 0) (.bool false)
    go_wp2_with fail
    refine bodyPost_ret (results_desc rfl _ _ w.heap.size _ _ rfl HZf.out) rfl ?_
    rw [HD1.out, HD2.out, HCD.out]
    exact RefE.bad rfl HFf.out
  case pos =>
  subst h1
  obtain ⟨x0, x1, hax⟩ : ∃ x y, Hid (a.zs = [x, y]) := by
    match hz : a.zs, hna.out with
    | [x, y], _ => exact ⟨x, y, hide rfl⟩
  have hcd : Mat.tcode a = 0 := by
    unfold Mat.tcode
    rw [hka.out, if_neg (by simp), if_neg (by rw [hna.out]; simp)]
  have HCD := hide hcd
  have HD1 : Hid (Rf.tzs a = [x1, x0]) := hide (by unfold Rf.tzs; rw [if_pos hcd, hax.out]; rfl)
  have HD2 : Hid (Rf.tu a = a.u) := hide (by unfold Rf.tu; rw [if_pos hcd])
  have HCT : Hid (Shp.code [x1, x0] = 0) := hide (Shp.code_turn (by rw [← hax.out]; exact hka.out))
  have hra := HI.out w1 HB.out
  rw [hax.out] at hra
  obtain ⟨pa, epa, p0, p1⟩ := ri_pair hra
  have HPL : Hid (pa.block < w.heap.size) := hide (by obtain ⟨ad, h1, h2, -⟩ := (HI.out w (Below.refl _ _)).2 (by rw [hax.out]; simp); rw [epa] at h1; rw [Option.some.inj h1]; exact h2)
  have HWF : Hid (∀ q ∈ [x1, x0], (Lit.int .i64 q).wf = true) := hide (by
    intro q hq
    simp at hq
    rcases hq with rfl | rfl
    · exact hra.1 _ (by simp)
    · exact hra.1 _ (by simp))
  rw [epa] at HA a0
  have hw1 : w.heap.size + 1 < w1.heap.size := HA.out.lt
  have hq : pa.block < w1.heap.size := by have := HPL.out; omega
  have HS00 : CS4 ⟨w.heap.size + 1, 0, none⟩ ⟨w.heap.size + 1, 1, none⟩ pa ⟨pa.block, pa.off + 1, none⟩ (.slice (some pa) 2 a.cap) (.bool a.u) (.int .i64 x0) (.int .i64 x1) w1 := ⟨a0, HA.out.cell 1, p0, p1⟩
  have hS0 : CS4 ⟨w.heap.size + 1, 0, none⟩ ⟨w.heap.size + 1, 1, none⟩ pa ⟨pa.block, pa.off + 1, none⟩ (.slice (some pa) 2 a.cap) (.bool a.u) (.int .i64 x0) (.int .i64 x1) w1.drew := HS00
  have hbA : Below w1.heap.size w1 (w1.alloc (.cells #[.int .i64 x1, .int .i64 x0] 3)) := (Below.refl _ _).alloc (Nat.le_refl _) _
  have hS1 : CS4 ⟨w.heap.size + 1, 0, none⟩ ⟨w.heap.size + 1, 1, none⟩ pa ⟨pa.block, pa.off + 1, none⟩ (.slice (some pa) 2 a.cap) (.bool a.u) (.int .i64 x0) (.int .i64 x1) (w1.alloc (.cells #[.int .i64 x1, .int .i64 x0] 3)).drew := CS4.keep HS00 hw1 hw1 hq hq hbA.drew
  have hri : Ri (w1.alloc (.cells #[.int .i64 x1, .int .i64 x0] 3)).drew (some ⟨w1.heap.size, 0, none⟩) [x1, x0] := ((Has.new w1 3 (i64s [x1, x0])).drewN 1).ri HWF.out
  have hrf : Rf.zs ⟨none, [x1, x0], 0, a.u⟩ = [x1, x0] ∧ Rf.u ⟨none, [x1, x0], 0, a.u⟩ = a.u := by
    unfold Rf.zs Rf.u
    rw [if_pos HCT.out, if_pos HCT.out]
    exact ⟨rfl, rfl⟩
  have hse := seen_c ⟨some ⟨w1.heap.size, 0, none⟩, [x1, x0], 2, a.u⟩ _ ⟨hri, by simp⟩
  have HC : Hid (Calls Tryd.prog 66 #[.agg #[.slice (some ⟨w1.heap.size, 0, none⟩) 2 2, .bool a.u]] (w1.alloc (.cells #[.int .i64 x1, .int .i64 x0] 3)).drew (RefE (w1.alloc (.cells #[.int .i64 x1, .int .i64 x0] 3)).drew [x1, x0] a.u 0)) := hide (by
    have h : Calls Tryd.prog 66 #[.agg #[.slice (some ⟨w1.heap.size, 0, none⟩) 2 2, .bool a.u]] (w1.alloc (.cells #[.int .i64 x1, .int .i64 x0] 3)).drew (RefE (w1.alloc (.cells #[.int .i64 x1, .int .i64 x0] 3)).drew (Rf.zs ⟨none, [x1, x0], 0, a.u⟩) (Rf.u ⟨none, [x1, x0], 0, a.u⟩) (Shp.code [x1, x0])) := hse
    rw [hrf.1, hrf.2, HCT.out] at h
    exact h)
  have HZ0 := hide ((HZ.out.alloc (.cells #[.int .i64 x1, .int .i64 x0] 3)).drewN 1)
  have HBA := hide (HB.out.trans (hbA.drew.mono HB.out.size))
  have HW1L := hide hw1
  have HQ := hide hq
  clear HS00 hbA hri hrf hse hra hcd hkc p0 p1 hw1 hq epa
  go_wp2_with fail
  go_region_held3 (fun W => W.cell? ⟨w.heap.size + 1, 0, none⟩ = some (.slice (some pa) 2 a.cap) ∧ W.cell? ⟨w.heap.size + 1, 1, none⟩ = some (.bool a.u) ∧ W.cell? pa = some (.int .i64 x0) ∧ W.cell? ⟨pa.block, pa.off + 1, none⟩ = some (.int .i64 x1))
    (first | exact hS0 | exact hS1 | exact hS2 | exact hS3.out | assumption)
    (first | (go_at_call 66; (with_reducible refine HC.out.mono ?_); rintro e W4 ⟨⟨d, rfl, hdi, hdf, hdz, hdu⟩, hb⟩; have HDZ := hide hdz; have HDU := hide hdu; clear hdz hdu; have q1 : w.heap.size + 1 < (w1.alloc (.cells #[.int .i64 x1, .int .i64 x0] 3)).drew.heap.size := (by have := HW1L.out; simp; omega); have q2 : pa.block < (w1.alloc (.cells #[.int .i64 x1, .int .i64 x0] 3)).drew.heap.size := (by have := HQ.out; simp; omega); have hS2 := CS4.keep hS1 q1 q1 q2 q2 hb; have n1 : w.heap.size ≠ w.heap.size + 1 := (by omega); have n2 : w.heap.size ≠ pa.block := (Nat.ne_of_lt HPL.out).symm; have hS3 := hide (CS4.far (CS4.far hS2 n1 n1 n2 n2 0 (.slice d.P d.zs.length d.cap)) n1 n1 n2 n2 1 (.bool d.u)); have hz4 := HZ0.out.below hb HZ0.out.lt; have hB4 := HBA.out.trans (hb.mono HBA.out.size); obtain ⟨z0, z1, zf0, zf1, HZf, HFf⟩ := elm_two hz4 hB4 (Nat.le_refl _) (.slice d.P d.zs.length d.cap) (.bool d.u); have hdl := hide (hdi.far2 hdf (by show w.heap.size < _; have := HW1L.out; simp; omega) (.slice d.P d.zs.length d.cap) (.bool d.u))))
  go_wp2_with fail
  refine bodyPost_ret (results_desc rfl _ _ w.heap.size _ _ rfl HZf.out) rfl ?_
  rw [HD1.out, HD2.out, HCD.out]
  exact ⟨⟨d, rfl, hdl.out, fun ad h => Nat.le_trans (by have := HW1L.out; simp; omega) (hdf ad h), HDZ.out, HDU.out⟩, HFf.out⟩
set_option maxRecDepth 100000 in
set_option maxHeartbeats 2000000 in
theorem relem_mat (za zb : Int) (a b : Ten) (M K N : Nat) (hf : Mat.Fine za zb a b M K N) (d : Dsc) (A B : Option Addr) (qcap cap i : Nat) (w : World) (hi : i < M * N) (hQ : Ri w A [za, zb]) (hR : Row w B ([a, b].flatMap Ten.vals)) (ha : a.In w) (hb : b.In w) :
    Calls Tryd.prog 56 #[.int .i64 12, .slice A 2 qcap, .int .i64 i, .slice B 2 cap, .agg (dcells d.P d.zs.length d.cap d.u)] w fun e w' => e = .returned (.int .i64 (Tens.wide (Mat.dot a.ds b.ds za zb K N (i / N) (i % N) K))) ∧ Below w.heap.size w w' := by
  obtain ⟨pr, hpr, hprl, r0, r1, r2, r3, r4, r5⟩ := row_two hR
  obtain ⟨pq, hpq, q0, q1⟩ := ri_pair hQ
  have hpql : pq.block < w.heap.size := by obtain ⟨ad, h1, h2, -⟩ := hQ.2 (by simp); rw [hpq] at h1; rw [Option.some.inj h1]; exact h2
  subst hpr
  subst hpq
  have hra := ha.shp
  have hrb := hb.shp
  rw [hf.az] at hra
  rw [hf.bz] at hrb
  obtain ⟨pa, epa, a0, a1⟩ := ri_pair hra
  obtain ⟨pb, epb, b0, b1⟩ := ri_pair hrb
  have hpal : pa.block < w.heap.size := by obtain ⟨ad, h1, h2, -⟩ := hra.2 (by simp); rw [epa] at h1; rw [Option.some.inj h1]; exact h2
  have hpbl : pb.block < w.heap.size := by obtain ⟨ad, h1, h2, -⟩ := hrb.2 (by simp); rw [epb] at h1; rw [Option.some.inj h1]; exact h2
  have hla : a.zs.length = 2 := by rw [hf.az]; rfl
  have hlb : b.zs.length = 2 := by rw [hf.bz]; rfl
  rw [epa, hla] at r0
  rw [epb, hlb] at r3
  obtain ⟨W0, hW0⟩ : ∃ W, W = (w.alloc (.cells #[.slice d.P d.zs.length d.cap, .bool d.u] 24)).alloc (.cells #[.slice (some pa) 2 a.cap, .bool a.u, .slice a.D a.ds.length a.dcap] 26) := ⟨_, rfl⟩
  have hbw : Below w.heap.size w W0 := by rw [hW0]; exact ((Below.refl _ _).alloc (Nat.le_refl _) _).alloc (by simp) _
  have hx : Has W0 (w.heap.size + 1) 26 [.slice (some pa) 2 a.cap, .bool a.u, .slice a.D a.ds.length a.dcap] := by rw [hW0]; exact box_at _ _ _ _ (by simp)
  have hbz : Below w.heap.size w (w.alloc (.cells #[.slice d.P d.zs.length d.cap, .bool d.u] 24)) := (Below.refl _ _).alloc (Nat.le_refl _) _
  have z0 : (w.alloc (.cells #[.slice d.P d.zs.length d.cap, .bool d.u] 24)).cell? pr = some (.slice (some pa) 2 a.cap) := (hbz.cell hprl).trans r0
  have z1 : (w.alloc (.cells #[.slice d.P d.zs.length d.cap, .bool d.u] 24)).cell? ⟨pr.block, pr.off + 1, none⟩ = some (.bool a.u) := (hbz.cell (p := ⟨pr.block, pr.off + 1, none⟩) hprl).trans r1
  have z2 : (w.alloc (.cells #[.slice d.P d.zs.length d.cap, .bool d.u] 24)).cell? ⟨pr.block, pr.off + 2, none⟩ = some (.slice a.D a.ds.length a.dcap) := (hbz.cell (p := ⟨pr.block, pr.off + 2, none⟩) hprl).trans r2
  have hN1 := hf.n1
  have hm1 := hf.m2
  have hn2 := hf.n2
  have hk2 := hf.k2
  obtain ⟨R, hR'⟩ : ∃ q_, Hid (i / N = q_) := ⟨_, hide rfl⟩
  obtain ⟨C, hC⟩ : ∃ q_, Hid (i % N = q_) := ⟨_, hide rfl⟩
  have hRM : R < M := by rw [← hR'.out]; exact Nat.div_lt_of_lt_mul (by rw [Nat.mul_comm]; exact hi)
  have hCN : C < N := by rw [← hC.out]; exact Nat.mod_lt _ (by omega)
  have hib : i < 65536 := by have := Nat.mul_le_mul hm1 hn2; omega
  have HR1 : Hid ((i : Int) / (N : Int) = (R : Int)) := hide (by rw [← hR'.out]; exact (Int.natCast_ediv i N).symm)
  have HR2 : Hid ((i : Int).tdiv (N : Int) = (R : Int)) := hide (by rw [Int.tdiv_eq_ediv_of_nonneg (by omega)]; exact HR1.out)
  have HR3 : Hid (IntKind.i64.wrap (R : Int) = (R : Int)) := hide (by rw [IntKind.wrap_i64]; omega)
  have HC1 : Hid ((i : Int) % (N : Int) = (C : Int)) := hide (by rw [← hC.out]; exact (Int.natCast_emod i N).symm)
  have HC2 : Hid ((i : Int).tmod (N : Int) = (C : Int)) := hide (by rw [Int.tmod_eq_emod_of_nonneg (by omega)]; exact HC1.out)
  have ha' := ha
  have HIa := hide (fun W (h : Below w.heap.size w W) => ha.dat.below h)
  have HIb := hide (fun W (h : Below w.heap.size w W) => hb.dat.below h)
  obtain ⟨na, hna⟩ : ∃ q_, Hid (a.ds.length = q_) := ⟨_, hide rfl⟩
  obtain ⟨nb, hnb⟩ : ∃ q_, Hid (b.ds.length = q_) := ⟨_, hide rfl⟩
  have hna' : Hid (na = M * K) := hide (by rw [← hna.out]; exact hf.al)
  have hnb' : Hid (nb = K * N) := hide (by rw [← hnb.out]; exact hf.bl)
  have HNA : Hid (na ≤ 65536 ∧ nb ≤ 65536) := hide (by have h1 := Nat.mul_le_mul hm1 hk2; have h2 := Nat.mul_le_mul hk2 hn2; rw [hna'.out, hnb'.out]; exact ⟨h1, h2⟩)
  have HSA := hide hf.sa
  have HSB := hide hf.sb
  have HZA := hide hf.ra
  have HZB := hide hf.rb
  have HDB := hide (fun r c k => Mat.dot_le hf.sa hf.sb za zb hf.ra hf.rb K N r c k)
  have HWD := hide (fun n W => rwide_c n W)
  have HX := hide hx
  have HB := hide (Below.refl W0.heap.size W0)
  have HB0 := hide hbw
  have HP1 : Hid (W0.cell? ⟨pr.block, pr.off + 5, none⟩ = some (.slice b.D b.ds.length b.dcap)) := hide ((hbw.cell (p := ⟨pr.block, pr.off + 5, none⟩) hprl).trans r5)
  have HP2 : Hid (W0.cell? pq = some (.int .i64 za)) := hide ((hbw.cell hpql).trans q0)
  have HP3 : Hid (W0.cell? ⟨pq.block, pq.off + 1, none⟩ = some (.int .i64 zb)) := hide ((hbw.cell (p := ⟨pq.block, pq.off + 1, none⟩) hpql).trans q1)
  have HLR : Hid (pr.block < W0.heap.size ∧ pq.block < W0.heap.size) := hide (by have := hbw.size; omega)
  have d3 : ((w.alloc (.cells #[.slice d.P d.zs.length d.cap, .bool d.u] 24)).alloc (.cells #[.slice (some pa) 2 a.cap, .bool a.u, .slice a.D a.ds.length a.dcap] 26)).cell? ⟨pr.block, pr.off + 3, none⟩ = some (.slice (some pb) 2 b.cap) := by rw [← hW0]; exact (hbw.cell (p := ⟨pr.block, pr.off + 3, none⟩) hprl).trans r3
  have c1 : ((w.alloc (.cells #[.slice d.P d.zs.length d.cap, .bool d.u] 24)).alloc (.cells #[.slice (some pa) 2 a.cap, .bool a.u, .slice a.D a.ds.length a.dcap] 26)).cell? ⟨pa.block, pa.off + 1, none⟩ = some (.int .i64 K) := by rw [← hW0]; exact (hbw.cell (p := ⟨pa.block, pa.off + 1, none⟩) hpal).trans a1
  have c2 : ((w.alloc (.cells #[.slice d.P d.zs.length d.cap, .bool d.u] 24)).alloc (.cells #[.slice (some pa) 2 a.cap, .bool a.u, .slice a.D a.ds.length a.dcap] 26)).cell? ⟨pb.block, pb.off + 1, none⟩ = some (.int .i64 N) := by rw [← hW0]; exact (hbw.cell (p := ⟨pb.block, pb.off + 1, none⟩) hpbl).trans b1
  rw [hna.out] at HX
  rw [hnb.out] at HP1
  have HW := hide hW0
  have HRM := hide hRM
  have HCN := hide hCN
  have HKB := hide hk2
  have HNB := hide hn2
  rw [hR'.out, hC.out]
  obtain ⟨D, hD⟩ : ∃ q_, Hid (Mat.dot a.ds b.ds za zb K N R C K = q_) := ⟨_, hide rfl⟩
  rw [hD.out]
  have hi65 : (i : Int) ≤ 65536 := by omega
  clear hf hi hQ hR ha hb hW0 hbw hx hbz r0 r1 r2 r3 r4 r5 q0 q1 a0 a1 b0 b1 hra hrb hpal hpbl hprl hpql ha' epa epb hla hlb hm1 hn2 hk2 hRM hCN hib
  go_enter Tryd.func56, Tryd.ntmps56
  go_wp2_with fail
  rw [← HW.out]
  clear HW z0 z1 z2 c1 c2 d3
  go_loopg [15, 16] K (fun q v k wr => ∃ (j : Nat) (s : Int), q + j = K ∧ k = .int .i64 j ∧ v = .int .i64 s ∧ Hid (Mat.dot a.ds b.ds za zb K N R C j = s) ∧ Hid (Below W0.heap.size W0 wr))
  case atStart => exact ⟨0, 0, by omega, rfl, rfl, hide rfl, HB⟩
  case round =>
    clear HB
    obtain ⟨j, s, hj, rfl, rfl, HD, HB⟩ := hrel
    by_cases hjk : j = K
    · subst hjk
      have hs : D = s := by rw [← hD.out, HD.out]
      subst hs
      have hje : ¬ ((j : Int) < (j : Int)) := by omega
      have HBF := hide (HB0.out.trans (HB.out.mono HB0.out.size))
      have HC := hide (HWD.out D wr)
      go_wp2_with fail
      refine HC.out.mono ?_
      rintro e w9 ⟨rfl, hw⟩
      have hw := hw.symm
      subst hw
      go_wp2_with fail
      go_ret
      exact ⟨rfl, HBF.out⟩
    · have hjl : j < K := by omega
      have hji : (j : Int) < (K : Int) := by omega
      have hNn : ¬ ((N : Int) = 0) := by omega
      have hNn2 : ¬ N = 0 := by omega
      obtain ⟨p1, hp1⟩ : ∃ p, Hid (R * K = p) := ⟨_, hide rfl⟩
      obtain ⟨p2, hp2⟩ : ∃ p, Hid (j * N = p) := ⟨_, hide rfl⟩
      have hp1b : p1 + K ≤ na := by rw [← hp1.out, hna'.out, ← Nat.succ_mul]; exact Nat.mul_le_mul_right K HRM.out
      have hp2b : p2 + N ≤ nb := by rw [← hp2.out, hnb'.out, ← Nat.succ_mul]; exact Nat.mul_le_mul_right N hjl
      obtain ⟨q1, hq1⟩ : ∃ q, Hid (p1 + j = q) := ⟨_, hide rfl⟩
      obtain ⟨q2, hq2⟩ : ∃ q, Hid (p2 + C = q) := ⟨_, hide rfl⟩
      have hq1' := hq1.out
      have hq2' := hq2.out
      have hcn := HCN.out
      have hnab := HNA.out
      have hq1n : q1 < na := by omega
      have hq2n : q2 < nb := by omega
      have Hwp1 : Hid (IntKind.i64.wrap ((R : Int) * (K : Int)) = (p1 : Int)) := hide (by
        rw [show (R : Int) * (K : Int) = (p1 : Int) by rw [← hp1.out, Int.natCast_mul], IntKind.wrap_i64]
        omega)
      have Hwp2 : Hid (IntKind.i64.wrap ((j : Int) * (N : Int)) = (p2 : Int)) := hide (by
        rw [show (j : Int) * (N : Int) = (p2 : Int) by rw [← hp2.out, Int.natCast_mul], IntKind.wrap_i64]
        omega)
      have Hwq1 : Hid (IntKind.i64.wrap ((p1 : Int) + (j : Int)) = (q1 : Int)) := hide (by rw [IntKind.wrap_i64]; omega)
      have Hwq2 : Hid (IntKind.i64.wrap ((p2 : Int) + (C : Int)) = (q2 : Int)) := hide (by rw [IntKind.wrap_i64]; omega)
      have hbr := HB0.out.trans (HB.out.mono HB0.out.size)
      obtain ⟨ad, x, hAD, ex, cx⟩ := ri_at (HIa.out _ hbr) q1 (by rw [hna.out]; exact hq1n)
      obtain ⟨bd, y, hBD, ey, cy⟩ := ri_at (HIb.out _ hbr) q2 (by rw [hnb.out]; exact hq2n)
      have hxb := HSA.out x (List.mem_of_getElem? ex.out)
      have hyb := HSB.out y (List.mem_of_getElem? ey.out)
      have hzab := HZA.out
      have hzbb := HZB.out
      have hpr := Mat.prod_le (x - za) (y - zb) (by omega) (by omega)
      have hdl := HDB.out R C j
      rw [HD.out] at hdl
      obtain ⟨x', hx'⟩ : ∃ q, Hid (x - za = q) := ⟨_, hide rfl⟩
      obtain ⟨y', hy'⟩ : ∃ q, Hid (y - zb = q) := ⟨_, hide rfl⟩
      have Hwx : Hid (IntKind.i64.wrap (x - za) = x') := hide (by rw [IntKind.wrap_i64, ← hx'.out]; omega)
      have Hwy : Hid (IntKind.i64.wrap (y - zb) = y') := hide (by rw [IntKind.wrap_i64, ← hy'.out]; omega)
      rw [hx'.out, hy'.out] at hpr
      obtain ⟨pr', hpr'⟩ : ∃ q, Hid (x' * y' = q) := ⟨_, hide rfl⟩
      rw [hpr'.out] at hpr
      have Hwpr : Hid (IntKind.i64.wrap (x' * y') = pr') := hide (by rw [hpr'.out, IntKind.wrap_i64]; omega)
      obtain ⟨s', hs'⟩ : ∃ q, Hid (s + pr' = q) := ⟨_, hide rfl⟩
      have Hws : Hid (IntKind.i64.wrap (s + pr') = s') := hide (by rw [IntKind.wrap_i64, ← hs'.out]; have := HKB.out; omega)
      have HD' : Hid (Mat.dot a.ds b.ds za zb K N R C (j + 1) = s') := hide (by
        show Mat.dot a.ds b.ds za zb K N R C j + (a.ds.getD (R * K + j) 0 - za) * (b.ds.getD (j * N + C) 0 - zb) = s'
        rw [HD.out, hp1.out, hp2.out, hq1.out, hq2.out, List.getD_eq_getElem?_getD, List.getD_eq_getElem?_getD, ex.out, ey.out, Option.getD_some, Option.getD_some, hx'.out, hy'.out, hpr'.out, hs'.out])
      have hq10 : (0 : Int) ≤ (q1 : Int) := by omega
      have hq11 : (q1 : Int) < na := by omega
      have hq20 : (0 : Int) ≤ (q2 : Int) := by omega
      have hq21 : (q2 : Int) < nb := by omega
      have hj1 : ((j : Nat) : Int) + 1 ≤ 1000001 := by have := HKB.out; omega
      have HAD := hide hAD
      have HBD := hide hBD
      have g2 : wr.cell? ⟨w.heap.size + 1, 2, none⟩ = some (.slice (some ad) na a.dcap) := by
        have h := (HX.out.below HB.out HX.out.lt).cell 2
        rw [hAD] at h
        exact h
      have g5 : wr.cell? ⟨pr.block, pr.off + 5, none⟩ = some (.slice (some bd) nb b.dcap) := by
        have h := (HB.out.cell (p := ⟨pr.block, pr.off + 5, none⟩) HLR.out.1).trans HP1.out
        rw [hBD] at h
        exact h
      have g6 : wr.cell? pq = some (.int .i64 za) := (HB.out.cell HLR.out.2).trans HP2.out
      have g7 : wr.cell? ⟨pq.block, pq.off + 1, none⟩ = some (.int .i64 zb) := (HB.out.cell (p := ⟨pq.block, pq.off + 1, none⟩) HLR.out.2).trans HP3.out
      clear hAD hBD hp1b hp2b hq1' hq2' hq1n hq2n hxb hyb hpr hdl hzab hzbb ex ey hbr hcn hnab
      go_wp2_with fail
      have o1 := Hwp1.out
      have o2 := Hwp2.out
      have o3 := Hwq1.out
      have o4 := Hwq2.out
      have o5 := Hwx.out
      have o6 := Hwy.out
      have o7 := Hwpr.out
      have o8 := Hws.out
      have o9 := HR1.out
      have o10 := HR2.out
      have o11 := HR3.out
      have o12 := HC1.out
      have o13 := HC2.out
      go_quiet (fail)
      clear o1 o2 o3 o4 o5 o6 o7 o8 o9 o10 o11 o12 o13 g2 g5 g6 g7 cx cy
      replace HB := hide (below_drewN HB.out nq)
      generalize wr.drewN nq = W3 at *
      go_wp2_with fail
      go_roundg (K - (j + 1))
      case measure => omega
      case rel => exact ⟨j + 1, s', by omega, by go_num, rfl, HD', HB⟩
set_option maxRecDepth 100000 in
set_option maxHeartbeats 2000000 in
theorem relem_turn (a : Ten) (M N : Nat) (hf : Mat.TFine a M N) (d : Dsc) (A B : Option Addr) (qcap cap i : Nat) (w : World) (hi : i < N * M) (hR : Row w B ([a].flatMap Ten.vals)) (ha : a.In w) :
    Calls Tryd.prog 56 #[.int .i64 21, .slice A 0 qcap, .int .i64 i, .slice B 1 cap, .agg (dcells d.P d.zs.length d.cap d.u)] w fun e w' => e = .returned (.int .i64 (a.ds.getD (i % M * N + i / M) 0)) ∧ Below w.heap.size w w' := by
  obtain ⟨pr, hpr, hprl, r0, r1, r2⟩ := row_one hR
  subst hpr
  have hra := ha.shp
  rw [hf.az] at hra
  obtain ⟨pa, epa, a0, a1⟩ := ri_pair hra
  have hpal : pa.block < w.heap.size := by obtain ⟨ad, h1, h2, -⟩ := hra.2 (by simp); rw [epa] at h1; rw [Option.some.inj h1]; exact h2
  have hla : a.zs.length = 2 := by rw [hf.az]; rfl
  rw [epa, hla] at r0
  have hm1 := hf.m1
  have hm2 := hf.m2
  have hn2 := hf.n2
  obtain ⟨R, hR'⟩ : ∃ q_, Hid (i % M = q_) := ⟨_, hide rfl⟩
  obtain ⟨C, hC⟩ : ∃ q_, Hid (i / M = q_) := ⟨_, hide rfl⟩
  have hRM : R < M := by rw [← hR'.out]; exact Nat.mod_lt _ (by omega)
  have hCN : C < N := by rw [← hC.out]; exact Nat.div_lt_of_lt_mul (by rw [Nat.mul_comm]; exact hi)
  have hib : i < 65536 := by have := Nat.mul_le_mul hn2 hm2; omega
  obtain ⟨p1, hp1⟩ : ∃ q_, Hid (R * N = q_) := ⟨_, hide rfl⟩
  obtain ⟨q, hq⟩ : ∃ q_, Hid (p1 + C = q_) := ⟨_, hide rfl⟩
  have hqn : q < a.ds.length := by
    have h1 := Nat.mul_le_mul_right N (Nat.succ_le_of_lt hRM)
    rw [Nat.succ_mul, hp1.out] at h1
    have h2 := hq.out
    rw [hf.al]
    omega
  obtain ⟨ad, x, hAD, ex, cx⟩ := ri_at ha.dat q hqn
  have hadl : ad.block < w.heap.size := by obtain ⟨ad', h1, h2, -⟩ := ha.dat.2 (by intro h; rw [h] at hqn; simp at hqn); rw [hAD] at h1; rw [Option.some.inj h1]; exact h2
  rw [hAD] at r2
  obtain ⟨na, hna⟩ : ∃ q_, Hid (a.ds.length = q_) := ⟨_, hide rfl⟩
  rw [hna.out] at r2 hqn
  have hnb : na ≤ 65536 := by have h := Nat.mul_le_mul hm2 hn2; rw [← hf.al, hna.out] at h; exact h
  have HV : Hid (a.ds.getD (i % M * N + i / M) 0 = x) := hide (by rw [hR'.out, hC.out, hp1.out, hq.out, List.getD_eq_getElem?_getD, ex.out]; rfl)
  obtain ⟨W0, hW0⟩ : ∃ W, W = (w.alloc (.cells #[.slice d.P d.zs.length d.cap, .bool d.u] 24)).alloc (.cells #[.slice (some pa) 2 a.cap, .bool a.u, .slice (some ad) na a.dcap] 26) := ⟨_, rfl⟩
  have hbw : Below w.heap.size w W0 := by rw [hW0]; exact ((Below.refl _ _).alloc (Nat.le_refl _) _).alloc (by simp) _
  have hx : Has W0 (w.heap.size + 1) 26 [.slice (some pa) 2 a.cap, .bool a.u, .slice (some ad) na a.dcap] := by rw [hW0]; exact box_at _ _ _ _ (by simp)
  have hbz : Below w.heap.size w (w.alloc (.cells #[.slice d.P d.zs.length d.cap, .bool d.u] 24)) := (Below.refl _ _).alloc (Nat.le_refl _) _
  have z0 : (w.alloc (.cells #[.slice d.P d.zs.length d.cap, .bool d.u] 24)).cell? pr = some (.slice (some pa) 2 a.cap) := (hbz.cell hprl).trans r0
  have z1 : (w.alloc (.cells #[.slice d.P d.zs.length d.cap, .bool d.u] 24)).cell? ⟨pr.block, pr.off + 1, none⟩ = some (.bool a.u) := (hbz.cell (p := ⟨pr.block, pr.off + 1, none⟩) hprl).trans r1
  have z2 : (w.alloc (.cells #[.slice d.P d.zs.length d.cap, .bool d.u] 24)).cell? ⟨pr.block, pr.off + 2, none⟩ = some (.slice (some ad) na a.dcap) := (hbz.cell (p := ⟨pr.block, pr.off + 2, none⟩) hprl).trans r2
  have c0 : W0.cell? pa = some (.int .i64 M) := (hbw.cell hpal).trans a0
  have e0 : ((w.alloc (.cells #[.slice d.P d.zs.length d.cap, .bool d.u] 24)).alloc (.cells #[.slice (some pa) 2 a.cap, .bool a.u, .slice (some ad) na a.dcap] 26)).cell? pa = some (.int .i64 M) := by rw [← hW0]; exact c0
  have c1 : W0.cell? ⟨pa.block, pa.off + 1, none⟩ = some (.int .i64 N) := (hbw.cell (p := ⟨pa.block, pa.off + 1, none⟩) hpal).trans a1
  have c2 : W0.cell? (ad.add q) = some (.int .i64 x) := (hbw.cell (by rw [elm_block]; exact hadl)).trans cx
  have c3 : W0.cell? ⟨w.heap.size + 1, 0, none⟩ = some (.slice (some pa) 2 a.cap) := hx.cell 0
  have c4 : W0.cell? ⟨w.heap.size + 1, 2, none⟩ = some (.slice (some ad) na a.dcap) := hx.cell 2
  have HR1 : Hid ((i : Int) % (M : Int) = (R : Int)) := hide (by rw [← hR'.out]; exact (Int.natCast_emod i M).symm)
  have HR2 : Hid ((i : Int).tmod (M : Int) = (R : Int)) := hide (by rw [Int.tmod_eq_emod_of_nonneg (by omega)]; exact HR1.out)
  have HC1 : Hid ((i : Int) / (M : Int) = (C : Int)) := hide (by rw [← hC.out]; exact (Int.natCast_ediv i M).symm)
  have HC2 : Hid ((i : Int).tdiv (M : Int) = (C : Int)) := hide (by rw [Int.tdiv_eq_ediv_of_nonneg (by omega)]; exact HC1.out)
  have HC3 : Hid (IntKind.i64.wrap (C : Int) = (C : Int)) := hide (by rw [IntKind.wrap_i64]; omega)
  have hqe := hq.out
  have HP1 : Hid (IntKind.i64.wrap ((R : Int) * (N : Int)) = (p1 : Int)) := hide (by
    rw [show (R : Int) * (N : Int) = (p1 : Int) by rw [← hp1.out, Int.natCast_mul], IntKind.wrap_i64]
    omega)
  have HP2 : Hid (IntKind.i64.wrap ((p1 : Int) + (C : Int)) = (q : Int)) := hide (by rw [IntKind.wrap_i64]; omega)
  have hMn : ¬ ((M : Int) = 0) := by omega
  have hMn2 : ¬ M = 0 := by omega
  have hq0 : (0 : Int) ≤ (q : Int) := by omega
  have hq1 : (q : Int) < (na : Int) := by omega
  have hi65 : (i : Int) ≤ 65536 := by omega
  have HB0 := hide hbw
  have HW := hide hW0
  clear hf hi hR ha hW0 hbw hx hbz r0 r1 r2 a0 a1 hra hpal hprl epa hla hm1 hm2 hn2 hRM hCN hib hqn hAD ex cx hadl hnb hqe
  go_enter Tryd.func56, Tryd.ntmps56
  go_wp2_with fail
  rw [← HW.out]
  clear HW z0 z1 z2 e0
  have o9 := HR1.out
  have o10 := HR2.out
  have o11 := HC3.out
  have o12 := HC1.out
  have o13 := HC2.out
  have o1 := HP1.out
  have o2 := HP2.out
  go_quiet (fail)
  clear o1 o2 o9 o10 o11 o12 o13 c0 c1 c2 c3 c4
  have HB1 := hide (below_drewN HB0.out nq)
  generalize W0.drewN nq = W3 at *
  go_wp2_with fail
  go_ret
  exact ⟨by rw [HV.out]; rfl, HB1.out⟩
end Go.Proofs.YtcgjnjchkachdaaDoor
