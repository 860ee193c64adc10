/-
  conv.Result, walked. By an AI agent. No person has read it.
-/
import Derived.Test.YtgdcfjmpjhlndaaGreatDoorZOCelC
import Derived.Test.YtgdcfjmpjhlndaaGreatDoorZOMatN
import Derived.Test.YtgdcfjmpjhlndaaGreatDoorZOElmN
import Derived.Test.YtgdcfjmpjhlndaaGreatDoorZOCnvB
import Derived.Deep.RegionLaw
import Derived.RegionTactic
import Derived.ChangeAlike
import Derived.BigRegion
namespace Go.Proofs.YtgdcfjmpjhlndaaGreatDoor
open Go.RowKit
def Cv.dims (qs : List Int) (a b : Dsc) : List Int := [Cv.reach (a.zs.getD 0 0) (b.zs.getD 0 0) (qs.getD 0 0) (qs.getD 1 0), Cv.reach (a.zs.getD 1 0) (b.zs.getD 1 0) (qs.getD 0 0) (qs.getD 1 0), b.zs.getD 3 0]
def Cv.code (qs : List Int) (a b : Dsc) : Nat :=
 if qs.length ≠ 3 then 101 else if Shp.firstbad [a, b] ≠ 0 then Shp.firstbad [a, b]
 else if a.u = true ∨ b.u = true ∨ a.zs.length ≠ 3 ∨ b.zs.length ≠ 4 ∨ b.zs.getD 2 0 ≠ a.zs.getD 2 0 then 101
 else if qs.getD 0 0 < 1 ∨ qs.getD 0 0 > 16 ∨ qs.getD 1 0 < 0 ∨ qs.getD 1 0 > 15 ∨ Tens.narrow (qs.getD 2 0) ≠ qs.getD 2 0 then 102
 else if b.zs.getD 0 0 > a.zs.getD 0 0 + 2 * qs.getD 1 0 ∨ b.zs.getD 1 0 > a.zs.getD 1 0 + 2 * qs.getD 1 0 then 101
 else Shp.code (Cv.dims qs a b)
def Cv.shape (qs : List Int) (a b : Dsc) : List Int := if Cv.code qs a b = 0 then Cv.dims qs a b else []
def Cv.kind (qs : List Int) (a b : Dsc) : Bool := decide (Cv.code qs a b = 0)
theorem Cv.bad {qs : List Int} {a b : Dsc} (h : Cv.code qs a b ≠ 0) : Cv.shape qs a b = [] ∧ Cv.kind qs a b = false := by
 unfold Cv.shape Cv.kind
 rw [if_neg h]
 exact ⟨rfl, decide_eq_false h⟩
theorem Cv.code_known (qs : List Int) (a b : Dsc) : Cel.known (Cv.code qs a b) := by
 unfold Cv.code
 split
 ·exact .inr (.inl rfl)
 split
 ·exact Cel.known_bad _
 split
 ·exact .inr (.inl rfl)
 split
 ·exact .inr (.inr (.inl rfl))
 split
 ·exact .inr (.inl rfl)
 ·exact Cel.known_shp _
theorem Cv.reach_le (n k s p : Int) (h1 : 0 ≤ n ∧ n ≤ 4194304) (h2 : 0 ≤ p ∧ p ≤ 4194304) (h3 : 0 ≤ k ∧ k ≤ n + 2 * p) (h4 : 1 ≤ s) : 1 ≤ Cv.reach n k s p ∧ Cv.reach n k s p ≤ 100000000 := by
 unfold Cv.reach
 have e1 : 0 ≤ n + 2 * p - k := by omega
 have e3 : 0 ≤ (n + 2 * p - k) / s := Int.ediv_nonneg e1 (by omega)
 have e4 : (n + 2 * p - k) / s ≤ n + 2 * p - k := Int.ediv_le_self _ e1
 omega
theorem ri_four {w : World} {A : Option Addr} {x y z v : Int} (h : Ri w A [x, y, z, v]) : ∃ ad, A = some ad ∧ ad.block < w.heap.size ∧ w.cell? ad = some (.int .i64 x) ∧ w.cell? ⟨ad.block, ad.off + 1, none⟩ = some (.int .i64 y) ∧ w.cell? ⟨ad.block, ad.off + 2, none⟩ = some (.int .i64 z) ∧ w.cell? ⟨ad.block, ad.off + 3, none⟩ = some (.int .i64 v) := by
 obtain ⟨ad, h1, h2, h3⟩ := h.2 (by simp)
 have c0 := h3 0 x rfl
 have c1 := h3 1 y rfl
 have c2 := h3 2 z rfl
 have c3 := h3 3 v rfl
 rw [Addr.add_zero'] at c0
 simp only [Addr.add, Nat.reduceEqDiff, if_false] at c1 c2 c3
 exact ⟨ad, h1, h2, c0, c1, c2, c3⟩
set_option maxRecDepth 100000 in
set_option maxHeartbeats 8000000 in
theorem cresult_c (qs : List Int) (A : Option Addr) (qcap : Nat) (a b : Dsc) (ah am ar : Addr) (w : World) (hq : Ri w A qs) (hql : qs.length ≤ 1000000) (ha : a.In w) (hb : b.In w) (hE : E3 w ah am ar) :
  Calls Tryz.prog 98 #[.slice A qs.length qcap, .agg (dcells a.P a.zs.length a.cap a.u), .agg (dcells b.P b.zs.length b.cap b.u)] w (DscE w ah am ar (Cv.shape qs a b) (Cv.kind qs a b) (Cv.code qs a b)) := by
 have HEs := hide hE.1
 have HEr := hide hE.2.2
 have HE2 := hide (fun W (h : Below w.heap.size w W) => hE.2.below h)
 by_cases hn : qs.length = 3
 case neg =>
  have hcd : Cv.code qs a b = 101 := by
   unfold Cv.code
   rw [if_pos hn]
  obtain ⟨e1, e2⟩ := Cv.bad (by rw [hcd]; decide)
  have HD1 := hide e1
  have HD2 := hide e2
  have HCD := hide hcd
  clear e1 e2
  obtain ⟨W0, hW0⟩ : ∃ W, W = (((w.alloc (.cells #[.slice a.P a.zs.length a.cap, .bool a.u] 24)).alloc (.cells #[.slice b.P b.zs.length b.cap, .bool b.u] 24)).alloc (.cells #[.slice none 0 0, .bool false] 24)) := ⟨_, rfl⟩
  have HZ : Hid (Has W0 (w.heap.size + 2) 24 [.slice none 0 0, .bool false]) := hide (by rw [hW0]; exact box_at _ _ _ _ (by simp))
  have HB0 : Hid (Below w.heap.size w W0) := hide (by rw [hW0]; exact (((Below.refl _ _).alloc (Nat.le_refl _) _).alloc (by simp) _).alloc (by simp; omega) _)
  have HW := hide hW0
  obtain ⟨nq, hnq⟩ : ∃ n, Hid (qs.length = n) := ⟨_, hide rfl⟩
  rw [hnq.out] at hn hql ⊢
  have hni : ((nq : Int) != 3) = true := by simp; omega
  clear hq ha hb hE hW0 hcd
  go_enter Tryz.func98, Tryz.ntmps98
  go_wp2_with fail
  rw [← HW.out]
  clear HW
  obtain ⟨z0, z1, zf0, zf1, HZf, HFf⟩ := elm_twod HZ.out HB0.out (Nat.le_add_right _ 2) (.slice none 0 0) (.bool false)
  have hs5 : W0.drew.cell? ⟨1, 0, none⟩ = some (errv ah) := (HEs.out.below HB0.out).1
  have hglt : 1 < w.heap.size := HEs.out.2.1
  have hS9 := hide (HEs.out.below HFf.out).1
  go_wp2_with fail
  go_region_held3 (fun W => W.cell? ⟨1, 0, none⟩ = some (errv ah))
   (first | exact hs5 | assumption | exact hS9.out)
   (first | fail)
  go_wp2_with fail
  refine bodyPost_ret (results_desc rfl _ _ (w.heap.size + 2) _ _ rfl HZf.out) rfl ?_
  rw [HD1.out, HD2.out, HCD.out]
  exact DscE.bad rfl HFf.out
 case pos =>
 obtain ⟨q0, q1, q2, rfl⟩ : ∃ x y z, qs = [x, y, z] := by
  match h : qs, hn with
  | [x, y, z], _ => exact ⟨x, y, z, rfl⟩
 have HQW := hide hq.1
 have HQ := hide (fun W (h : Below w.heap.size w W) => hq.below h)
 rw [hn]
 clear hn hql hq
 have HVa := hide (fun W (h : Below w.heap.size w W) => valid_c a.zs a.P a.cap a.u am ar W (ha.shp.below h) (by have := ha.ls; omega) (hE.2.below h))
 have HVb := hide (fun W (h : Below w.heap.size w W) => valid_c b.zs b.P b.cap b.u am ar W (hb.shp.below h) (by have := hb.ls; omega) (hE.2.below h))
 obtain ⟨W0, hW0⟩ : ∃ W, W = ((((w.alloc (.cells #[.slice a.P a.zs.length a.cap, .bool a.u] 24)).alloc (.cells #[.slice b.P b.zs.length b.cap, .bool b.u] 24)).alloc (.cells #[.slice none 0 0, .bool false] 24)).alloc (.cells #[.slice a.P a.zs.length a.cap, .bool a.u, .slice b.P b.zs.length b.cap, .bool b.u] 24)) := ⟨_, rfl⟩
 have HA : Hid (Has W0 w.heap.size 24 [.slice a.P a.zs.length a.cap, .bool a.u]) := hide (by rw [hW0]; exact (((Has.new w 24 _).alloc _).alloc _).alloc _)
 have HB : Hid (Has W0 (w.heap.size + 1) 24 [.slice b.P b.zs.length b.cap, .bool b.u]) := hide (by rw [hW0]; exact ((box_at _ _ _ _ (by simp)).alloc _).alloc _)
 have HZ : Hid (Has W0 (w.heap.size + 2) 24 [.slice none 0 0, .bool false]) := hide (by rw [hW0]; exact (box_at _ _ _ _ (by simp)).alloc _)
 have HS : Hid (Has W0 (w.heap.size + 3) 24 [.slice a.P a.zs.length a.cap, .bool a.u, .slice b.P b.zs.length b.cap, .bool b.u]) := hide (by rw [hW0]; exact box_at _ _ _ _ (by simp))
 have HB0 : Hid (Below w.heap.size w W0) := hide (by rw [hW0]; exact ((((Below.refl _ _).alloc (Nat.le_refl _) _).alloc (by simp) _).alloc (by simp; omega) _).alloc (by simp; omega) _)
 have HW := hide hW0
 have HIa := hide (fun W (h : Below w.heap.size w W) => ha.shp.below h)
 have HIb := hide (fun W (h : Below w.heap.size w W) => hb.shp.below h)
 have hka' := Shp.code_is a.zs
 have hkb' := Shp.code_is b.zs
 go_enter Tryz.func98, Tryz.ntmps98
 go_wp2_with fail
 rw [← HW.out]
 refine wp_loop_rounds 4 ?_
 rw [rounds_succ]
 clear ha hb hE HW hW0
 obtain ⟨ka, hka⟩ : ∃ k, Hid (Shp.code a.zs = k) := ⟨_, hide rfl⟩
 obtain ⟨kb, hkb⟩ : ∃ k, Hid (Shp.code b.zs = k) := ⟨_, hide rfl⟩
 rw [hka.out] at HVa hka'
 rw [hkb.out] at HVb hkb'
 obtain ⟨CD, hCD⟩ : ∃ k, Hid (Cv.code [q0, q1, q2] a b = k) := ⟨_, hide rfl⟩
 have c0 : W0.cell? ⟨w.heap.size + 3, 0, none⟩ = some (.slice a.P a.zs.length a.cap) := HS.out.cell 0
 have c1 : W0.cell? ⟨w.heap.size + 3, 1, none⟩ = some (.bool a.u) := HS.out.cell 1
 have hbx : Below W0.heap.size W0 (W0.alloc (.cells #[.slice a.P a.zs.length a.cap, .bool a.u] 24)) := (Below.refl _ _).alloc (Nat.le_refl _) _
 have HBx := hide (HB0.out.trans (hbx.mono HB0.out.size))
 have HAx := hide (HA.out.below hbx HA.out.lt)
 have HBBx := hide (HB.out.below hbx HB.out.lt)
 have HZx := hide (HZ.out.below hbx HZ.out.lt)
 have HSx := hide (HS.out.below hbx HS.out.lt)
 clear hbx HB0 HA HB HZ HS
 go_wp2_with fail
 refine (HVa.out _ HBx.out).mono ?_
 rintro e w1 ⟨rfl, hb⟩
 have HB0 := hide (HBx.out.trans (hb.mono HBx.out.size))
 have HA := hide (HAx.out.below hb HAx.out.lt)
 have HB := hide (HBBx.out.below hb HBBx.out.lt)
 have HZ := hide (HZx.out.below hb HZx.out.lt)
 have HS := hide (HSx.out.below hb HSx.out.lt)
 clear hb HBx HAx HBBx HZx HSx c0 c1
 by_cases h1 : ka = 0
 case neg =>
  have hcd : Cv.code [q0, q1, q2] a b = ka := by
   have : Shp.firstbad [a, b] = ka := by unfold Shp.firstbad; rw [if_neg (by rw [hka.out]; exact h1)]; exact hka.out
   unfold Cv.code
   rw [if_neg (by simp), this, if_pos h1]
  obtain ⟨e1, e2⟩ := Cv.bad (by rw [hcd]; exact h1)
  have HD1 := hide e1
  have HD2 := hide e2
  have HCD := hide hcd
  have hv := Shp.err_v (am := am) (ar := ar) hka' h1
  have r1 := run_neqerr hv
  have r2 := run_neqguard hv
  have hx : Tens.err ah am ar ka = Shp.err am ar ka := by
   unfold Tens.err
   rw [if_neg (by omega)]
  have HX := hide hx
  clear hv hx hcd e1 e2 hka' hkb' h1
  obtain ⟨z0, z1, zf0, zf1, HZf, HFf⟩ := elm_two HZ.out HB0.out (Nat.le_add_right _ 2) (.slice none 0 0) (.bool false)
  go_wp2_with fail
  refine bodyPost_ret (results_desc rfl _ _ (w.heap.size + 2) _ _ rfl HZf.out) rfl ?_
  rw [HD1.out, HD2.out, HCD.out]
  exact DscE.bad (by rw [HX.out]; rfl) HFf.out
 case pos =>
 subst h1
 have hs1 : Shp.err am ar 0 = .nilIface := rfl
 rw [hs1]
 clear hs1 hka'
 go_wp2_with fail
 rw [rounds_succ]
 have c2 : w1.cell? ⟨w.heap.size + 3, 2, none⟩ = some (.slice b.P b.zs.length b.cap) := HS.out.cell 2
 have c3 : w1.cell? ⟨w.heap.size + 3, 3, none⟩ = some (.bool b.u) := HS.out.cell 3
 have hbx : Below w1.heap.size w1 (w1.alloc (.cells #[.slice b.P b.zs.length b.cap, .bool b.u] 24)) := (Below.refl _ _).alloc (Nat.le_refl _) _
 have HBx := hide (HB0.out.trans (hbx.mono HB0.out.size))
 have HAx := hide (HA.out.below hbx HA.out.lt)
 have HBBx := hide (HB.out.below hbx HB.out.lt)
 have HZx := hide (HZ.out.below hbx HZ.out.lt)
 have HSx := hide (HS.out.below hbx HS.out.lt)
 clear hbx HB0 HA HB HZ HS
 go_wp2_with fail
 refine (HVb.out _ HBx.out).mono ?_
 rintro e w2 ⟨rfl, hb⟩
 have HB0 := hide (HBx.out.trans (hb.mono HBx.out.size))
 have HA := hide (HAx.out.below hb HAx.out.lt)
 have HB := hide (HBBx.out.below hb HBBx.out.lt)
 have HZ := hide (HZx.out.below hb HZx.out.lt)
 have HS := hide (HSx.out.below hb HSx.out.lt)
 clear hb HBx HAx HBBx HZx HSx c2 c3
 by_cases h2 : kb = 0
 case neg =>
  have hcd : Cv.code [q0, q1, q2] a b = kb := by
   have : Shp.firstbad [a, b] = kb := by unfold Shp.firstbad; rw [if_pos hka.out]; unfold Shp.firstbad; rw [if_neg (by rw [hkb.out]; exact h2)]; exact hkb.out
   unfold Cv.code
   rw [if_neg (by simp), this, if_pos h2]
  obtain ⟨e1, e2⟩ := Cv.bad (by rw [hcd]; exact h2)
  have HD1 := hide e1
  have HD2 := hide e2
  have HCD := hide hcd
  have hv := Shp.err_v (am := am) (ar := ar) hkb' h2
  have r1 := run_neqerr hv
  have r2 := run_neqguard hv
  have hx : Tens.err ah am ar kb = Shp.err am ar kb := by
   unfold Tens.err
   rw [if_neg (by omega)]
  have HX := hide hx
  clear hv hx hcd e1 e2 hkb' h2
  obtain ⟨z0, z1, zf0, zf1, HZf, HFf⟩ := elm_two HZ.out HB0.out (Nat.le_add_right _ 2) (.slice none 0 0) (.bool false)
  go_wp2_with fail
  refine bodyPost_ret (results_desc rfl _ _ (w.heap.size + 2) _ _ rfl HZf.out) rfl ?_
  rw [HD1.out, HD2.out, HCD.out]
  exact DscE.bad (by rw [HX.out]; rfl) HFf.out
 case pos =>
 subst h2
 have hs1 : Shp.err am ar 0 = .nilIface := rfl
 rw [hs1]
 clear hs1 hkb'
 go_wp2_with fail
 rw [rounds_succ]
 go_wp2_with fail
 have hfb : Shp.firstbad [a, b] = 0 := by unfold Shp.firstbad; rw [if_pos hka.out]; unfold Shp.firstbad; rw [if_pos hkb.out]; rfl
 have HFB := hide hfb
 clear hfb
 have HC101 : Hid ((a.u = true ∨ b.u = true ∨ a.zs.length ≠ 3 ∨ b.zs.length ≠ 4 ∨ b.zs.getD 2 0 ≠ a.zs.getD 2 0) → Cv.code [q0, q1, q2] a b = 101 ∧ Cv.shape [q0, q1, q2] a b = [] ∧ Cv.kind [q0, q1, q2] a b = false) := hide (fun h => by
  have h1 : Cv.code [q0, q1, q2] a b = 101 := by
   unfold Cv.code
   rw [if_neg (by simp), if_neg (by rw [HFB.out]; simp), if_pos h]
  have h2 := Cv.bad (by rw [h1]; decide)
  exact ⟨h1, h2.1, h2.2⟩)
 obtain ⟨na, hna⟩ : ∃ n, Hid (a.zs.length = n) := ⟨_, hide rfl⟩
 obtain ⟨nb, hnb⟩ : ∃ n, Hid (b.zs.length = n) := ⟨_, hide rfl⟩
 rw [hna.out, hnb.out] at HC101 HS
 rw [hna.out] at HA
 rw [hnb.out] at HB
 obtain ⟨ua, hua⟩ : ∃ n, Hid (a.u = n) := ⟨_, hide rfl⟩
 obtain ⟨ub, hub⟩ : ∃ n, Hid (b.u = n) := ⟨_, hide rfl⟩
 rw [hua.out, hub.out] at HC101 HS
 rw [hua.out] at HA
 rw [hub.out] at HB
 have a0 : w2.cell? ⟨w.heap.size, 0, none⟩ = some (.slice a.P na a.cap) := HA.out.cell 0
 have a1 : w2.cell? ⟨w.heap.size, 1, none⟩ = some (.bool ua) := HA.out.cell 1
 have b0 : w2.cell? ⟨w.heap.size + 1, 0, none⟩ = some (.slice b.P nb b.cap) := HB.out.cell 0
 have b1 : w2.cell? ⟨w.heap.size + 1, 1, none⟩ = some (.bool ub) := HB.out.cell 1
 have HNW := hide (fun n => narrow_c n)
 clear HS
 cases ua
 case true =>
  obtain ⟨e0, e1, e2⟩ := HC101.out (by simp)
  have HCD := hide e0
  have HD1 := hide e1
  have HD2 := hide e2
  clear e0 e1 e2 HC101
  go_quiet (fail)
  clear a0 a1 b0 b1
  replace HZ := hide (HZ.out.drewN nq)
  replace HB0 := hide (below_drewN HB0.out nq)
  generalize w2.drewN nq = W3 at *
  go_wp2_with fail
  obtain ⟨z0, z1, zf0, zf1, HZf, HFf⟩ := elm_twod HZ.out HB0.out (Nat.le_add_right _ 2) (.slice none 0 0) (.bool false)
  have hs5 : W3.drew.cell? ⟨1, 0, none⟩ = some (errv ah) := (HEs.out.below HB0.out).1
  have hglt : 1 < w.heap.size := HEs.out.2.1
  have hS9 := hide (HEs.out.below HFf.out).1
  go_wp2_with fail
  go_region_held3 (fun W => W.cell? ⟨1, 0, none⟩ = some (errv ah))
   (first | exact hs5 | assumption | exact hS9.out)
   (first | fail)
  go_wp2_with fail
  refine bodyPost_ret (results_desc rfl _ _ (w.heap.size + 2) _ _ rfl HZf.out) rfl ?_
  rw [HD1.out, HD2.out, HCD.out]
  exact DscE.bad rfl HFf.out
 case false =>
 cases ub
 case true =>
  obtain ⟨e0, e1, e2⟩ := HC101.out (by simp)
  have HCD := hide e0
  have HD1 := hide e1
  have HD2 := hide e2
  clear e0 e1 e2 HC101
  go_quiet (fail)
  clear a0 a1 b0 b1
  replace HZ := hide (HZ.out.drewN nq)
  replace HB0 := hide (below_drewN HB0.out nq)
  generalize w2.drewN nq = W3 at *
  go_wp2_with fail
  obtain ⟨z0, z1, zf0, zf1, HZf, HFf⟩ := elm_twod HZ.out HB0.out (Nat.le_add_right _ 2) (.slice none 0 0) (.bool false)
  have hs5 : W3.drew.cell? ⟨1, 0, none⟩ = some (errv ah) := (HEs.out.below HB0.out).1
  have hglt : 1 < w.heap.size := HEs.out.2.1
  have hS9 := hide (HEs.out.below HFf.out).1
  go_wp2_with fail
  go_region_held3 (fun W => W.cell? ⟨1, 0, none⟩ = some (errv ah))
   (first | exact hs5 | assumption | exact hS9.out)
   (first | fail)
  go_wp2_with fail
  refine bodyPost_ret (results_desc rfl _ _ (w.heap.size + 2) _ _ rfl HZf.out) rfl ?_
  rw [HD1.out, HD2.out, HCD.out]
  exact DscE.bad rfl HFf.out
 case false =>
 by_cases hn2 : na = 3
 case neg =>
  obtain ⟨e0, e1, e2⟩ := HC101.out (by simp; omega)
  have HCD := hide e0
  have HD1 := hide e1
  have HD2 := hide e2
  clear e0 e1 e2 HC101
  have hni : ((na : Int) != 3) = true := by simp; omega
  go_quiet (fail)
  clear a0 a1 b0 b1
  replace HZ := hide (HZ.out.drewN nq)
  replace HB0 := hide (below_drewN HB0.out nq)
  generalize w2.drewN nq = W3 at *
  go_wp2_with fail
  obtain ⟨z0, z1, zf0, zf1, HZf, HFf⟩ := elm_twod HZ.out HB0.out (Nat.le_add_right _ 2) (.slice none 0 0) (.bool false)
  have hs5 : W3.drew.cell? ⟨1, 0, none⟩ = some (errv ah) := (HEs.out.below HB0.out).1
  have hglt : 1 < w.heap.size := HEs.out.2.1
  have hS9 := hide (HEs.out.below HFf.out).1
  go_wp2_with fail
  go_region_held3 (fun W => W.cell? ⟨1, 0, none⟩ = some (errv ah))
   (first | exact hs5 | assumption | exact hS9.out)
   (first | fail)
  go_wp2_with fail
  refine bodyPost_ret (results_desc rfl _ _ (w.heap.size + 2) _ _ rfl HZf.out) rfl ?_
  rw [HD1.out, HD2.out, HCD.out]
  exact DscE.bad rfl HFf.out
 case pos =>
 subst hn2
 by_cases hn3 : nb = 4
 case neg =>
  obtain ⟨e0, e1, e2⟩ := HC101.out (by simp; omega)
  have HCD := hide e0
  have HD1 := hide e1
  have HD2 := hide e2
  clear e0 e1 e2 HC101
  have hni : ((nb : Int) != 4) = true := by simp; omega
  go_quiet (fail)
  clear a0 a1 b0 b1
  replace HZ := hide (HZ.out.drewN nq)
  replace HB0 := hide (below_drewN HB0.out nq)
  generalize w2.drewN nq = W3 at *
  go_wp2_with fail
  obtain ⟨z0, z1, zf0, zf1, HZf, HFf⟩ := elm_twod HZ.out HB0.out (Nat.le_add_right _ 2) (.slice none 0 0) (.bool false)
  have hs5 : W3.drew.cell? ⟨1, 0, none⟩ = some (errv ah) := (HEs.out.below HB0.out).1
  have hglt : 1 < w.heap.size := HEs.out.2.1
  have hS9 := hide (HEs.out.below HFf.out).1
  go_wp2_with fail
  go_region_held3 (fun W => W.cell? ⟨1, 0, none⟩ = some (errv ah))
   (first | exact hs5 | assumption | exact hS9.out)
   (first | fail)
  go_wp2_with fail
  refine bodyPost_ret (results_desc rfl _ _ (w.heap.size + 2) _ _ rfl HZf.out) rfl ?_
  rw [HD1.out, HD2.out, HCD.out]
  exact DscE.bad rfl HFf.out
 case pos =>
 subst hn3
 obtain ⟨x0, x1, x2, hx⟩ : ∃ x y z, a.zs = [x, y, z] := by
  have := hna.out
  match h : a.zs, this with
  | [x, y, z], _ => exact ⟨x, y, z, rfl⟩
 obtain ⟨y0, y1, y2, y3, hy⟩ : ∃ x y z v, b.zs = [x, y, z, v] := by
  have := hnb.out
  match h : b.zs, this with
  | [x, y, z, v], _ => exact ⟨x, y, z, v, rfl⟩
 have HXA := HIa
 have HXB := HIb
 rw [hx] at HXA HC101
 rw [hy] at HXB HC101
 clear HIa HIb
 obtain ⟨pa, hpa, hpal, x0', x1', x2'⟩ := ri_three (HXA.out _ HB0.out)
 obtain ⟨pb, hpb, hpbl, y0', y1', y2', y3'⟩ := ri_four (HXB.out _ HB0.out)
 rw [hpa] at a0 HA HXA
 rw [hpb] at b0 HB HXB
 clear hpal hpbl
 by_cases hxy : y2 = x2
 case neg =>
  obtain ⟨e0, e1, e2⟩ := HC101.out (by simp; exact hxy)
  have HCD := hide e0
  have HD1 := hide e1
  have HD2 := hide e2
  clear e0 e1 e2 HC101
  have hni : (y2 != x2) = true := by simpa using hxy
  go_quiet (fail)
  clear a0 a1 b0 b1 x0' x1' x2' y0' y1' y2' y3'
  replace HZ := hide (HZ.out.drewN nq)
  replace HB0 := hide (below_drewN HB0.out nq)
  generalize w2.drewN nq = W3 at *
  go_wp2_with fail
  obtain ⟨z0, z1, zf0, zf1, HZf, HFf⟩ := elm_twod HZ.out HB0.out (Nat.le_add_right _ 2) (.slice none 0 0) (.bool false)
  have hs5 : W3.drew.cell? ⟨1, 0, none⟩ = some (errv ah) := (HEs.out.below HB0.out).1
  have hglt : 1 < w.heap.size := HEs.out.2.1
  have hS9 := hide (HEs.out.below HFf.out).1
  go_wp2_with fail
  go_region_held3 (fun W => W.cell? ⟨1, 0, none⟩ = some (errv ah))
   (first | exact hs5 | assumption | exact hS9.out)
   (first | fail)
  go_wp2_with fail
  refine bodyPost_ret (results_desc rfl _ _ (w.heap.size + 2) _ _ rfl HZf.out) rfl ?_
  rw [HD1.out, HD2.out, HCD.out]
  exact DscE.bad rfl HFf.out
 case pos =>
 subst hxy
 have HC102 : Hid ((q0 < 1 ∨ q0 > 16 ∨ q1 < 0 ∨ q1 > 15 ∨ Tens.narrow q2 ≠ q2) → Cv.code [q0, q1, q2] a b = 102 ∧ Cv.shape [q0, q1, q2] a b = [] ∧ Cv.kind [q0, q1, q2] a b = false) := hide (fun h => by
  have h1 : Cv.code [q0, q1, q2] a b = 102 := by
   unfold Cv.code
   rw [if_neg (by simp), if_neg (by rw [HFB.out]; simp), if_neg (by rw [hx, hy, hua.out, hub.out]; simp), if_pos (by exact h)]
  have h2 := Cv.bad (by rw [h1]; decide)
  exact ⟨h1, h2.1, h2.2⟩)
 have HXY := hide (And.intro hx hy)
 have HDA := hide (Shp.whole hka.out).2.1
 have HDB := hide (Shp.whole hkb.out).2.1
 rw [hx] at HDA
 rw [hy] at HDB
 clear hx hy HC101
 go_quiet (fail)
 clear a0 a1 b0 b1 x0' x1' x2' y0' y1' y2' y3' hpa hpb
 replace HZ := hide (HZ.out.drewN nq)
 replace HA := hide (HA.out.drewN nq)
 replace HB := hide (HB.out.drewN nq)
 replace HB0 := hide (below_drewN HB0.out nq)
 generalize w2.drewN nq = W3 at *
 obtain ⟨aq, haq, -, q0', q1', q2'⟩ := ri_three (HQ.out _ HB0.out)
 subst haq
 go_wp2_with fail
 go_quiet (fail)
 clear q0' q1' q2'
 replace HZ := hide (HZ.out.drewN nq)
 replace HA := hide (HA.out.drewN nq)
 replace HB := hide (HB.out.drewN nq)
 replace HB0 := hide (below_drewN HB0.out nq)
 generalize W3.drewN nq = W4 at *
 clear HQ
 by_cases c1 : q0 < 1
 case pos =>
  obtain ⟨e0, e1, e2⟩ := HC102.out (.inl c1)
  have HCD := hide e0
  have HD1 := hide e1
  have HD2 := hide e2
  clear e0 e1 e2 HC102 
  go_wp2_with fail
  obtain ⟨z0, z1, zf0, zf1, HZf, HFf⟩ := elm_twod HZ.out HB0.out (Nat.le_add_right _ 2) (.slice none 0 0) (.bool false)
  have hs5 : W4.drew.cell? ⟨3, 0, none⟩ = some (errv ar) := (HEr.out.below HB0.out).1
  have hglt : 3 < w.heap.size := HEr.out.2.1
  have hS9 := hide (HEr.out.below HFf.out).1
  go_wp2_with fail
  go_region_held3 (fun W => W.cell? ⟨3, 0, none⟩ = some (errv ar))
   (first | exact hs5 | assumption | exact hS9.out)
   (first | fail)
  go_wp2_with fail
  refine bodyPost_ret (results_desc rfl _ _ (w.heap.size + 2) _ _ rfl HZf.out) rfl ?_
  rw [HD1.out, HD2.out, HCD.out]
  exact DscE.bad rfl HFf.out
 case neg =>
 by_cases c2 : q0 > 16
 case pos =>
  obtain ⟨e0, e1, e2⟩ := HC102.out (.inr (.inl c2))
  have HCD := hide e0
  have HD1 := hide e1
  have HD2 := hide e2
  clear e0 e1 e2 HC102 
  go_wp2_with fail
  obtain ⟨z0, z1, zf0, zf1, HZf, HFf⟩ := elm_twod HZ.out HB0.out (Nat.le_add_right _ 2) (.slice none 0 0) (.bool false)
  have hs5 : W4.drew.cell? ⟨3, 0, none⟩ = some (errv ar) := (HEr.out.below HB0.out).1
  have hglt : 3 < w.heap.size := HEr.out.2.1
  have hS9 := hide (HEr.out.below HFf.out).1
  go_wp2_with fail
  go_region_held3 (fun W => W.cell? ⟨3, 0, none⟩ = some (errv ar))
   (first | exact hs5 | assumption | exact hS9.out)
   (first | fail)
  go_wp2_with fail
  refine bodyPost_ret (results_desc rfl _ _ (w.heap.size + 2) _ _ rfl HZf.out) rfl ?_
  rw [HD1.out, HD2.out, HCD.out]
  exact DscE.bad rfl HFf.out
 case neg =>
 by_cases c3 : q1 < 0
 case pos =>
  obtain ⟨e0, e1, e2⟩ := HC102.out (.inr (.inr (.inl c3)))
  have HCD := hide e0
  have HD1 := hide e1
  have HD2 := hide e2
  clear e0 e1 e2 HC102 
  go_wp2_with fail
  obtain ⟨z0, z1, zf0, zf1, HZf, HFf⟩ := elm_twod HZ.out HB0.out (Nat.le_add_right _ 2) (.slice none 0 0) (.bool false)
  have hs5 : W4.drew.cell? ⟨3, 0, none⟩ = some (errv ar) := (HEr.out.below HB0.out).1
  have hglt : 3 < w.heap.size := HEr.out.2.1
  have hS9 := hide (HEr.out.below HFf.out).1
  go_wp2_with fail
  go_region_held3 (fun W => W.cell? ⟨3, 0, none⟩ = some (errv ar))
   (first | exact hs5 | assumption | exact hS9.out)
   (first | fail)
  go_wp2_with fail
  refine bodyPost_ret (results_desc rfl _ _ (w.heap.size + 2) _ _ rfl HZf.out) rfl ?_
  rw [HD1.out, HD2.out, HCD.out]
  exact DscE.bad rfl HFf.out
 case neg =>
 by_cases c4 : q1 > 15
 case pos =>
  obtain ⟨e0, e1, e2⟩ := HC102.out (.inr (.inr (.inr (.inl c4))))
  have HCD := hide e0
  have HD1 := hide e1
  have HD2 := hide e2
  clear e0 e1 e2 HC102 
  go_wp2_with fail
  obtain ⟨z0, z1, zf0, zf1, HZf, HFf⟩ := elm_twod HZ.out HB0.out (Nat.le_add_right _ 2) (.slice none 0 0) (.bool false)
  have hs5 : W4.drew.cell? ⟨3, 0, none⟩ = some (errv ar) := (HEr.out.below HB0.out).1
  have hglt : 3 < w.heap.size := HEr.out.2.1
  have hS9 := hide (HEr.out.below HFf.out).1
  go_wp2_with fail
  go_region_held3 (fun W => W.cell? ⟨3, 0, none⟩ = some (errv ar))
   (first | exact hs5 | assumption | exact hS9.out)
   (first | fail)
  go_wp2_with fail
  refine bodyPost_ret (results_desc rfl _ _ (w.heap.size + 2) _ _ rfl HZf.out) rfl ?_
  rw [HD1.out, HD2.out, HCD.out]
  exact DscE.bad rfl HFf.out
 case neg =>
 go_wp2_with fail
 refine (HNW.out q2 W4).mono ?_
 rintro e wq ⟨rfl, hw⟩
 have hw := hw.symm
 subst hw
 by_cases c5 : Tens.narrow q2 = q2
 case neg =>
  have hz1 : (Tens.narrow q2 != q2) = true := by simpa using c5
  obtain ⟨e0, e1, e2⟩ := HC102.out (.inr (.inr (.inr (.inr c5))))
  have HCD := hide e0
  have HD1 := hide e1
  have HD2 := hide e2
  clear e0 e1 e2 HC102 c5
  go_wp2_with fail
  obtain ⟨z0, z1, zf0, zf1, HZf, HFf⟩ := elm_twod HZ.out HB0.out (Nat.le_add_right _ 2) (.slice none 0 0) (.bool false)
  have hs5 : W4.drew.cell? ⟨3, 0, none⟩ = some (errv ar) := (HEr.out.below HB0.out).1
  have hglt : 3 < w.heap.size := HEr.out.2.1
  have hS9 := hide (HEr.out.below HFf.out).1
  go_wp2_with fail
  go_region_held3 (fun W => W.cell? ⟨3, 0, none⟩ = some (errv ar))
   (first | exact hs5 | assumption | exact hS9.out)
   (first | fail)
  go_wp2_with fail
  refine bodyPost_ret (results_desc rfl _ _ (w.heap.size + 2) _ _ rfl HZf.out) rfl ?_
  rw [HD1.out, HD2.out, HCD.out]
  exact DscE.bad rfl HFf.out
 case pos =>
 have hz1 : (Tens.narrow q2 != q2) = false := by simp [c5]
 go_wp2_with fail
 have HC5 := hide c5
 clear hz1 c5 HC102 HNW
 have HC1 : Hid (¬ (q0 < 1 ∨ q0 > 16 ∨ q1 < 0 ∨ q1 > 15 ∨ Tens.narrow q2 ≠ q2)) := hide (by have := HC5.out; intro h; rcases h with h | h | h | h | h <;> first | omega | exact h this)
 have HC201 : Hid ((y0 > x0 + 2 * q1 ∨ y1 > x1 + 2 * q1) → Cv.code [q0, q1, q2] a b = 101 ∧ Cv.shape [q0, q1, q2] a b = [] ∧ Cv.kind [q0, q1, q2] a b = false) := hide (fun h => by
  have h1 : Cv.code [q0, q1, q2] a b = 101 := by
   unfold Cv.code
   rw [if_neg (by simp), if_neg (by rw [HFB.out]; simp), if_neg (by rw [HXY.out.1, HXY.out.2, hua.out, hub.out]; simp), if_neg (by exact HC1.out), if_pos (by rw [HXY.out.1, HXY.out.2]; exact h)]
  have h2 := Cv.bad (by rw [h1]; decide)
  exact ⟨h1, h2.1, h2.2⟩)
 have HCK : Hid (¬ (y0 > x0 + 2 * q1 ∨ y1 > x1 + 2 * q1) → Cv.code [q0, q1, q2] a b = Shp.code [Cv.reach x0 y0 q0 q1, Cv.reach x1 y1 q0 q1, y3]) := hide (fun h => by
  unfold Cv.code
  rw [if_neg (by simp), if_neg (by rw [HFB.out]; simp), if_neg (by rw [HXY.out.1, HXY.out.2, hua.out, hub.out]; simp), if_neg (by exact HC1.out), if_neg (by rw [HXY.out.1, HXY.out.2]; exact h)]
  unfold Cv.dims
  rw [HXY.out.1, HXY.out.2]
  rfl)
 have HSH : Hid (Cv.code [q0, q1, q2] a b = 0 → Cv.shape [q0, q1, q2] a b = [Cv.reach x0 y0 q0 q1, Cv.reach x1 y1 q0 q1, y3] ∧ Cv.kind [q0, q1, q2] a b = true) := hide (fun h => by
  unfold Cv.shape Cv.kind Cv.dims
  rw [if_pos h, HXY.out.1, HXY.out.2, decide_eq_true h]
  exact ⟨rfl, rfl⟩)
 have HD0 := hide (HDA.out x0 (by simp))
 have HD1' := hide (HDA.out x1 (by simp))
 have HE0 := hide (HDB.out y0 (by simp))
 have HE1' := hide (HDB.out y1 (by simp))
 have HE3 := hide (HDB.out y3 (by simp))
 have Hc : Hid (1 ≤ q0 ∧ q0 ≤ 16 ∧ 0 ≤ q1 ∧ q1 ≤ 15) := hide (by omega)
 clear c1 c2 c3 c4 HDA HDB
 obtain ⟨t1, ht1⟩ : ∃ t, Hid (2 * q1 = t) := ⟨_, hide rfl⟩
 obtain ⟨s0, hs0⟩ : ∃ t, Hid (x0 + t1 = t) := ⟨_, hide rfl⟩
 obtain ⟨s1, hs1⟩ : ∃ t, Hid (x1 + t1 = t) := ⟨_, hide rfl⟩
 have hw1 : IntKind.i64.wrap (2 * q1) = t1 := by have := Hc.out; have := ht1.out; rw [IntKind.wrap_i64]; omega
 have hw2 : IntKind.i64.wrap (x0 + t1) = s0 := by have := Hc.out; have := ht1.out; have := hs0.out; have := HD0.out; rw [IntKind.wrap_i64]; omega
 have hw3 : IntKind.i64.wrap (x1 + t1) = s1 := by have := Hc.out; have := ht1.out; have := hs1.out; have := HD1'.out; rw [IntKind.wrap_i64]; omega
 have a0 : W4.cell? ⟨w.heap.size, 0, none⟩ = some (.slice (some pa) 3 a.cap) := HA.out.cell 0
 have b0 : W4.cell? ⟨w.heap.size + 1, 0, none⟩ = some (.slice (some pb) 4 b.cap) := HB.out.cell 0
 obtain ⟨pa', hpa', hpal, x0', x1', x2'⟩ := ri_three (HXA.out _ HB0.out)
 obtain rfl : pa = pa' := Option.some.inj hpa'
 obtain ⟨pb', hpb', hpbl, y0', y1', y2', y3'⟩ := ri_four (HXB.out _ HB0.out)
 obtain rfl : pb = pb' := Option.some.inj hpb'
 clear hpa' hpb' hpal hpbl
 by_cases d1 : s0 < y0
 case pos =>
  have hd1 : decide (s0 < y0) = true := decide_eq_true d1
  obtain ⟨e0, e1, e2⟩ := HC201.out (.inl (by have := ht1.out; have := hs0.out; omega))
  have HCD := hide e0
  have HD1 := hide e1
  have HD2 := hide e2
  clear e0 e1 e2 HC201 HCK HSH d1
  go_quiet (fail)
  clear a0 b0 x0' x1' x2' y0' y1' y2' y3' hw1 hw2 hw3
  replace HZ := hide (HZ.out.drewN nq)
  replace HB0 := hide (below_drewN HB0.out nq)
  generalize W4.drewN nq = W5 at *
  go_wp2_with fail
  obtain ⟨z0, z1, zf0, zf1, HZf, HFf⟩ := elm_twod HZ.out HB0.out (Nat.le_add_right _ 2) (.slice none 0 0) (.bool false)
  have hs5 : W5.drew.cell? ⟨1, 0, none⟩ = some (errv ah) := (HEs.out.below HB0.out).1
  have hglt : 1 < w.heap.size := HEs.out.2.1
  have hS9 := hide (HEs.out.below HFf.out).1
  go_wp2_with fail
  go_region_held3 (fun W => W.cell? ⟨1, 0, none⟩ = some (errv ah))
   (first | exact hs5 | assumption | exact hS9.out)
   (first | fail)
  go_wp2_with fail
  refine bodyPost_ret (results_desc rfl _ _ (w.heap.size + 2) _ _ rfl HZf.out) rfl ?_
  rw [HD1.out, HD2.out, HCD.out]
  exact DscE.bad rfl HFf.out
 case neg =>
 have hd1 : decide (s0 < y0) = false := decide_eq_false d1
 by_cases d2 : s1 < y1
 case pos =>
  have hd2 : decide (s1 < y1) = true := decide_eq_true d2
  obtain ⟨e0, e1, e2⟩ := HC201.out (.inr (by have := ht1.out; have := hs1.out; omega))
  have HCD := hide e0
  have HD1 := hide e1
  have HD2 := hide e2
  clear e0 e1 e2 HC201 HCK HSH d1 d2
  go_quiet (fail)
  clear a0 b0 x0' x1' x2' y0' y1' y2' y3' hw1 hw2 hw3
  replace HZ := hide (HZ.out.drewN nq)
  replace HB0 := hide (below_drewN HB0.out nq)
  generalize W4.drewN nq = W5 at *
  go_wp2_with fail
  obtain ⟨z0, z1, zf0, zf1, HZf, HFf⟩ := elm_twod HZ.out HB0.out (Nat.le_add_right _ 2) (.slice none 0 0) (.bool false)
  have hs5 : W5.drew.cell? ⟨1, 0, none⟩ = some (errv ah) := (HEs.out.below HB0.out).1
  have hglt : 1 < w.heap.size := HEs.out.2.1
  have hS9 := hide (HEs.out.below HFf.out).1
  go_wp2_with fail
  go_region_held3 (fun W => W.cell? ⟨1, 0, none⟩ = some (errv ah))
   (first | exact hs5 | assumption | exact hS9.out)
   (first | fail)
  go_wp2_with fail
  refine bodyPost_ret (results_desc rfl _ _ (w.heap.size + 2) _ _ rfl HZf.out) rfl ?_
  rw [HD1.out, HD2.out, HCD.out]
  exact DscE.bad rfl HFf.out
 case neg =>
 have hd2 : decide (s1 < y1) = false := decide_eq_false d2
 have HCK2 := hide (HCK.out (by have := ht1.out; have := hs0.out; have := hs1.out; omega))
 have Hy : Hid (y0 ≤ x0 + 2 * q1 ∧ y1 ≤ x1 + 2 * q1) := hide (by have := ht1.out; have := hs0.out; have := hs1.out; omega)
 clear HCK HC201 d1 d2
 go_quiet (fail)
 clear a0 b0 x0' x1' x2' y0' y1' y2' y3' hw1 hw2 hw3 hd1 hd2
 replace HZ := hide (HZ.out.drewN nq)
 replace HA := hide (HA.out.drewN nq)
 replace HB := hide (HB.out.drewN nq)
 replace HB0 := hide (below_drewN HB0.out nq)
 generalize W4.drewN nq = W5 at *
 obtain ⟨oh, hoh⟩ : ∃ t, Hid (Cv.reach x0 y0 q0 q1 = t) := ⟨_, hide rfl⟩
 obtain ⟨ow, how⟩ : ∃ t, Hid (Cv.reach x1 y1 q0 q1 = t) := ⟨_, hide rfl⟩
 have HR1 : Hid (∀ W : World, Calls Tryz.prog 116 #[.int .i64 x0, .int .i64 y0, .int .i64 q0, .int .i64 q1] W fun e w' => e = .returned (.int .i64 oh) ∧ w' = W) := hide (fun W => by
  have := Hc.out
  have := HD0.out
  have := HE0.out
  have := Hy.out
  have h := reach_c x0 y0 q0 q1 W (by omega) (by omega) (by omega) (by omega)
  rw [hoh.out] at h
  exact h)
 have HR2 : Hid (∀ W : World, Calls Tryz.prog 116 #[.int .i64 x1, .int .i64 y1, .int .i64 q0, .int .i64 q1] W fun e w' => e = .returned (.int .i64 ow) ∧ w' = W) := hide (fun W => by
  have := Hc.out
  have := HD1'.out
  have := HE1'.out
  have := Hy.out
  have h := reach_c x1 y1 q0 q1 W (by omega) (by omega) (by omega) (by omega)
  rw [how.out] at h
  exact h)
 have HWF : Hid (∀ q ∈ [oh, ow, y3], (Lit.int .i64 q).wf = true) := hide (by
  have := Hc.out
  have := HD0.out
  have := HE0.out
  have := HD1'.out
  have := HE1'.out
  have := Hy.out
  have h1 := Cv.reach_le x0 y0 q0 q1 (by omega) (by omega) (by omega) (by omega)
  have h2 := Cv.reach_le x1 y1 q0 q1 (by omega) (by omega) (by omega) (by omega)
  have h3 := HE3.out
  rw [hoh.out] at h1
  rw [how.out] at h2
  intro q hq
  simp at hq
  rcases hq with rfl | rfl | rfl
  ·exact wf_i64 _ (by omega)
  ·exact wf_i64 _ (by omega)
  ·exact wf_i64 _ (by omega))
 rw [hoh.out, how.out] at HCK2 HSH
 clear hoh how hs0 hs1 ht1
 have a0 : W5.cell? ⟨w.heap.size, 0, none⟩ = some (.slice (some pa) 3 a.cap) := HA.out.cell 0
 have b0 : W5.cell? ⟨w.heap.size + 1, 0, none⟩ = some (.slice (some pb) 4 b.cap) := HB.out.cell 0
 obtain ⟨pa', hpa', hpal, x0', x1', x2'⟩ := ri_three (HXA.out _ HB0.out)
 obtain rfl : pa = pa' := Option.some.inj hpa'
 obtain ⟨pb', hpb', hpbl, y0', y1', y2', y3'⟩ := ri_four (HXB.out _ HB0.out)
 obtain rfl : pb = pb' := Option.some.inj hpb'
 clear hpa' hpb' hpal hpbl
 go_wp2_with fail
 go_quiet ((go_at_call 116; exact Calls.quiet_of_same (HR1.out _)))
 clear a0 b0 x0' x1' x2' y0' y1' y2' y3'
 replace HZ := hide (HZ.out.drewN nq)
 replace HA := hide (HA.out.drewN nq)
 replace HB := hide (HB.out.drewN nq)
 replace HB0 := hide (below_drewN HB0.out nq)
 generalize W5.drewN nq = W6 at *
 have a0 : W6.cell? ⟨w.heap.size, 0, none⟩ = some (.slice (some pa) 3 a.cap) := HA.out.cell 0
 have b0 : W6.cell? ⟨w.heap.size + 1, 0, none⟩ = some (.slice (some pb) 4 b.cap) := HB.out.cell 0
 obtain ⟨pa', hpa', hpal, x0', x1', x2'⟩ := ri_three (HXA.out _ HB0.out)
 obtain rfl : pa = pa' := Option.some.inj hpa'
 obtain ⟨pb', hpb', hpbl, y0', y1', y2', y3'⟩ := ri_four (HXB.out _ HB0.out)
 obtain rfl : pb = pb' := Option.some.inj hpb'
 clear hpa' hpb' hpal hpbl
 go_wp2_with fail
 go_quiet ((go_at_call 116; exact Calls.quiet_of_same (HR2.out _)))
 clear a0 b0 x0' x1' x2' y0' y1' y2' y3'
 replace HZ := hide (HZ.out.drewN nq)
 replace HA := hide (HA.out.drewN nq)
 replace HB := hide (HB.out.drewN nq)
 replace HB0 := hide (below_drewN HB0.out nq)
 generalize W6.drewN nq = W7 at *
 have a0 : W7.cell? ⟨w.heap.size, 0, none⟩ = some (.slice (some pa) 3 a.cap) := HA.out.cell 0
 have b0 : W7.cell? ⟨w.heap.size + 1, 0, none⟩ = some (.slice (some pb) 4 b.cap) := HB.out.cell 0
 obtain ⟨pa', hpa', hpal, x0', x1', x2'⟩ := ri_three (HXA.out _ HB0.out)
 obtain rfl : pa = pa' := Option.some.inj hpa'
 obtain ⟨pb', hpb', hpbl, y0', y1', y2', y3'⟩ := ri_four (HXB.out _ HB0.out)
 obtain rfl : pb = pb' := Option.some.inj hpb'
 clear hpa' hpb' hpal hpbl
 obtain ⟨W8, hW8⟩ : ∃ W, W = (W7.alloc (.cells #[.int .i64 oh, .int .i64 ow, .int .i64 y3] 3)).alloc (.cells #[.slice (some ⟨W7.heap.size, 0, none⟩) 3 3, .bool true] 24) := ⟨_, rfl⟩
 have hb8 : Below W7.heap.size W7 W8 := by rw [hW8]; exact ((Below.refl _ _).alloc (Nat.le_refl _) _).alloc (by simp) _
 have HD : Hid (Has W8 (W7.heap.size + 1) 24 [.slice (some ⟨W7.heap.size, 0, none⟩) 3 3, .bool true]) := hide (by rw [hW8]; exact box_at _ 24 [.slice (some ⟨W7.heap.size, 0, none⟩) 3 3, .bool true] _ (by simp))
 have HI : Hid (Has W8 W7.heap.size 3 (i64s [oh, ow, y3])) := hide (by rw [hW8]; exact (Has.new W7 3 [.int .i64 oh, .int .i64 ow, .int .i64 y3]).alloc _)
 have HFr : Hid (w.heap.size + 3 ≤ W7.heap.size) := hide (by have := HZ.out.lt; omega)
 replace HZ := hide (HZ.out.below hb8 HZ.out.lt)
 replace HB0 := hide (HB0.out.trans (hb8.mono HB0.out.size))
 have HV := hide (valid_c [oh, ow, y3] (some ⟨W7.heap.size, 0, none⟩) 3 true am ar W8 (HI.out.ri HWF.out) (by simp) (HE2.out _ HB0.out))
 have hkc := Shp.code_is [oh, ow, y3]
 obtain ⟨kc, hkc'⟩ : ∃ k, Hid (Shp.code [oh, ow, y3] = k) := ⟨_, hide rfl⟩
 rw [hkc'.out] at HV hkc HCK2
 have HW8 := hide hW8
 clear hW8 hb8 HA HB
 go_wp2_with fail
 rw [← HW8.out]
 refine HV.out.mono ?_
 rintro e w5 ⟨rfl, hb⟩
 replace HZ := hide (HZ.out.below hb HZ.out.lt)
 replace HD := hide (HD.out.below hb HD.out.lt)
 replace HI := hide (HI.out.below hb HI.out.lt)
 replace HB0 := hide (HB0.out.trans (hb.mono HB0.out.size))
 clear hb HV HW8 a0 b0 x0' x1' x2' y0' y1' y2' y3'
 by_cases h5 : kc = 0
 case neg =>
  obtain ⟨e1, e2⟩ := Cv.bad (by rw [HCK2.out]; exact h5)
  have HD1 := hide e1
  have HD2 := hide e2
  have HCD := HCK2
  have hv := Shp.err_v (am := am) (ar := ar) hkc h5
  have r1 := run_neqerr hv
  have r2 := run_neqguard hv
  have hx : Tens.err ah am ar kc = Shp.err am ar kc := by
   unfold Tens.err
   rw [if_neg (by omega)]
  have HX := hide hx
  clear hv hx e1 e2 hkc h5
  obtain ⟨z0, z1, zf0, zf1, HZf, HFf⟩ := elm_two HZ.out HB0.out (Nat.le_add_right _ 2) (.slice none 0 0) (.bool false)
  go_wp2_with fail
  refine bodyPost_ret (results_desc rfl _ _ (w.heap.size + 2) _ _ rfl HZf.out) rfl ?_
  rw [HD1.out, HD2.out, HCD.out]
  exact DscE.bad (by rw [HX.out]; rfl) HFf.out
 case pos =>
 subst h5
 have hs1 : Shp.err am ar 0 = .nilIface := rfl
 rw [hs1]
 clear hs1 hkc
 have d0 : w5.cell? ⟨W7.heap.size + 1, 0, none⟩ = some (.slice (some ⟨W7.heap.size, 0, none⟩) 3 3) := HD.out.cell 0
 have d1 : w5.cell? ⟨W7.heap.size + 1, 1, none⟩ = some (.bool true) := HD.out.cell 1
 obtain ⟨z0, z1, zf0, zf1, HZf, HFf⟩ := elm_two HZ.out HB0.out (Nat.le_add_right _ 2) (.slice (some ⟨W7.heap.size, 0, none⟩) 3 3) (.bool true)
 have hne0 : W7.heap.size ≠ w.heap.size + 2 := by have := HFr.out; omega
 have HIf := hide ((HI.out.far (p := ⟨w.heap.size + 2, 0, none⟩) hne0 (.slice (some ⟨W7.heap.size, 0, none⟩) 3 3)).far (p := ⟨w.heap.size + 2, 1, none⟩) hne0 (.bool true))
 clear hne0
 go_wp2_with fail
 refine bodyPost_ret (results_desc rfl _ _ (w.heap.size + 2) _ _ rfl HZf.out) rfl ?_
 have h1 := HSH.out HCK2.out
 rw [h1.1, h1.2, HCK2.out]
 refine ⟨⟨⟨some ⟨W7.heap.size, 0, none⟩, [oh, ow, y3], 3, true⟩, rfl, ⟨HIf.out.ri HWF.out, by simp⟩, (fun ad h => ?_), rfl, rfl⟩, HFf.out⟩
 have h2 := HFr.out
 have h3 : ⟨W7.heap.size, 0, none⟩ = ad := Option.some.inj h
 subst h3
 show w.heap.size + 1 ≤ W7.heap.size
 omega
end Go.Proofs.YtgdcfjmpjhlndaaGreatDoor
