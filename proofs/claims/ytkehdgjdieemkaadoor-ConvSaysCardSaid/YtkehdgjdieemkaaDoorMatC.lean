/-
  mat.Result, walked. By an AI agent. No person has read it.
-/
import Derived.Test.YtkehdgjdieemkaaDoorCelC
import Derived.Test.YtkehdgjdieemkaaDoorMatSpec
import Derived.Deep.RegionLaw
import Derived.RegionTactic
import Derived.ChangeAlike
import Derived.BigRegion
namespace Go.Proofs.YtkehdgjdieemkaaDoor
open Go.RowKit

/-- What is amiss with a product: the error's number. -/
def Mat.code (za zb : Int) (a b : Dsc) : Nat :=
  if Shp.firstbad [a, b] ≠ 0 then Shp.firstbad [a, b] else if a.u = true ∨ b.u = true ∨ a.zs.length ≠ 2 ∨ b.zs.length ≠ 2 ∨ a.zs.getD 1 0 ≠ b.zs.getD 0 0 then 101
  else if Tens.narrow za ≠ za ∨ Tens.narrow zb ≠ zb then 102 else Shp.code [a.zs.getD 0 0, b.zs.getD 1 0]
def Mat.shape (za zb : Int) (a b : Dsc) : List Int := if Mat.code za zb a b = 0 then [a.zs.getD 0 0, b.zs.getD 1 0] else []
def Mat.kind (za zb : Int) (a b : Dsc) : Bool := decide (Mat.code za zb a b = 0)
theorem Mat.bad {za zb : Int} {a b : Dsc} (h : Mat.code za zb a b ≠ 0) : Mat.shape za zb a b = [] ∧ Mat.kind za zb a b = false := by
  unfold Mat.shape Mat.kind
  rw [if_neg h]
  exact ⟨rfl, decide_eq_false h⟩
theorem Mat.code_known (za zb : Int) (a b : Dsc) : Cel.known (Mat.code za zb a b) := by
  unfold Mat.code
  split
  · exact Cel.known_bad _
  split
  · exact .inr (.inl rfl)
  split
  · exact .inr (.inr (.inl rfl))
  · exact Cel.known_shp _
set_option maxRecDepth 100000 in
set_option maxHeartbeats 8000000 in
theorem mresult_c (za zb : Int) (a b : Dsc) (ah am ar : Addr) (w : World) (ha : a.In w) (hb : b.In w) (hE : E3 w ah am ar) :
    Calls Tryd.prog 17 #[.int .i64 za, .int .i64 zb, .agg (dcells a.P a.zs.length a.cap a.u), .agg (dcells b.P b.zs.length b.cap b.u)] w (DscE w ah am ar (Mat.shape za zb a b) (Mat.kind za zb a b) (Mat.code za zb a b)) := by
  have HVa := hide (fun W (h : Below w.heap.size w W) => valid_c a.zs a.P a.cap a.u am ar W (ha.shp.below h) (by have := ha.ls; omega) (hE.2.below h))
  have HVb := hide (fun W (h : Below w.heap.size w W) => valid_c b.zs b.P b.cap b.u am ar W (hb.shp.below h) (by have := hb.ls; omega) (hE.2.below h))
  obtain ⟨W0, hW0⟩ : ∃ W, W = ((((w.alloc (.cells #[.slice a.P a.zs.length a.cap, .bool a.u] 24)).alloc (.cells #[.slice b.P b.zs.length b.cap, .bool b.u] 24)).alloc (.cells #[.slice none 0 0, .bool false] 24)).alloc (.cells #[.slice a.P a.zs.length a.cap, .bool a.u, .slice b.P b.zs.length b.cap, .bool b.u] 24)) := ⟨_, rfl⟩
  have HA : Hid (Has W0 w.heap.size 24 [.slice a.P a.zs.length a.cap, .bool a.u]) := hide (by rw [hW0]; exact (((Has.new w 24 _).alloc _).alloc _).alloc _)
  have HB : Hid (Has W0 (w.heap.size + 1) 24 [.slice b.P b.zs.length b.cap, .bool b.u]) := hide (by rw [hW0]; exact ((box_at _ _ _ _ (by simp)).alloc _).alloc _)
  have HZ : Hid (Has W0 (w.heap.size + 2) 24 [.slice none 0 0, .bool false]) := hide (by rw [hW0]; exact (box_at _ _ _ _ (by simp)).alloc _)
  have HS : Hid (Has W0 (w.heap.size + 3) 24 [.slice a.P a.zs.length a.cap, .bool a.u, .slice b.P b.zs.length b.cap, .bool b.u]) := hide (by rw [hW0]; exact box_at _ _ _ _ (by simp))
  have HB0 : Hid (Below w.heap.size w W0) := hide (by rw [hW0]; exact ((((Below.refl _ _).alloc (Nat.le_refl _) _).alloc (by simp) _).alloc (by simp; omega) _).alloc (by simp; omega) _)
  have HW := hide hW0
  have HE2 := hide (fun W (h : Below w.heap.size w W) => hE.2.below h)
  have HEs := hide hE.1
  have HEr := hide hE.2.2
  have HIa := hide (fun W (h : Below w.heap.size w W) => ha.shp.below h)
  have HIb := hide (fun W (h : Below w.heap.size w W) => hb.shp.below h)
  have hka' := Shp.code_is a.zs
  have hkb' := Shp.code_is b.zs
  go_enter Tryd.func17, Tryd.ntmps17
  go_wp2_with fail
  rw [← HW.out]
  refine wp_loop_rounds 4 ?_
  rw [rounds_succ]
  clear ha hb hE HW hW0
  obtain ⟨ka, hka⟩ : ∃ k, Hid (Shp.code a.zs = k) := ⟨_, hide rfl⟩
  obtain ⟨kb, hkb⟩ : ∃ k, Hid (Shp.code b.zs = k) := ⟨_, hide rfl⟩
  rw [hka.out] at HVa hka'
  rw [hkb.out] at HVb hkb'
  have c0 : W0.cell? ⟨w.heap.size + 3, 0, none⟩ = some (.slice a.P a.zs.length a.cap) := HS.out.cell 0
  have c1 : W0.cell? ⟨w.heap.size + 3, 1, none⟩ = some (.bool a.u) := HS.out.cell 1
  have hbx : Below W0.heap.size W0 (W0.alloc (.cells #[.slice a.P a.zs.length a.cap, .bool a.u] 24)) := (Below.refl _ _).alloc (Nat.le_refl _) _
  have HBx := hide (HB0.out.trans (hbx.mono HB0.out.size))
  have HAx := hide (HA.out.below hbx HA.out.lt)
  have HBBx := hide (HB.out.below hbx HB.out.lt)
  have HZx := hide (HZ.out.below hbx HZ.out.lt)
  have HSx := hide (HS.out.below hbx HS.out.lt)
  clear hbx HB0 HA HB HZ HS
  go_wp2_with fail
  refine (HVa.out _ HBx.out).mono ?_
  rintro e w1 ⟨rfl, hb⟩
  have HB0 := hide (HBx.out.trans (hb.mono HBx.out.size))
  have HA := hide (HAx.out.below hb HAx.out.lt)
  have HB := hide (HBBx.out.below hb HBBx.out.lt)
  have HZ := hide (HZx.out.below hb HZx.out.lt)
  have HS := hide (HSx.out.below hb HSx.out.lt)
  clear hb HBx HAx HBBx HZx HSx c0 c1
  by_cases h1 : ka = 0
  case neg =>
    have hcd : Mat.code za zb a b = ka := by
      have : Shp.firstbad [a, b] = ka := by unfold Shp.firstbad; rw [if_neg (by rw [hka.out]; exact h1)]; exact hka.out
      unfold Mat.code
      rw [this, if_pos h1]
    obtain ⟨e1, e2⟩ := Mat.bad (by rw [hcd]; exact h1)
    have HD1 := hide e1
    have HD2 := hide e2
    have HCD := hide hcd
    have hv := Shp.err_v (am := am) (ar := ar) hka' h1
    have r1 := run_neqerr hv
    have r2 := run_neqguard hv
    have hx : Tens.err ah am ar ka = Shp.err am ar ka := by
      unfold Tens.err
      rw [if_neg (by omega)]
    have HX := hide hx
    clear hv hx hcd e1 e2 hka' hkb' h1
    obtain ⟨z0, z1, zf0, zf1, HZf, HFf⟩ := elm_two HZ.out HB0.out (Nat.le_add_right _ 2) (.slice none 0 0) (.bool false)
    go_wp2_with fail
    refine bodyPost_ret (results_desc rfl _ _ (w.heap.size + 2) _ _ rfl HZf.out) rfl ?_
    rw [HD1.out, HD2.out, HCD.out]
    exact DscE.bad (by rw [HX.out]; rfl) HFf.out
  case pos =>
  subst h1
  have hs1 : Shp.err am ar 0 = .nilIface := rfl
  rw [hs1]
  clear hs1 hka'
  go_wp2_with fail
  rw [rounds_succ]
  have c2 : w1.cell? ⟨w.heap.size + 3, 2, none⟩ = some (.slice b.P b.zs.length b.cap) := HS.out.cell 2
  have c3 : w1.cell? ⟨w.heap.size + 3, 3, none⟩ = some (.bool b.u) := HS.out.cell 3
  have hbx : Below w1.heap.size w1 (w1.alloc (.cells #[.slice b.P b.zs.length b.cap, .bool b.u] 24)) := (Below.refl _ _).alloc (Nat.le_refl _) _
  have HBx := hide (HB0.out.trans (hbx.mono HB0.out.size))
  have HAx := hide (HA.out.below hbx HA.out.lt)
  have HBBx := hide (HB.out.below hbx HB.out.lt)
  have HZx := hide (HZ.out.below hbx HZ.out.lt)
  have HSx := hide (HS.out.below hbx HS.out.lt)
  clear hbx HB0 HA HB HZ HS
  go_wp2_with fail
  refine (HVb.out _ HBx.out).mono ?_
  rintro e w2 ⟨rfl, hb⟩
  have HB0 := hide (HBx.out.trans (hb.mono HBx.out.size))
  have HA := hide (HAx.out.below hb HAx.out.lt)
  have HB := hide (HBBx.out.below hb HBBx.out.lt)
  have HZ := hide (HZx.out.below hb HZx.out.lt)
  have HS := hide (HSx.out.below hb HSx.out.lt)
  clear hb HBx HAx HBBx HZx HSx c2 c3
  by_cases h2 : kb = 0
  case neg =>
    have hcd : Mat.code za zb a b = kb := by
      have : Shp.firstbad [a, b] = kb := by unfold Shp.firstbad; rw [if_pos hka.out]; unfold Shp.firstbad; rw [if_neg (by rw [hkb.out]; exact h2)]; exact hkb.out
      unfold Mat.code
      rw [this, if_pos h2]
    obtain ⟨e1, e2⟩ := Mat.bad (by rw [hcd]; exact h2)
    have HD1 := hide e1
    have HD2 := hide e2
    have HCD := hide hcd
    have hv := Shp.err_v (am := am) (ar := ar) hkb' h2
    have r1 := run_neqerr hv
    have r2 := run_neqguard hv
    have hx : Tens.err ah am ar kb = Shp.err am ar kb := by
      unfold Tens.err
      rw [if_neg (by omega)]
    have HX := hide hx
    clear hv hx hcd e1 e2 hkb' h2
    obtain ⟨z0, z1, zf0, zf1, HZf, HFf⟩ := elm_two HZ.out HB0.out (Nat.le_add_right _ 2) (.slice none 0 0) (.bool false)
    go_wp2_with fail
    refine bodyPost_ret (results_desc rfl _ _ (w.heap.size + 2) _ _ rfl HZf.out) rfl ?_
    rw [HD1.out, HD2.out, HCD.out]
    exact DscE.bad (by rw [HX.out]; rfl) HFf.out
  case pos =>
  subst h2
  have hs1 : Shp.err am ar 0 = .nilIface := rfl
  rw [hs1]
  clear hs1 hkb'
  go_wp2_with fail
  rw [rounds_succ]
  go_wp2_with fail
  have hfb : Shp.firstbad [a, b] = 0 := by unfold Shp.firstbad; rw [if_pos hka.out]; unfold Shp.firstbad; rw [if_pos hkb.out]; rfl
  have HFB := hide hfb
  clear hfb
  have hcode : ∀ k, (¬ (a.u = true ∨ b.u = true ∨ a.zs.length ≠ 2 ∨ b.zs.length ≠ 2 ∨ a.zs.getD 1 0 ≠ b.zs.getD 0 0) → False) → k = 101 → Mat.code za zb a b = k := fun k h hk => by
    unfold Mat.code
    rw [if_neg (by rw [HFB.out]; simp), if_pos (Classical.byContradiction h), hk]
  have HC101 : Hid (¬ (¬ (a.u = true ∨ b.u = true ∨ a.zs.length ≠ 2 ∨ b.zs.length ≠ 2 ∨ a.zs.getD 1 0 ≠ b.zs.getD 0 0)) → Mat.code za zb a b = 101 ∧ Mat.shape za zb a b = [] ∧ Mat.kind za zb a b = false) := hide (fun h => by
    have h1 := hcode 101 h rfl
    have h2 := Mat.bad (by rw [h1]; decide)
    exact ⟨h1, h2.1, h2.2⟩)
  clear hcode
  obtain ⟨na, hna⟩ : ∃ n, Hid (a.zs.length = n) := ⟨_, hide rfl⟩
  obtain ⟨nb, hnb⟩ : ∃ n, Hid (b.zs.length = n) := ⟨_, hide rfl⟩
  rw [hna.out, hnb.out] at HC101 HS
  rw [hna.out] at HA
  rw [hnb.out] at HB
  obtain ⟨ua, hua⟩ : ∃ n, Hid (a.u = n) := ⟨_, hide rfl⟩
  obtain ⟨ub, hub⟩ : ∃ n, Hid (b.u = n) := ⟨_, hide rfl⟩
  rw [hua.out, hub.out] at HC101 HS
  rw [hua.out] at HA
  rw [hub.out] at HB
  have a0 : w2.cell? ⟨w.heap.size, 0, none⟩ = some (.slice a.P na a.cap) := HA.out.cell 0
  have a1 : w2.cell? ⟨w.heap.size, 1, none⟩ = some (.bool ua) := HA.out.cell 1
  have b0 : w2.cell? ⟨w.heap.size + 1, 0, none⟩ = some (.slice b.P nb b.cap) := HB.out.cell 0
  have b1 : w2.cell? ⟨w.heap.size + 1, 1, none⟩ = some (.bool ub) := HB.out.cell 1
  have HNW := hide (fun n => narrow_c n)
  clear HS
  cases ua
  case true =>
    obtain ⟨e0, e1, e2⟩ := HC101.out (by simp)
    have HCD := hide e0
    have HD1 := hide e1
    have HD2 := hide e2
    clear e0 e1 e2 HC101
    go_quiet (fail)
    clear a0 a1 b0 b1
    replace HZ := hide (HZ.out.drewN nq)
    replace HB0 := hide (below_drewN HB0.out nq)
    generalize w2.drewN nq = W3 at *
    go_wp2_with fail
    obtain ⟨z0, z1, zf0, zf1, HZf, HFf⟩ := elm_twod HZ.out HB0.out (Nat.le_add_right _ 2) (.slice none 0 0) (.bool false)
    have hs5 : W3.drew.cell? ⟨0, 0, none⟩ = some (errv ah) := (HEs.out.below HB0.out).1
    have hglt : 0 < w.heap.size := HEs.out.2.1
    have hS9 := hide (HEs.out.below HFf.out).1
    go_wp2_with fail
    go_region_held3 (fun W => W.cell? ⟨0, 0, none⟩ = some (errv ah))
      (first | exact hs5 | assumption | exact hS9.out)
      (first | fail)
    go_wp2_with fail
    refine bodyPost_ret (results_desc rfl _ _ (w.heap.size + 2) _ _ rfl HZf.out) rfl ?_
    rw [HD1.out, HD2.out, HCD.out]
    exact DscE.bad rfl HFf.out
  case false =>
  cases ub
  case true =>
    obtain ⟨e0, e1, e2⟩ := HC101.out (by simp)
    have HCD := hide e0
    have HD1 := hide e1
    have HD2 := hide e2
    clear e0 e1 e2 HC101
    go_quiet (fail)
    clear a0 a1 b0 b1
    replace HZ := hide (HZ.out.drewN nq)
    replace HB0 := hide (below_drewN HB0.out nq)
    generalize w2.drewN nq = W3 at *
    go_wp2_with fail
    obtain ⟨z0, z1, zf0, zf1, HZf, HFf⟩ := elm_twod HZ.out HB0.out (Nat.le_add_right _ 2) (.slice none 0 0) (.bool false)
    have hs5 : W3.drew.cell? ⟨0, 0, none⟩ = some (errv ah) := (HEs.out.below HB0.out).1
    have hglt : 0 < w.heap.size := HEs.out.2.1
    have hS9 := hide (HEs.out.below HFf.out).1
    go_wp2_with fail
    go_region_held3 (fun W => W.cell? ⟨0, 0, none⟩ = some (errv ah))
      (first | exact hs5 | assumption | exact hS9.out)
      (first | fail)
    go_wp2_with fail
    refine bodyPost_ret (results_desc rfl _ _ (w.heap.size + 2) _ _ rfl HZf.out) rfl ?_
    rw [HD1.out, HD2.out, HCD.out]
    exact DscE.bad rfl HFf.out
  case false =>
  by_cases hn2 : na = 2
  case neg =>
    obtain ⟨e0, e1, e2⟩ := HC101.out (by simp; omega)
    have HCD := hide e0
    have HD1 := hide e1
    have HD2 := hide e2
    clear e0 e1 e2 HC101
    have hni : ((na : Int) != 2) = true := by simp; omega
    go_quiet (fail)
    clear a0 a1 b0 b1
    replace HZ := hide (HZ.out.drewN nq)
    replace HB0 := hide (below_drewN HB0.out nq)
    generalize w2.drewN nq = W3 at *
    go_wp2_with fail
    obtain ⟨z0, z1, zf0, zf1, HZf, HFf⟩ := elm_twod HZ.out HB0.out (Nat.le_add_right _ 2) (.slice none 0 0) (.bool false)
    have hs5 : W3.drew.cell? ⟨0, 0, none⟩ = some (errv ah) := (HEs.out.below HB0.out).1
    have hglt : 0 < w.heap.size := HEs.out.2.1
    have hS9 := hide (HEs.out.below HFf.out).1
    go_wp2_with fail
    go_region_held3 (fun W => W.cell? ⟨0, 0, none⟩ = some (errv ah))
      (first | exact hs5 | assumption | exact hS9.out)
      (first | fail)
    go_wp2_with fail
    refine bodyPost_ret (results_desc rfl _ _ (w.heap.size + 2) _ _ rfl HZf.out) rfl ?_
    rw [HD1.out, HD2.out, HCD.out]
    exact DscE.bad rfl HFf.out
  case pos =>
  subst hn2
  by_cases hn3 : nb = 2
  case neg =>
    obtain ⟨e0, e1, e2⟩ := HC101.out (by simp; omega)
    have HCD := hide e0
    have HD1 := hide e1
    have HD2 := hide e2
    clear e0 e1 e2 HC101
    have hni : ((nb : Int) != 2) = true := by simp; omega
    go_quiet (fail)
    clear a0 a1 b0 b1
    replace HZ := hide (HZ.out.drewN nq)
    replace HB0 := hide (below_drewN HB0.out nq)
    generalize w2.drewN nq = W3 at *
    go_wp2_with fail
    obtain ⟨z0, z1, zf0, zf1, HZf, HFf⟩ := elm_twod HZ.out HB0.out (Nat.le_add_right _ 2) (.slice none 0 0) (.bool false)
    have hs5 : W3.drew.cell? ⟨0, 0, none⟩ = some (errv ah) := (HEs.out.below HB0.out).1
    have hglt : 0 < w.heap.size := HEs.out.2.1
    have hS9 := hide (HEs.out.below HFf.out).1
    go_wp2_with fail
    go_region_held3 (fun W => W.cell? ⟨0, 0, none⟩ = some (errv ah))
      (first | exact hs5 | assumption | exact hS9.out)
      (first | fail)
    go_wp2_with fail
    refine bodyPost_ret (results_desc rfl _ _ (w.heap.size + 2) _ _ rfl HZf.out) rfl ?_
    rw [HD1.out, HD2.out, HCD.out]
    exact DscE.bad rfl HFf.out
  case pos =>
  subst hn3
  obtain ⟨x0, x1, hx⟩ : ∃ x y, a.zs = [x, y] := by
    have := hna.out
    match h : a.zs, this with
    | [x, y], _ => exact ⟨x, y, rfl⟩
  obtain ⟨y0, y1, hy⟩ : ∃ x y, b.zs = [x, y] := by
    have := hnb.out
    match h : b.zs, this with
    | [x, y], _ => exact ⟨x, y, rfl⟩
  have hra := HIa.out w2 HB0.out
  have hrb := HIb.out w2 HB0.out
  rw [hx] at hra HC101
  rw [hy] at hrb HC101
  obtain ⟨pa, hpa, p0, p1⟩ := ri_pair hra
  have hpl1 : pa.block < w2.heap.size := by obtain ⟨ad, h1, h2, -⟩ := hra.2 (by simp); rw [hpa] at h1; rw [Option.some.inj h1]; exact h2
  obtain ⟨pb, hpb, q0, q1⟩ := ri_pair hrb
  have hpl2 : pb.block < w2.heap.size := by obtain ⟨ad, h1, h2, -⟩ := hrb.2 (by simp); rw [hpb] at h1; rw [Option.some.inj h1]; exact h2
  rw [hpa] at a0 HA
  rw [hpb] at b0 HB
  by_cases hxy : x1 = y0
  case neg =>
    obtain ⟨e0, e1, e2⟩ := HC101.out (by simp; exact hxy)
    have HCD := hide e0
    have HD1 := hide e1
    have HD2 := hide e2
    clear e0 e1 e2 HC101
    have hni : (x1 != y0) = true := by simpa using hxy
    go_quiet (fail)
    clear a0 a1 b0 b1 p0 p1 q0 q1
    replace HZ := hide (HZ.out.drewN nq)
    replace HB0 := hide (below_drewN HB0.out nq)
    generalize w2.drewN nq = W3 at *
    go_wp2_with fail
    obtain ⟨z0, z1, zf0, zf1, HZf, HFf⟩ := elm_twod HZ.out HB0.out (Nat.le_add_right _ 2) (.slice none 0 0) (.bool false)
    have hs5 : W3.drew.cell? ⟨0, 0, none⟩ = some (errv ah) := (HEs.out.below HB0.out).1
    have hglt : 0 < w.heap.size := HEs.out.2.1
    have hS9 := hide (HEs.out.below HFf.out).1
    go_wp2_with fail
    go_region_held3 (fun W => W.cell? ⟨0, 0, none⟩ = some (errv ah))
      (first | exact hs5 | assumption | exact hS9.out)
      (first | fail)
    go_wp2_with fail
    refine bodyPost_ret (results_desc rfl _ _ (w.heap.size + 2) _ _ rfl HZf.out) rfl ?_
    rw [HD1.out, HD2.out, HCD.out]
    exact DscE.bad rfl HFf.out
  case pos =>
  subst hxy
  have HC102 : Hid ((Tens.narrow za ≠ za ∨ Tens.narrow zb ≠ zb) → Mat.code za zb a b = 102 ∧ Mat.shape za zb a b = [] ∧ Mat.kind za zb a b = false) := hide (fun h => by
    have h1 : Mat.code za zb a b = 102 := by
      unfold Mat.code
      rw [if_neg (by rw [HFB.out]; simp), if_neg (by rw [hx, hy, hua.out, hub.out]; simp), if_pos h]
    have h2 := Mat.bad (by rw [h1]; decide)
    exact ⟨h1, h2.1, h2.2⟩)
  have HXY := hide (And.intro hx hy)
  have HWF : Hid (∀ q ∈ [x0, y1], (Lit.int .i64 q).wf = true) := hide (by
    intro q hq
    simp at hq
    rcases hq with rfl | rfl
    · exact hra.1 _ (by simp)
    · exact hrb.1 _ (by simp))
  clear hra hrb hx hy HC101
  go_quiet (fail)
  have p0' : (w2.drewN nq).cell? pa = _ := p0
  have q1' : (w2.drewN nq).cell? ⟨pb.block, pb.off + 1, none⟩ = _ := q1
  have hpal : pa.block < (w2.drewN nq).heap.size := hpl1
  have hpbl : pb.block < (w2.drewN nq).heap.size := hpl2
  clear hpl1 hpl2
  clear a0 a1 b0 b1 p0 p1 q0 q1
  replace HZ := hide (HZ.out.drewN nq)
  replace HA := hide (HA.out.drewN nq)
  replace HB := hide (HB.out.drewN nq)
  replace HB0 := hide (below_drewN HB0.out nq)
  generalize w2.drewN nq = W3 at *
  go_wp2_with fail
  refine (HNW.out za W3).mono ?_
  rintro e wq ⟨rfl, hw⟩
  have hw := hw.symm
  subst hw
  by_cases hza : Tens.narrow za = za
  case neg =>
    have hz1 : (Tens.narrow za != za) = true := by simpa using hza
    obtain ⟨e0, e1, e2⟩ := HC102.out (.inl hza)
    have HCD := hide e0
    have HD1 := hide e1
    have HD2 := hide e2
    clear e0 e1 e2 HC102 hza
    go_wp2_with fail
    obtain ⟨z0, z1, zf0, zf1, HZf, HFf⟩ := elm_twod HZ.out HB0.out (Nat.le_add_right _ 2) (.slice none 0 0) (.bool false)
    have hs5 : W3.drew.cell? ⟨1, 0, none⟩ = some (errv ar) := (HEr.out.below HB0.out).1
    have hglt : 1 < w.heap.size := HEr.out.2.1
    have hS9 := hide (HEr.out.below HFf.out).1
    go_wp2_with fail
    go_region_held3 (fun W => W.cell? ⟨1, 0, none⟩ = some (errv ar))
      (first | exact hs5 | assumption | exact hS9.out)
      (first | fail)
    go_wp2_with fail
    refine bodyPost_ret (results_desc rfl _ _ (w.heap.size + 2) _ _ rfl HZf.out) rfl ?_
    rw [HD1.out, HD2.out, HCD.out]
    exact DscE.bad rfl HFf.out
  case pos =>
  have hz1 : (Tens.narrow za != za) = false := by simp [hza]
  go_wp2_with fail
  refine (HNW.out zb W3).mono ?_
  rintro e wq ⟨rfl, hw⟩
  have hw := hw.symm
  subst hw
  by_cases hzb : Tens.narrow zb = zb
  case neg =>
    have hz2 : (Tens.narrow zb != zb) = true := by simpa using hzb
    obtain ⟨e0, e1, e2⟩ := HC102.out (.inr hzb)
    have HCD := hide e0
    have HD1 := hide e1
    have HD2 := hide e2
    clear e0 e1 e2 HC102 hza hzb
    go_wp2_with fail
    obtain ⟨z0, z1, zf0, zf1, HZf, HFf⟩ := elm_twod HZ.out HB0.out (Nat.le_add_right _ 2) (.slice none 0 0) (.bool false)
    have hs5 : W3.drew.cell? ⟨1, 0, none⟩ = some (errv ar) := (HEr.out.below HB0.out).1
    have hglt : 1 < w.heap.size := HEr.out.2.1
    have hS9 := hide (HEr.out.below HFf.out).1
    go_wp2_with fail
    go_region_held3 (fun W => W.cell? ⟨1, 0, none⟩ = some (errv ar))
      (first | exact hs5 | assumption | exact hS9.out)
      (first | fail)
    go_wp2_with fail
    refine bodyPost_ret (results_desc rfl _ _ (w.heap.size + 2) _ _ rfl HZf.out) rfl ?_
    rw [HD1.out, HD2.out, HCD.out]
    exact DscE.bad rfl HFf.out
  case pos =>
  have hz2 : (Tens.narrow zb != zb) = false := by simp [hzb]
  go_wp2_with fail
  have a0 : W3.cell? ⟨w.heap.size, 0, none⟩ = some (.slice (some pa) 2 a.cap) := HA.out.cell 0
  have b0 : W3.cell? ⟨w.heap.size + 1, 0, none⟩ = some (.slice (some pb) 2 b.cap) := HB.out.cell 0
  have hbz : Below W3.heap.size W3 (W3.alloc (.cells #[.slice none 0 0, .bool false] 24)) := (Below.refl _ _).alloc (Nat.le_refl _) _
  have a0z : (W3.alloc (.cells #[.slice none 0 0, .bool false] 24)).cell? ⟨w.heap.size, 0, none⟩ = some (.slice (some pa) 2 a.cap) := (hbz.cell (p := ⟨w.heap.size, 0, none⟩) HA.out.lt).trans a0
  have b0z : (W3.alloc (.cells #[.slice none 0 0, .bool false] 24)).cell? ⟨w.heap.size + 1, 0, none⟩ = some (.slice (some pb) 2 b.cap) := (hbz.cell (p := ⟨w.heap.size + 1, 0, none⟩) HB.out.lt).trans b0
  have p0z : (W3.alloc (.cells #[.slice none 0 0, .bool false] 24)).cell? pa = some (.int .i64 x0) := (hbz.cell hpal).trans p0'
  have q1z : (W3.alloc (.cells #[.slice none 0 0, .bool false] 24)).cell? ⟨pb.block, pb.off + 1, none⟩ = some (.int .i64 y1) := (hbz.cell (p := ⟨pb.block, pb.off + 1, none⟩) hpbl).trans q1'
  have HCK : Hid (Mat.code za zb a b = Shp.code [x0, y1]) := hide (by
    unfold Mat.code
    rw [if_neg (by rw [HFB.out]; simp), if_neg (by rw [HXY.out.1, HXY.out.2, hua.out, hub.out]; simp), if_neg (by rw [hza, hzb]; simp), HXY.out.1, HXY.out.2]
    rfl)
  have HSH : Hid (Mat.code za zb a b = 0 → Mat.shape za zb a b = [x0, y1] ∧ Mat.kind za zb a b = true) := hide (fun h => by
    unfold Mat.shape Mat.kind
    rw [if_pos h, HXY.out.1, HXY.out.2, decide_eq_true h]
    exact ⟨rfl, rfl⟩)
  have HE2' := hide (fun W (h : Below w.heap.size w W) => HE2.out W h)
  clear hbz hza hzb hz1 hz2 HC102 HNW
  go_region
  · obtain ⟨W4, hW4⟩ : ∃ W, W = ((W3.alloc (.cells #[.int .i64 x0, .int .i64 y1] 3)).alloc (.cells #[.slice (some ⟨W3.heap.size, 0, none⟩) 2 2, .bool true] 24)).drew := ⟨_, rfl⟩
    have hb4 : Below W3.heap.size W3 W4 := by rw [hW4]; exact (((Below.refl _ _).alloc (Nat.le_refl _) _).alloc (by simp) _).drew
    have HD : Hid (Has W4 (W3.heap.size + 1) 24 [.slice (some ⟨W3.heap.size, 0, none⟩) 2 2, .bool true]) := hide (by rw [hW4]; exact Has.drewN (box_at _ 24 [.slice (some ⟨W3.heap.size, 0, none⟩) 2 2, .bool true] _ (by simp)) 1)
    have HI : Hid (Has W4 (W3.heap.size) 3 (i64s [x0, y1])) := hide (by rw [hW4]; exact Has.drewN ((Has.new W3 3 [.int .i64 x0, .int .i64 y1]).alloc _) 1)
    have HFr : Hid (w.heap.size + 3 ≤ W3.heap.size) := hide (by have := HA.out.lt; have := HZ.out.lt; omega)
    replace HZ := hide (HZ.out.below hb4 HZ.out.lt)
    replace HB0 := hide (HB0.out.trans (hb4.mono HB0.out.size))
    rw [← hW4]
    have d0 : W4.cell? ⟨W3.heap.size + 1, 0, none⟩ = some (.slice (some ⟨W3.heap.size, 0, none⟩) 2 2) := HD.out.cell 0
    have d1 : W4.cell? ⟨W3.heap.size + 1, 1, none⟩ = some (.bool true) := HD.out.cell 1
    have HV := hide (valid_c [x0, y1] (some ⟨W3.heap.size, 0, none⟩) 2 true am ar W4 (HI.out.ri HWF.out) (by simp) (HE2'.out _ HB0.out))
    have hkc := Shp.code_is [x0, y1]
    obtain ⟨kc, hkc'⟩ : ∃ k, Hid (Shp.code [x0, y1] = k) := ⟨_, hide rfl⟩
    rw [hkc'.out] at HV hkc HCK
    clear hW4 hb4 a0 b0 a0z b0z p0z q1z p0' q1' hpal hpbl HA HB
    go_wp2_with fail
    refine HV.out.mono ?_
    rintro e w5 ⟨rfl, hb⟩
    replace HZ := hide (HZ.out.below hb HZ.out.lt)
    replace HD := hide (HD.out.below hb HD.out.lt)
    replace HI := hide (HI.out.below hb HI.out.lt)
    replace HB0 := hide (HB0.out.trans (hb.mono HB0.out.size))
    clear d0 d1 hb HV
    by_cases h5 : kc = 0
    case neg =>
      obtain ⟨e1, e2⟩ := Mat.bad (by rw [HCK.out]; exact h5)
      have HD1 := hide e1
      have HD2 := hide e2
      have HCD := HCK
      have hv := Shp.err_v (am := am) (ar := ar) hkc h5
      have r1 := run_neqerr hv
      have r2 := run_neqguard hv
      have hx : Tens.err ah am ar kc = Shp.err am ar kc := by
        unfold Tens.err
        rw [if_neg (by omega)]
      have HX := hide hx
      clear hv hx e1 e2 hkc h5
      obtain ⟨z0, z1, zf0, zf1, HZf, HFf⟩ := elm_two HZ.out HB0.out (Nat.le_add_right _ 2) (.slice none 0 0) (.bool false)
      go_wp2_with fail
      refine bodyPost_ret (results_desc rfl _ _ (w.heap.size + 2) _ _ rfl HZf.out) rfl ?_
      rw [HD1.out, HD2.out, HCD.out]
      exact DscE.bad (by rw [HX.out]; rfl) HFf.out
    case pos =>
      subst h5
      have hs1 : Shp.err am ar 0 = .nilIface := rfl
      rw [hs1]
      clear hs1 hkc
      have d0 : w5.cell? ⟨W3.heap.size + 1, 0, none⟩ = some (.slice (some ⟨W3.heap.size, 0, none⟩) 2 2) := HD.out.cell 0
      have d1 : w5.cell? ⟨W3.heap.size + 1, 1, none⟩ = some (.bool true) := HD.out.cell 1
      obtain ⟨z0, z1, zf0, zf1, HZf, HFf⟩ := elm_two HZ.out HB0.out (Nat.le_add_right _ 2) (.slice (some ⟨W3.heap.size, 0, none⟩) 2 2) (.bool true)
      have hne0 : W3.heap.size ≠ w.heap.size + 2 := by have := HFr.out; omega
      have HIf := hide ((HI.out.far (p := ⟨w.heap.size + 2, 0, none⟩) hne0 (.slice (some ⟨W3.heap.size, 0, none⟩) 2 2)).far (p := ⟨w.heap.size + 2, 1, none⟩) hne0 (.bool true))
      clear hne0
      go_wp2_with fail
      refine bodyPost_ret (results_desc rfl _ _ (w.heap.size + 2) _ _ rfl HZf.out) rfl ?_
      have h1 := HSH.out HCK.out
      rw [h1.1, h1.2, HCK.out]
      refine ⟨⟨⟨some ⟨W3.heap.size, 0, none⟩, [x0, y1], 2, true⟩, rfl, ⟨HIf.out.ri HWF.out, by simp⟩, (fun ad h => ?_), rfl, rfl⟩, HFf.out⟩
      have h2 := HFr.out
      have h3 : ⟨W3.heap.size, 0, none⟩ = ad := Option.some.inj h
      subst h3
      show w.heap.size + 1 ≤ W3.heap.size
      omega
  · obtain ⟨W4, hW4⟩ : ∃ W, W = ((W3.alloc (.cells #[.slice (some ⟨W3.heap.size + 1, 0, none⟩) 2 2, .bool true] 24)).alloc (.cells #[.int .i64 x0, .int .i64 y1] 3)).drew := ⟨_, rfl⟩
    have hb4 : Below W3.heap.size W3 W4 := by rw [hW4]; exact (((Below.refl _ _).alloc (Nat.le_refl _) _).alloc (by simp) _).drew
    have HD : Hid (Has W4 (W3.heap.size) 24 [.slice (some ⟨W3.heap.size + 1, 0, none⟩) 2 2, .bool true]) := hide (by rw [hW4]; exact Has.drewN ((Has.new W3 24 [.slice (some ⟨W3.heap.size + 1, 0, none⟩) 2 2, .bool true]).alloc _) 1)
    have HI : Hid (Has W4 (W3.heap.size + 1) 3 (i64s [x0, y1])) := hide (by rw [hW4]; exact Has.drewN (box_at _ 3 [.int .i64 x0, .int .i64 y1] _ (by simp)) 1)
    have HFr : Hid (w.heap.size + 3 ≤ W3.heap.size + 1) := hide (by have := HA.out.lt; have := HZ.out.lt; omega)
    replace HZ := hide (HZ.out.below hb4 HZ.out.lt)
    replace HB0 := hide (HB0.out.trans (hb4.mono HB0.out.size))
    rw [← hW4]
    have d0 : W4.cell? ⟨W3.heap.size, 0, none⟩ = some (.slice (some ⟨W3.heap.size + 1, 0, none⟩) 2 2) := HD.out.cell 0
    have d1 : W4.cell? ⟨W3.heap.size, 1, none⟩ = some (.bool true) := HD.out.cell 1
    have HV := hide (valid_c [x0, y1] (some ⟨W3.heap.size + 1, 0, none⟩) 2 true am ar W4 (HI.out.ri HWF.out) (by simp) (HE2'.out _ HB0.out))
    have hkc := Shp.code_is [x0, y1]
    obtain ⟨kc, hkc'⟩ : ∃ k, Hid (Shp.code [x0, y1] = k) := ⟨_, hide rfl⟩
    rw [hkc'.out] at HV hkc HCK
    clear hW4 hb4 a0 b0 a0z b0z p0z q1z p0' q1' hpal hpbl HA HB
    go_wp2_with fail
    refine HV.out.mono ?_
    rintro e w5 ⟨rfl, hb⟩
    replace HZ := hide (HZ.out.below hb HZ.out.lt)
    replace HD := hide (HD.out.below hb HD.out.lt)
    replace HI := hide (HI.out.below hb HI.out.lt)
    replace HB0 := hide (HB0.out.trans (hb.mono HB0.out.size))
    clear d0 d1 hb HV
    by_cases h5 : kc = 0
    case neg =>
      obtain ⟨e1, e2⟩ := Mat.bad (by rw [HCK.out]; exact h5)
      have HD1 := hide e1
      have HD2 := hide e2
      have HCD := HCK
      have hv := Shp.err_v (am := am) (ar := ar) hkc h5
      have r1 := run_neqerr hv
      have r2 := run_neqguard hv
      have hx : Tens.err ah am ar kc = Shp.err am ar kc := by
        unfold Tens.err
        rw [if_neg (by omega)]
      have HX := hide hx
      clear hv hx e1 e2 hkc h5
      obtain ⟨z0, z1, zf0, zf1, HZf, HFf⟩ := elm_two HZ.out HB0.out (Nat.le_add_right _ 2) (.slice none 0 0) (.bool false)
      go_wp2_with fail
      refine bodyPost_ret (results_desc rfl _ _ (w.heap.size + 2) _ _ rfl HZf.out) rfl ?_
      rw [HD1.out, HD2.out, HCD.out]
      exact DscE.bad (by rw [HX.out]; rfl) HFf.out
    case pos =>
      subst h5
      have hs1 : Shp.err am ar 0 = .nilIface := rfl
      rw [hs1]
      clear hs1 hkc
      have d0 : w5.cell? ⟨W3.heap.size, 0, none⟩ = some (.slice (some ⟨W3.heap.size + 1, 0, none⟩) 2 2) := HD.out.cell 0
      have d1 : w5.cell? ⟨W3.heap.size, 1, none⟩ = some (.bool true) := HD.out.cell 1
      obtain ⟨z0, z1, zf0, zf1, HZf, HFf⟩ := elm_two HZ.out HB0.out (Nat.le_add_right _ 2) (.slice (some ⟨W3.heap.size + 1, 0, none⟩) 2 2) (.bool true)
      have hne0 : W3.heap.size + 1 ≠ w.heap.size + 2 := by have := HFr.out; omega
      have HIf := hide ((HI.out.far (p := ⟨w.heap.size + 2, 0, none⟩) hne0 (.slice (some ⟨W3.heap.size + 1, 0, none⟩) 2 2)).far (p := ⟨w.heap.size + 2, 1, none⟩) hne0 (.bool true))
      clear hne0
      go_wp2_with fail
      refine bodyPost_ret (results_desc rfl _ _ (w.heap.size + 2) _ _ rfl HZf.out) rfl ?_
      have h1 := HSH.out HCK.out
      rw [h1.1, h1.2, HCK.out]
      refine ⟨⟨⟨some ⟨W3.heap.size + 1, 0, none⟩, [x0, y1], 2, true⟩, rfl, ⟨HIf.out.ri HWF.out, by simp⟩, (fun ad h => ?_), rfl, rfl⟩, HFf.out⟩
      have h2 := HFr.out
      have h3 : ⟨W3.heap.size + 1, 0, none⟩ = ad := Option.some.inj h
      subst h3
      show w.heap.size + 1 ≤ W3.heap.size + 1
      omega
end Go.Proofs.YtkehdgjdieemkaaDoor
