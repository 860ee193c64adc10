/-
  The product of two matrices and a matrix turned, over lists of numbers. mat.Result, walked. cells.turn: the elements of one turned. cells.matmul: elements of the product of two. mat.look, Mul, Cell, Turn, walked. What a tensor of no fault is. lodgeref.Ints: a copy of the call's own, that may be appended to. mat.Mul and mat.Cell, walked. mat.Cell and mat.Turn, walked. lodgeworld.Number by its value; lodgelaw8.matrix. Products and turned ones that are lawful; the examples of package lodgelaw8. What laws about products use. By an AI agent. No person has read it.
-/
import Derived.Test.YtgdcfjmpjhlndaaGreatDoorZOBasA
import Derived.Test.YtgdcfjmpjhlndaaGreatDoorZOCelC
import Derived.Test.YtgdcfjmpjhlndaaGreatDoorZOElmN
import Derived.Test.YtgdcfjmpjhlndaaGreatDoorZOShpCl
import Derived.Deep.RegionLaw
import Derived.RegionTactic
import Derived.ChangeAlike
import Derived.BigRegion
import Derived.Deep.LoopGhost
import Derived.Laws.CopyOwn
import Derived.Laws.BitsAllLaws
namespace Go.Proofs.YtgdcfjmpjhlndaaGreatDoor
open Go.RowKit
def Mat.dot (xs ys : List Int) (za zb : Int) (inner n row col : Nat) : Nat → Int
 | 0 => 0
 | k + 1 => Mat.dot xs ys za zb inner n row col k + (xs.getD (row * inner + k) 0 - za) * (ys.getD (k * n + col) 0 - zb)
def Mat.part (xs ys : List Int) (za zb : Int) (inner n f m : Nat) : List Int := (List.range m).map fun i => Tens.wide (Mat.dot xs ys za zb inner n ((f + i) / n) ((f + i) % n) inner)
def Mat.turn (ds : List Int) (m n f k : Nat) : List Int := (List.range k).map fun i => ds.getD ((f + i) % m * n + (f + i) / m) 0
theorem Mat.part_length (xs ys : List Int) (za zb : Int) (inner n f m : Nat) : (Mat.part xs ys za zb inner n f m).length = m := by simp [Mat.part]
theorem Mat.turn_length (ds : List Int) (m n f k : Nat) : (Mat.turn ds m n f k).length = k := by simp [Mat.turn]
theorem Mat.part_at (xs ys : List Int) (za zb : Int) (inner n f m i : Nat) (hi : i < m) : (Mat.part xs ys za zb inner n f m)[i]? = some (Tens.wide (Mat.dot xs ys za zb inner n ((f + i) / n) ((f + i) % n) inner)) := by
 simp [Mat.part, hi]
theorem Mat.turn_at (ds : List Int) (m n f k i : Nat) (hi : i < k) : (Mat.turn ds m n f k)[i]? = some (ds.getD ((f + i) % m * n + (f + i) / m) 0) := by
 simp [Mat.turn, hi]
def Mat.code (za zb : Int) (a b : Dsc) : Nat :=
 if Shp.firstbad [a, b] ≠ 0 then Shp.firstbad [a, b] else if a.u = true ∨ b.u = true ∨ a.zs.length ≠ 2 ∨ b.zs.length ≠ 2 ∨ a.zs.getD 1 0 ≠ b.zs.getD 0 0 then 101
 else if Tens.narrow za ≠ za ∨ Tens.narrow zb ≠ zb then 102 else Shp.code [a.zs.getD 0 0, b.zs.getD 1 0]
def Mat.shape (za zb : Int) (a b : Dsc) : List Int := if Mat.code za zb a b = 0 then [a.zs.getD 0 0, b.zs.getD 1 0] else []
def Mat.kind (za zb : Int) (a b : Dsc) : Bool := decide (Mat.code za zb a b = 0)
theorem Mat.bad {za zb : Int} {a b : Dsc} (h : Mat.code za zb a b ≠ 0) : Mat.shape za zb a b = [] ∧ Mat.kind za zb a b = false := by
 unfold Mat.shape Mat.kind
 rw [if_neg h]
 exact ⟨rfl, decide_eq_false h⟩
theorem Mat.code_known (za zb : Int) (a b : Dsc) : Cel.known (Mat.code za zb a b) := by
 unfold Mat.code
 split
 ·exact Cel.known_bad _
 split
 ·exact .inr (.inl rfl)
 split
 ·exact .inr (.inr (.inl rfl))
 ·exact Cel.known_shp _
set_option maxRecDepth 100000 in
set_option maxHeartbeats 8000000 in
theorem mresult_c (za zb : Int) (a b : Dsc) (ah am ar : Addr) (w : World) (ha : a.In w) (hb : b.In w) (hE : E3 w ah am ar) :
  Calls Tryz.prog 97 #[.int .i64 za, .int .i64 zb, .agg (dcells a.P a.zs.length a.cap a.u), .agg (dcells b.P b.zs.length b.cap b.u)] w (DscE w ah am ar (Mat.shape za zb a b) (Mat.kind za zb a b) (Mat.code za zb a b)) := by
 have HVa := hide (fun W (h : Below w.heap.size w W) => valid_c a.zs a.P a.cap a.u am ar W (ha.shp.below h) (by have := ha.ls; omega) (hE.2.below h))
 have HVb := hide (fun W (h : Below w.heap.size w W) => valid_c b.zs b.P b.cap b.u am ar W (hb.shp.below h) (by have := hb.ls; omega) (hE.2.below h))
 obtain ⟨W0, hW0⟩ : ∃ W, W = ((((w.alloc (.cells #[.slice a.P a.zs.length a.cap, .bool a.u] 24)).alloc (.cells #[.slice b.P b.zs.length b.cap, .bool b.u] 24)).alloc (.cells #[.slice none 0 0, .bool false] 24)).alloc (.cells #[.slice a.P a.zs.length a.cap, .bool a.u, .slice b.P b.zs.length b.cap, .bool b.u] 24)) := ⟨_, rfl⟩
 have HA : Hid (Has W0 w.heap.size 24 [.slice a.P a.zs.length a.cap, .bool a.u]) := hide (by rw [hW0]; exact (((Has.new w 24 _).alloc _).alloc _).alloc _)
 have HB : Hid (Has W0 (w.heap.size + 1) 24 [.slice b.P b.zs.length b.cap, .bool b.u]) := hide (by rw [hW0]; exact ((box_at _ _ _ _ (by simp)).alloc _).alloc _)
 have HZ : Hid (Has W0 (w.heap.size + 2) 24 [.slice none 0 0, .bool false]) := hide (by rw [hW0]; exact (box_at _ _ _ _ (by simp)).alloc _)
 have HS : Hid (Has W0 (w.heap.size + 3) 24 [.slice a.P a.zs.length a.cap, .bool a.u, .slice b.P b.zs.length b.cap, .bool b.u]) := hide (by rw [hW0]; exact box_at _ _ _ _ (by simp))
 have HB0 : Hid (Below w.heap.size w W0) := hide (by rw [hW0]; exact ((((Below.refl _ _).alloc (Nat.le_refl _) _).alloc (by simp) _).alloc (by simp; omega) _).alloc (by simp; omega) _)
 have HW := hide hW0
 have HE2 := hide (fun W (h : Below w.heap.size w W) => hE.2.below h)
 have HEs := hide hE.1
 have HEr := hide hE.2.2
 have HIa := hide (fun W (h : Below w.heap.size w W) => ha.shp.below h)
 have HIb := hide (fun W (h : Below w.heap.size w W) => hb.shp.below h)
 have hka' := Shp.code_is a.zs
 have hkb' := Shp.code_is b.zs
 go_enter Tryz.func97, Tryz.ntmps97
 go_wp2_with fail
 rw [← HW.out]
 refine wp_loop_rounds 4 ?_
 rw [rounds_succ]
 clear ha hb hE HW hW0
 obtain ⟨ka, hka⟩ : ∃ k, Hid (Shp.code a.zs = k) := ⟨_, hide rfl⟩
 obtain ⟨kb, hkb⟩ : ∃ k, Hid (Shp.code b.zs = k) := ⟨_, hide rfl⟩
 rw [hka.out] at HVa hka'
 rw [hkb.out] at HVb hkb'
 have c0 : W0.cell? ⟨w.heap.size + 3, 0, none⟩ = some (.slice a.P a.zs.length a.cap) := HS.out.cell 0
 have c1 : W0.cell? ⟨w.heap.size + 3, 1, none⟩ = some (.bool a.u) := HS.out.cell 1
 have hbx : Below W0.heap.size W0 (W0.alloc (.cells #[.slice a.P a.zs.length a.cap, .bool a.u] 24)) := (Below.refl _ _).alloc (Nat.le_refl _) _
 have HBx := hide (HB0.out.trans (hbx.mono HB0.out.size))
 have HAx := hide (HA.out.below hbx HA.out.lt)
 have HBBx := hide (HB.out.below hbx HB.out.lt)
 have HZx := hide (HZ.out.below hbx HZ.out.lt)
 have HSx := hide (HS.out.below hbx HS.out.lt)
 clear hbx HB0 HA HB HZ HS
 go_wp2_with fail
 refine (HVa.out _ HBx.out).mono ?_
 rintro e w1 ⟨rfl, hb⟩
 have HB0 := hide (HBx.out.trans (hb.mono HBx.out.size))
 have HA := hide (HAx.out.below hb HAx.out.lt)
 have HB := hide (HBBx.out.below hb HBBx.out.lt)
 have HZ := hide (HZx.out.below hb HZx.out.lt)
 have HS := hide (HSx.out.below hb HSx.out.lt)
 clear hb HBx HAx HBBx HZx HSx c0 c1
 by_cases h1 : ka = 0
 case neg =>
  have hcd : Mat.code za zb a b = ka := by
   have : Shp.firstbad [a, b] = ka := by unfold Shp.firstbad; rw [if_neg (by rw [hka.out]; exact h1)]; exact hka.out
   unfold Mat.code
   rw [this, if_pos h1]
  obtain ⟨e1, e2⟩ := Mat.bad (by rw [hcd]; exact h1)
  have HD1 := hide e1
  have HD2 := hide e2
  have HCD := hide hcd
  have hv := Shp.err_v (am := am) (ar := ar) hka' h1
  have r1 := run_neqerr hv
  have r2 := run_neqguard hv
  have hx : Tens.err ah am ar ka = Shp.err am ar ka := by
   unfold Tens.err
   rw [if_neg (by omega)]
  have HX := hide hx
  clear hv hx hcd e1 e2 hka' hkb' h1
  obtain ⟨z0, z1, zf0, zf1, HZf, HFf⟩ := elm_two HZ.out HB0.out (Nat.le_add_right _ 2) (.slice none 0 0) (.bool false)
  go_wp2_with fail
  refine bodyPost_ret (results_desc rfl _ _ (w.heap.size + 2) _ _ rfl HZf.out) rfl ?_
  rw [HD1.out, HD2.out, HCD.out]
  exact DscE.bad (by rw [HX.out]; rfl) HFf.out
 case pos =>
 subst h1
 have hs1 : Shp.err am ar 0 = .nilIface := rfl
 rw [hs1]
 clear hs1 hka'
 go_wp2_with fail
 rw [rounds_succ]
 have c2 : w1.cell? ⟨w.heap.size + 3, 2, none⟩ = some (.slice b.P b.zs.length b.cap) := HS.out.cell 2
 have c3 : w1.cell? ⟨w.heap.size + 3, 3, none⟩ = some (.bool b.u) := HS.out.cell 3
 have hbx : Below w1.heap.size w1 (w1.alloc (.cells #[.slice b.P b.zs.length b.cap, .bool b.u] 24)) := (Below.refl _ _).alloc (Nat.le_refl _) _
 have HBx := hide (HB0.out.trans (hbx.mono HB0.out.size))
 have HAx := hide (HA.out.below hbx HA.out.lt)
 have HBBx := hide (HB.out.below hbx HB.out.lt)
 have HZx := hide (HZ.out.below hbx HZ.out.lt)
 have HSx := hide (HS.out.below hbx HS.out.lt)
 clear hbx HB0 HA HB HZ HS
 go_wp2_with fail
 refine (HVb.out _ HBx.out).mono ?_
 rintro e w2 ⟨rfl, hb⟩
 have HB0 := hide (HBx.out.trans (hb.mono HBx.out.size))
 have HA := hide (HAx.out.below hb HAx.out.lt)
 have HB := hide (HBBx.out.below hb HBBx.out.lt)
 have HZ := hide (HZx.out.below hb HZx.out.lt)
 have HS := hide (HSx.out.below hb HSx.out.lt)
 clear hb HBx HAx HBBx HZx HSx c2 c3
 by_cases h2 : kb = 0
 case neg =>
  have hcd : Mat.code za zb a b = kb := by
   have : Shp.firstbad [a, b] = kb := by unfold Shp.firstbad; rw [if_pos hka.out]; unfold Shp.firstbad; rw [if_neg (by rw [hkb.out]; exact h2)]; exact hkb.out
   unfold Mat.code
   rw [this, if_pos h2]
  obtain ⟨e1, e2⟩ := Mat.bad (by rw [hcd]; exact h2)
  have HD1 := hide e1
  have HD2 := hide e2
  have HCD := hide hcd
  have hv := Shp.err_v (am := am) (ar := ar) hkb' h2
  have r1 := run_neqerr hv
  have r2 := run_neqguard hv
  have hx : Tens.err ah am ar kb = Shp.err am ar kb := by
   unfold Tens.err
   rw [if_neg (by omega)]
  have HX := hide hx
  clear hv hx hcd e1 e2 hkb' h2
  obtain ⟨z0, z1, zf0, zf1, HZf, HFf⟩ := elm_two HZ.out HB0.out (Nat.le_add_right _ 2) (.slice none 0 0) (.bool false)
  go_wp2_with fail
  refine bodyPost_ret (results_desc rfl _ _ (w.heap.size + 2) _ _ rfl HZf.out) rfl ?_
  rw [HD1.out, HD2.out, HCD.out]
  exact DscE.bad (by rw [HX.out]; rfl) HFf.out
 case pos =>
 subst h2
 have hs1 : Shp.err am ar 0 = .nilIface := rfl
 rw [hs1]
 clear hs1 hkb'
 go_wp2_with fail
 rw [rounds_succ]
 go_wp2_with fail
 have hfb : Shp.firstbad [a, b] = 0 := by unfold Shp.firstbad; rw [if_pos hka.out]; unfold Shp.firstbad; rw [if_pos hkb.out]; rfl
 have HFB := hide hfb
 clear hfb
 have hcode : ∀ k, (¬ (a.u = true ∨ b.u = true ∨ a.zs.length ≠ 2 ∨ b.zs.length ≠ 2 ∨ a.zs.getD 1 0 ≠ b.zs.getD 0 0) → False) → k = 101 → Mat.code za zb a b = k := fun k h hk => by
  unfold Mat.code
  rw [if_neg (by rw [HFB.out]; simp), if_pos (Classical.byContradiction h), hk]
 have HC101 : Hid (¬ (¬ (a.u = true ∨ b.u = true ∨ a.zs.length ≠ 2 ∨ b.zs.length ≠ 2 ∨ a.zs.getD 1 0 ≠ b.zs.getD 0 0)) → Mat.code za zb a b = 101 ∧ Mat.shape za zb a b = [] ∧ Mat.kind za zb a b = false) := hide (fun h => by
  have h1 := hcode 101 h rfl
  have h2 := Mat.bad (by rw [h1]; decide)
  exact ⟨h1, h2.1, h2.2⟩)
 clear hcode
 obtain ⟨na, hna⟩ : ∃ n, Hid (a.zs.length = n) := ⟨_, hide rfl⟩
 obtain ⟨nb, hnb⟩ : ∃ n, Hid (b.zs.length = n) := ⟨_, hide rfl⟩
 rw [hna.out, hnb.out] at HC101 HS
 rw [hna.out] at HA
 rw [hnb.out] at HB
 obtain ⟨ua, hua⟩ : ∃ n, Hid (a.u = n) := ⟨_, hide rfl⟩
 obtain ⟨ub, hub⟩ : ∃ n, Hid (b.u = n) := ⟨_, hide rfl⟩
 rw [hua.out, hub.out] at HC101 HS
 rw [hua.out] at HA
 rw [hub.out] at HB
 have a0 : w2.cell? ⟨w.heap.size, 0, none⟩ = some (.slice a.P na a.cap) := HA.out.cell 0
 have a1 : w2.cell? ⟨w.heap.size, 1, none⟩ = some (.bool ua) := HA.out.cell 1
 have b0 : w2.cell? ⟨w.heap.size + 1, 0, none⟩ = some (.slice b.P nb b.cap) := HB.out.cell 0
 have b1 : w2.cell? ⟨w.heap.size + 1, 1, none⟩ = some (.bool ub) := HB.out.cell 1
 have HNW := hide (fun n => narrow_c n)
 clear HS
 cases ua
 case true =>
  obtain ⟨e0, e1, e2⟩ := HC101.out (by simp)
  have HCD := hide e0
  have HD1 := hide e1
  have HD2 := hide e2
  clear e0 e1 e2 HC101
  go_quiet (fail)
  clear a0 a1 b0 b1
  replace HZ := hide (HZ.out.drewN nq)
  replace HB0 := hide (below_drewN HB0.out nq)
  generalize w2.drewN nq = W3 at *
  go_wp2_with fail
  obtain ⟨z0, z1, zf0, zf1, HZf, HFf⟩ := elm_twod HZ.out HB0.out (Nat.le_add_right _ 2) (.slice none 0 0) (.bool false)
  have hs5 : W3.drew.cell? ⟨1, 0, none⟩ = some (errv ah) := (HEs.out.below HB0.out).1
  have hglt : 1 < w.heap.size := HEs.out.2.1
  have hS9 := hide (HEs.out.below HFf.out).1
  go_wp2_with fail
  go_region_held3 (fun W => W.cell? ⟨1, 0, none⟩ = some (errv ah))
   (first | exact hs5 | assumption | exact hS9.out)
   (first | fail)
  go_wp2_with fail
  refine bodyPost_ret (results_desc rfl _ _ (w.heap.size + 2) _ _ rfl HZf.out) rfl ?_
  rw [HD1.out, HD2.out, HCD.out]
  exact DscE.bad rfl HFf.out
 case false =>
 cases ub
 case true =>
  obtain ⟨e0, e1, e2⟩ := HC101.out (by simp)
  have HCD := hide e0
  have HD1 := hide e1
  have HD2 := hide e2
  clear e0 e1 e2 HC101
  go_quiet (fail)
  clear a0 a1 b0 b1
  replace HZ := hide (HZ.out.drewN nq)
  replace HB0 := hide (below_drewN HB0.out nq)
  generalize w2.drewN nq = W3 at *
  go_wp2_with fail
  obtain ⟨z0, z1, zf0, zf1, HZf, HFf⟩ := elm_twod HZ.out HB0.out (Nat.le_add_right _ 2) (.slice none 0 0) (.bool false)
  have hs5 : W3.drew.cell? ⟨1, 0, none⟩ = some (errv ah) := (HEs.out.below HB0.out).1
  have hglt : 1 < w.heap.size := HEs.out.2.1
  have hS9 := hide (HEs.out.below HFf.out).1
  go_wp2_with fail
  go_region_held3 (fun W => W.cell? ⟨1, 0, none⟩ = some (errv ah))
   (first | exact hs5 | assumption | exact hS9.out)
   (first | fail)
  go_wp2_with fail
  refine bodyPost_ret (results_desc rfl _ _ (w.heap.size + 2) _ _ rfl HZf.out) rfl ?_
  rw [HD1.out, HD2.out, HCD.out]
  exact DscE.bad rfl HFf.out
 case false =>
 by_cases hn2 : na = 2
 case neg =>
  obtain ⟨e0, e1, e2⟩ := HC101.out (by simp; omega)
  have HCD := hide e0
  have HD1 := hide e1
  have HD2 := hide e2
  clear e0 e1 e2 HC101
  have hni : ((na : Int) != 2) = true := by simp; omega
  go_quiet (fail)
  clear a0 a1 b0 b1
  replace HZ := hide (HZ.out.drewN nq)
  replace HB0 := hide (below_drewN HB0.out nq)
  generalize w2.drewN nq = W3 at *
  go_wp2_with fail
  obtain ⟨z0, z1, zf0, zf1, HZf, HFf⟩ := elm_twod HZ.out HB0.out (Nat.le_add_right _ 2) (.slice none 0 0) (.bool false)
  have hs5 : W3.drew.cell? ⟨1, 0, none⟩ = some (errv ah) := (HEs.out.below HB0.out).1
  have hglt : 1 < w.heap.size := HEs.out.2.1
  have hS9 := hide (HEs.out.below HFf.out).1
  go_wp2_with fail
  go_region_held3 (fun W => W.cell? ⟨1, 0, none⟩ = some (errv ah))
   (first | exact hs5 | assumption | exact hS9.out)
   (first | fail)
  go_wp2_with fail
  refine bodyPost_ret (results_desc rfl _ _ (w.heap.size + 2) _ _ rfl HZf.out) rfl ?_
  rw [HD1.out, HD2.out, HCD.out]
  exact DscE.bad rfl HFf.out
 case pos =>
 subst hn2
 by_cases hn3 : nb = 2
 case neg =>
  obtain ⟨e0, e1, e2⟩ := HC101.out (by simp; omega)
  have HCD := hide e0
  have HD1 := hide e1
  have HD2 := hide e2
  clear e0 e1 e2 HC101
  have hni : ((nb : Int) != 2) = true := by simp; omega
  go_quiet (fail)
  clear a0 a1 b0 b1
  replace HZ := hide (HZ.out.drewN nq)
  replace HB0 := hide (below_drewN HB0.out nq)
  generalize w2.drewN nq = W3 at *
  go_wp2_with fail
  obtain ⟨z0, z1, zf0, zf1, HZf, HFf⟩ := elm_twod HZ.out HB0.out (Nat.le_add_right _ 2) (.slice none 0 0) (.bool false)
  have hs5 : W3.drew.cell? ⟨1, 0, none⟩ = some (errv ah) := (HEs.out.below HB0.out).1
  have hglt : 1 < w.heap.size := HEs.out.2.1
  have hS9 := hide (HEs.out.below HFf.out).1
  go_wp2_with fail
  go_region_held3 (fun W => W.cell? ⟨1, 0, none⟩ = some (errv ah))
   (first | exact hs5 | assumption | exact hS9.out)
   (first | fail)
  go_wp2_with fail
  refine bodyPost_ret (results_desc rfl _ _ (w.heap.size + 2) _ _ rfl HZf.out) rfl ?_
  rw [HD1.out, HD2.out, HCD.out]
  exact DscE.bad rfl HFf.out
 case pos =>
 subst hn3
 obtain ⟨x0, x1, hx⟩ : ∃ x y, a.zs = [x, y] := by
  have := hna.out
  match h : a.zs, this with
  | [x, y], _ => exact ⟨x, y, rfl⟩
 obtain ⟨y0, y1, hy⟩ : ∃ x y, b.zs = [x, y] := by
  have := hnb.out
  match h : b.zs, this with
  | [x, y], _ => exact ⟨x, y, rfl⟩
 have hra := HIa.out w2 HB0.out
 have hrb := HIb.out w2 HB0.out
 rw [hx] at hra HC101
 rw [hy] at hrb HC101
 obtain ⟨pa, hpa, p0, p1⟩ := ri_pair hra
 have hpl1 : pa.block < w2.heap.size := by obtain ⟨ad, h1, h2, -⟩ := hra.2 (by simp); rw [hpa] at h1; rw [Option.some.inj h1]; exact h2
 obtain ⟨pb, hpb, q0, q1⟩ := ri_pair hrb
 have hpl2 : pb.block < w2.heap.size := by obtain ⟨ad, h1, h2, -⟩ := hrb.2 (by simp); rw [hpb] at h1; rw [Option.some.inj h1]; exact h2
 rw [hpa] at a0 HA
 rw [hpb] at b0 HB
 by_cases hxy : x1 = y0
 case neg =>
  obtain ⟨e0, e1, e2⟩ := HC101.out (by simp; exact hxy)
  have HCD := hide e0
  have HD1 := hide e1
  have HD2 := hide e2
  clear e0 e1 e2 HC101
  have hni : (x1 != y0) = true := by simpa using hxy
  go_quiet (fail)
  clear a0 a1 b0 b1 p0 p1 q0 q1
  replace HZ := hide (HZ.out.drewN nq)
  replace HB0 := hide (below_drewN HB0.out nq)
  generalize w2.drewN nq = W3 at *
  go_wp2_with fail
  obtain ⟨z0, z1, zf0, zf1, HZf, HFf⟩ := elm_twod HZ.out HB0.out (Nat.le_add_right _ 2) (.slice none 0 0) (.bool false)
  have hs5 : W3.drew.cell? ⟨1, 0, none⟩ = some (errv ah) := (HEs.out.below HB0.out).1
  have hglt : 1 < w.heap.size := HEs.out.2.1
  have hS9 := hide (HEs.out.below HFf.out).1
  go_wp2_with fail
  go_region_held3 (fun W => W.cell? ⟨1, 0, none⟩ = some (errv ah))
   (first | exact hs5 | assumption | exact hS9.out)
   (first | fail)
  go_wp2_with fail
  refine bodyPost_ret (results_desc rfl _ _ (w.heap.size + 2) _ _ rfl HZf.out) rfl ?_
  rw [HD1.out, HD2.out, HCD.out]
  exact DscE.bad rfl HFf.out
 case pos =>
 subst hxy
 have HC102 : Hid ((Tens.narrow za ≠ za ∨ Tens.narrow zb ≠ zb) → Mat.code za zb a b = 102 ∧ Mat.shape za zb a b = [] ∧ Mat.kind za zb a b = false) := hide (fun h => by
  have h1 : Mat.code za zb a b = 102 := by
   unfold Mat.code
   rw [if_neg (by rw [HFB.out]; simp), if_neg (by rw [hx, hy, hua.out, hub.out]; simp), if_pos h]
  have h2 := Mat.bad (by rw [h1]; decide)
  exact ⟨h1, h2.1, h2.2⟩)
 have HXY := hide (And.intro hx hy)
 have HWF : Hid (∀ q ∈ [x0, y1], (Lit.int .i64 q).wf = true) := hide (by
  intro q hq
  simp at hq
  rcases hq with rfl | rfl
  ·exact hra.1 _ (by simp)
  ·exact hrb.1 _ (by simp))
 clear hra hrb hx hy HC101
 go_quiet (fail)
 have p0' : (w2.drewN nq).cell? pa = _ := p0
 have q1' : (w2.drewN nq).cell? ⟨pb.block, pb.off + 1, none⟩ = _ := q1
 have hpal : pa.block < (w2.drewN nq).heap.size := hpl1
 have hpbl : pb.block < (w2.drewN nq).heap.size := hpl2
 clear hpl1 hpl2
 clear a0 a1 b0 b1 p0 p1 q0 q1
 replace HZ := hide (HZ.out.drewN nq)
 replace HA := hide (HA.out.drewN nq)
 replace HB := hide (HB.out.drewN nq)
 replace HB0 := hide (below_drewN HB0.out nq)
 generalize w2.drewN nq = W3 at *
 go_wp2_with fail
 refine (HNW.out za W3).mono ?_
 rintro e wq ⟨rfl, hw⟩
 have hw := hw.symm
 subst hw
 by_cases hza : Tens.narrow za = za
 case neg =>
  have hz1 : (Tens.narrow za != za) = true := by simpa using hza
  obtain ⟨e0, e1, e2⟩ := HC102.out (.inl hza)
  have HCD := hide e0
  have HD1 := hide e1
  have HD2 := hide e2
  clear e0 e1 e2 HC102 hza
  go_wp2_with fail
  obtain ⟨z0, z1, zf0, zf1, HZf, HFf⟩ := elm_twod HZ.out HB0.out (Nat.le_add_right _ 2) (.slice none 0 0) (.bool false)
  have hs5 : W3.drew.cell? ⟨3, 0, none⟩ = some (errv ar) := (HEr.out.below HB0.out).1
  have hglt : 3 < w.heap.size := HEr.out.2.1
  have hS9 := hide (HEr.out.below HFf.out).1
  go_wp2_with fail
  go_region_held3 (fun W => W.cell? ⟨3, 0, none⟩ = some (errv ar))
   (first | exact hs5 | assumption | exact hS9.out)
   (first | fail)
  go_wp2_with fail
  refine bodyPost_ret (results_desc rfl _ _ (w.heap.size + 2) _ _ rfl HZf.out) rfl ?_
  rw [HD1.out, HD2.out, HCD.out]
  exact DscE.bad rfl HFf.out
 case pos =>
 have hz1 : (Tens.narrow za != za) = false := by simp [hza]
 go_wp2_with fail
 refine (HNW.out zb W3).mono ?_
 rintro e wq ⟨rfl, hw⟩
 have hw := hw.symm
 subst hw
 by_cases hzb : Tens.narrow zb = zb
 case neg =>
  have hz2 : (Tens.narrow zb != zb) = true := by simpa using hzb
  obtain ⟨e0, e1, e2⟩ := HC102.out (.inr hzb)
  have HCD := hide e0
  have HD1 := hide e1
  have HD2 := hide e2
  clear e0 e1 e2 HC102 hza hzb
  go_wp2_with fail
  obtain ⟨z0, z1, zf0, zf1, HZf, HFf⟩ := elm_twod HZ.out HB0.out (Nat.le_add_right _ 2) (.slice none 0 0) (.bool false)
  have hs5 : W3.drew.cell? ⟨3, 0, none⟩ = some (errv ar) := (HEr.out.below HB0.out).1
  have hglt : 3 < w.heap.size := HEr.out.2.1
  have hS9 := hide (HEr.out.below HFf.out).1
  go_wp2_with fail
  go_region_held3 (fun W => W.cell? ⟨3, 0, none⟩ = some (errv ar))
   (first | exact hs5 | assumption | exact hS9.out)
   (first | fail)
  go_wp2_with fail
  refine bodyPost_ret (results_desc rfl _ _ (w.heap.size + 2) _ _ rfl HZf.out) rfl ?_
  rw [HD1.out, HD2.out, HCD.out]
  exact DscE.bad rfl HFf.out
 case pos =>
 have hz2 : (Tens.narrow zb != zb) = false := by simp [hzb]
 go_wp2_with fail
 have a0 : W3.cell? ⟨w.heap.size, 0, none⟩ = some (.slice (some pa) 2 a.cap) := HA.out.cell 0
 have b0 : W3.cell? ⟨w.heap.size + 1, 0, none⟩ = some (.slice (some pb) 2 b.cap) := HB.out.cell 0
 have hbz : Below W3.heap.size W3 (W3.alloc (.cells #[.slice none 0 0, .bool false] 24)) := (Below.refl _ _).alloc (Nat.le_refl _) _
 have a0z : (W3.alloc (.cells #[.slice none 0 0, .bool false] 24)).cell? ⟨w.heap.size, 0, none⟩ = some (.slice (some pa) 2 a.cap) := (hbz.cell (p := ⟨w.heap.size, 0, none⟩) HA.out.lt).trans a0
 have b0z : (W3.alloc (.cells #[.slice none 0 0, .bool false] 24)).cell? ⟨w.heap.size + 1, 0, none⟩ = some (.slice (some pb) 2 b.cap) := (hbz.cell (p := ⟨w.heap.size + 1, 0, none⟩) HB.out.lt).trans b0
 have p0z : (W3.alloc (.cells #[.slice none 0 0, .bool false] 24)).cell? pa = some (.int .i64 x0) := (hbz.cell hpal).trans p0'
 have q1z : (W3.alloc (.cells #[.slice none 0 0, .bool false] 24)).cell? ⟨pb.block, pb.off + 1, none⟩ = some (.int .i64 y1) := (hbz.cell (p := ⟨pb.block, pb.off + 1, none⟩) hpbl).trans q1'
 have HCK : Hid (Mat.code za zb a b = Shp.code [x0, y1]) := hide (by
  unfold Mat.code
  rw [if_neg (by rw [HFB.out]; simp), if_neg (by rw [HXY.out.1, HXY.out.2, hua.out, hub.out]; simp), if_neg (by rw [hza, hzb]; simp), HXY.out.1, HXY.out.2]
  rfl)
 have HSH : Hid (Mat.code za zb a b = 0 → Mat.shape za zb a b = [x0, y1] ∧ Mat.kind za zb a b = true) := hide (fun h => by
  unfold Mat.shape Mat.kind
  rw [if_pos h, HXY.out.1, HXY.out.2, decide_eq_true h]
  exact ⟨rfl, rfl⟩)
 have HE2' := hide (fun W (h : Below w.heap.size w W) => HE2.out W h)
 clear hbz hza hzb hz1 hz2 HC102 HNW
 go_region
 ·obtain ⟨W4, hW4⟩ : ∃ W, W = ((W3.alloc (.cells #[.int .i64 x0, .int .i64 y1] 3)).alloc (.cells #[.slice (some ⟨W3.heap.size, 0, none⟩) 2 2, .bool true] 24)).drew := ⟨_, rfl⟩
  have hb4 : Below W3.heap.size W3 W4 := by rw [hW4]; exact (((Below.refl _ _).alloc (Nat.le_refl _) _).alloc (by simp) _).drew
  have HD : Hid (Has W4 (W3.heap.size + 1) 24 [.slice (some ⟨W3.heap.size, 0, none⟩) 2 2, .bool true]) := hide (by rw [hW4]; exact Has.drewN (box_at _ 24 [.slice (some ⟨W3.heap.size, 0, none⟩) 2 2, .bool true] _ (by simp)) 1)
  have HI : Hid (Has W4 (W3.heap.size) 3 (i64s [x0, y1])) := hide (by rw [hW4]; exact Has.drewN ((Has.new W3 3 [.int .i64 x0, .int .i64 y1]).alloc _) 1)
  have HFr : Hid (w.heap.size + 3 ≤ W3.heap.size) := hide (by have := HA.out.lt; have := HZ.out.lt; omega)
  replace HZ := hide (HZ.out.below hb4 HZ.out.lt)
  replace HB0 := hide (HB0.out.trans (hb4.mono HB0.out.size))
  rw [← hW4]
  have d0 : W4.cell? ⟨W3.heap.size + 1, 0, none⟩ = some (.slice (some ⟨W3.heap.size, 0, none⟩) 2 2) := HD.out.cell 0
  have d1 : W4.cell? ⟨W3.heap.size + 1, 1, none⟩ = some (.bool true) := HD.out.cell 1
  have HV := hide (valid_c [x0, y1] (some ⟨W3.heap.size, 0, none⟩) 2 true am ar W4 (HI.out.ri HWF.out) (by simp) (HE2'.out _ HB0.out))
  have hkc := Shp.code_is [x0, y1]
  obtain ⟨kc, hkc'⟩ : ∃ k, Hid (Shp.code [x0, y1] = k) := ⟨_, hide rfl⟩
  rw [hkc'.out] at HV hkc HCK
  clear hW4 hb4 a0 b0 a0z b0z p0z q1z p0' q1' hpal hpbl HA HB
  go_wp2_with fail
  refine HV.out.mono ?_
  rintro e w5 ⟨rfl, hb⟩
  replace HZ := hide (HZ.out.below hb HZ.out.lt)
  replace HD := hide (HD.out.below hb HD.out.lt)
  replace HI := hide (HI.out.below hb HI.out.lt)
  replace HB0 := hide (HB0.out.trans (hb.mono HB0.out.size))
  clear d0 d1 hb HV
  by_cases h5 : kc = 0
  case neg =>
   obtain ⟨e1, e2⟩ := Mat.bad (by rw [HCK.out]; exact h5)
   have HD1 := hide e1
   have HD2 := hide e2
   have HCD := HCK
   have hv := Shp.err_v (am := am) (ar := ar) hkc h5
   have r1 := run_neqerr hv
   have r2 := run_neqguard hv
   have hx : Tens.err ah am ar kc = Shp.err am ar kc := by
    unfold Tens.err
    rw [if_neg (by omega)]
   have HX := hide hx
   clear hv hx e1 e2 hkc h5
   obtain ⟨z0, z1, zf0, zf1, HZf, HFf⟩ := elm_two HZ.out HB0.out (Nat.le_add_right _ 2) (.slice none 0 0) (.bool false)
   go_wp2_with fail
   refine bodyPost_ret (results_desc rfl _ _ (w.heap.size + 2) _ _ rfl HZf.out) rfl ?_
   rw [HD1.out, HD2.out, HCD.out]
   exact DscE.bad (by rw [HX.out]; rfl) HFf.out
  case pos =>
   subst h5
   have hs1 : Shp.err am ar 0 = .nilIface := rfl
   rw [hs1]
   clear hs1 hkc
   have d0 : w5.cell? ⟨W3.heap.size + 1, 0, none⟩ = some (.slice (some ⟨W3.heap.size, 0, none⟩) 2 2) := HD.out.cell 0
   have d1 : w5.cell? ⟨W3.heap.size + 1, 1, none⟩ = some (.bool true) := HD.out.cell 1
   obtain ⟨z0, z1, zf0, zf1, HZf, HFf⟩ := elm_two HZ.out HB0.out (Nat.le_add_right _ 2) (.slice (some ⟨W3.heap.size, 0, none⟩) 2 2) (.bool true)
   have hne0 : W3.heap.size ≠ w.heap.size + 2 := by have := HFr.out; omega
   have HIf := hide ((HI.out.far (p := ⟨w.heap.size + 2, 0, none⟩) hne0 (.slice (some ⟨W3.heap.size, 0, none⟩) 2 2)).far (p := ⟨w.heap.size + 2, 1, none⟩) hne0 (.bool true))
   clear hne0
   go_wp2_with fail
   refine bodyPost_ret (results_desc rfl _ _ (w.heap.size + 2) _ _ rfl HZf.out) rfl ?_
   have h1 := HSH.out HCK.out
   rw [h1.1, h1.2, HCK.out]
   refine ⟨⟨⟨some ⟨W3.heap.size, 0, none⟩, [x0, y1], 2, true⟩, rfl, ⟨HIf.out.ri HWF.out, by simp⟩, (fun ad h => ?_), rfl, rfl⟩, HFf.out⟩
   have h2 := HFr.out
   have h3 : ⟨W3.heap.size, 0, none⟩ = ad := Option.some.inj h
   subst h3
   show w.heap.size + 1 ≤ W3.heap.size
   omega
 ·obtain ⟨W4, hW4⟩ : ∃ W, W = ((W3.alloc (.cells #[.slice (some ⟨W3.heap.size + 1, 0, none⟩) 2 2, .bool true] 24)).alloc (.cells #[.int .i64 x0, .int .i64 y1] 3)).drew := ⟨_, rfl⟩
  have hb4 : Below W3.heap.size W3 W4 := by rw [hW4]; exact (((Below.refl _ _).alloc (Nat.le_refl _) _).alloc (by simp) _).drew
  have HD : Hid (Has W4 (W3.heap.size) 24 [.slice (some ⟨W3.heap.size + 1, 0, none⟩) 2 2, .bool true]) := hide (by rw [hW4]; exact Has.drewN ((Has.new W3 24 [.slice (some ⟨W3.heap.size + 1, 0, none⟩) 2 2, .bool true]).alloc _) 1)
  have HI : Hid (Has W4 (W3.heap.size + 1) 3 (i64s [x0, y1])) := hide (by rw [hW4]; exact Has.drewN (box_at _ 3 [.int .i64 x0, .int .i64 y1] _ (by simp)) 1)
  have HFr : Hid (w.heap.size + 3 ≤ W3.heap.size + 1) := hide (by have := HA.out.lt; have := HZ.out.lt; omega)
  replace HZ := hide (HZ.out.below hb4 HZ.out.lt)
  replace HB0 := hide (HB0.out.trans (hb4.mono HB0.out.size))
  rw [← hW4]
  have d0 : W4.cell? ⟨W3.heap.size, 0, none⟩ = some (.slice (some ⟨W3.heap.size + 1, 0, none⟩) 2 2) := HD.out.cell 0
  have d1 : W4.cell? ⟨W3.heap.size, 1, none⟩ = some (.bool true) := HD.out.cell 1
  have HV := hide (valid_c [x0, y1] (some ⟨W3.heap.size + 1, 0, none⟩) 2 true am ar W4 (HI.out.ri HWF.out) (by simp) (HE2'.out _ HB0.out))
  have hkc := Shp.code_is [x0, y1]
  obtain ⟨kc, hkc'⟩ : ∃ k, Hid (Shp.code [x0, y1] = k) := ⟨_, hide rfl⟩
  rw [hkc'.out] at HV hkc HCK
  clear hW4 hb4 a0 b0 a0z b0z p0z q1z p0' q1' hpal hpbl HA HB
  go_wp2_with fail
  refine HV.out.mono ?_
  rintro e w5 ⟨rfl, hb⟩
  replace HZ := hide (HZ.out.below hb HZ.out.lt)
  replace HD := hide (HD.out.below hb HD.out.lt)
  replace HI := hide (HI.out.below hb HI.out.lt)
  replace HB0 := hide (HB0.out.trans (hb.mono HB0.out.size))
  clear d0 d1 hb HV
  by_cases h5 : kc = 0
  case neg =>
   obtain ⟨e1, e2⟩ := Mat.bad (by rw [HCK.out]; exact h5)
   have HD1 := hide e1
   have HD2 := hide e2
   have HCD := HCK
   have hv := Shp.err_v (am := am) (ar := ar) hkc h5
   have r1 := run_neqerr hv
   have r2 := run_neqguard hv
   have hx : Tens.err ah am ar kc = Shp.err am ar kc := by
    unfold Tens.err
    rw [if_neg (by omega)]
   have HX := hide hx
   clear hv hx e1 e2 hkc h5
   obtain ⟨z0, z1, zf0, zf1, HZf, HFf⟩ := elm_two HZ.out HB0.out (Nat.le_add_right _ 2) (.slice none 0 0) (.bool false)
   go_wp2_with fail
   refine bodyPost_ret (results_desc rfl _ _ (w.heap.size + 2) _ _ rfl HZf.out) rfl ?_
   rw [HD1.out, HD2.out, HCD.out]
   exact DscE.bad (by rw [HX.out]; rfl) HFf.out
  case pos =>
   subst h5
   have hs1 : Shp.err am ar 0 = .nilIface := rfl
   rw [hs1]
   clear hs1 hkc
   have d0 : w5.cell? ⟨W3.heap.size, 0, none⟩ = some (.slice (some ⟨W3.heap.size + 1, 0, none⟩) 2 2) := HD.out.cell 0
   have d1 : w5.cell? ⟨W3.heap.size, 1, none⟩ = some (.bool true) := HD.out.cell 1
   obtain ⟨z0, z1, zf0, zf1, HZf, HFf⟩ := elm_two HZ.out HB0.out (Nat.le_add_right _ 2) (.slice (some ⟨W3.heap.size + 1, 0, none⟩) 2 2) (.bool true)
   have hne0 : W3.heap.size + 1 ≠ w.heap.size + 2 := by have := HFr.out; omega
   have HIf := hide ((HI.out.far (p := ⟨w.heap.size + 2, 0, none⟩) hne0 (.slice (some ⟨W3.heap.size + 1, 0, none⟩) 2 2)).far (p := ⟨w.heap.size + 2, 1, none⟩) hne0 (.bool true))
   clear hne0
   go_wp2_with fail
   refine bodyPost_ret (results_desc rfl _ _ (w.heap.size + 2) _ _ rfl HZf.out) rfl ?_
   have h1 := HSH.out HCK.out
   rw [h1.1, h1.2, HCK.out]
   refine ⟨⟨⟨some ⟨W3.heap.size + 1, 0, none⟩, [x0, y1], 2, true⟩, rfl, ⟨HIf.out.ri HWF.out, by simp⟩, (fun ad h => ?_), rfl, rfl⟩, HFf.out⟩
   have h2 := HFr.out
   have h3 : ⟨W3.heap.size + 1, 0, none⟩ = ad := Option.some.inj h
   subst h3
   show w.heap.size + 1 ≤ W3.heap.size + 1
   omega
set_option maxRecDepth 100000 in
set_option maxHeartbeats 4000000 in
theorem turn_c (os : List Int) (a : Ten) (M N ocap f g : Nat) (w0 w : World) (hz : a.zs = [(M : Int), (N : Int)]) (hl : a.ds.length = M * N) (hM : 1 ≤ M) (hm : M * N ≤ 1000000) (ha : a.In w0) (hB : Below w0.heap.size w0 w) (hg0 : w0.heap.size ≤ g) (hG : Has w g 3 (i64s os)) (hf : f + os.length ≤ M * N) :
  Calls Tryz.prog 107 #[.slice (some ⟨g, 0, none⟩) os.length ocap, .int .i64 f, .agg (tcells a.P a.zs.length a.cap a.u a.D a.ds.length a.dcap)] w fun e w' => e = .returned (.tuple #[]) ∧ Has w' g 3 (i64s (Mat.turn a.ds M N f os.length)) ∧ Below w0.heap.size w0 w' := by
 obtain ⟨r, hrr⟩ : ∃ r, Hid (Mat.turn a.ds M N f os.length = r) := ⟨_, hide rfl⟩
 have hrl : Hid (r.length = os.length) := hide (by rw [← hrr.out]; exact Mat.turn_length _ _ _ _ _)
 have hri : Hid (∀ i, i < os.length → r[i]? = some (a.ds.getD ((f + i) % M * N + (f + i) / M) 0)) := hide (fun i hi => by
  rw [← hrr.out]
  exact Mat.turn_at _ _ _ _ _ _ hi)
 rw [hrr.out]
 clear hrr
 have HA := hide ha.dat
 obtain ⟨pd, z0, hPD, ez0, cz0⟩ := ri_at (ha.shp.below hB) 0 (by rw [hz]; simp)
 obtain ⟨pd', z1, hPD', ez1, cz1⟩ := ri_at (ha.shp.below hB) 1 (by rw [hz]; simp)
 obtain rfl : pd' = pd := Option.some.inj (hPD'.symm.trans hPD)
 have hz0 : z0 = M := by have h := ez0.out; rw [hz] at h; exact (Option.some.inj h).symm
 have hz1 : z1 = N := by have h := ez1.out; rw [hz] at h; exact (Option.some.inj h).symm
 subst hz0
 subst hz1
 have hzl : a.zs.length = 2 := by rw [hz]; rfl
 have hpl : pd'.block < w0.heap.size := by
  obtain ⟨ad', h1, h2, -⟩ := ha.shp.2 (by rw [hz]; simp)
  rw [hPD] at h1
  rw [Option.some.inj h1]
  exact h2
 obtain ⟨nd, hnd⟩ : ∃ n, Hid (a.ds.length = n) := ⟨_, hide rfl⟩
 obtain ⟨n, hn⟩ : ∃ n, Hid (os.length = n) := ⟨_, hide rfl⟩
 have hnd' : Hid (nd = M * N) := hide (hnd.out.symm.trans hl)
 have HF : Hid (f + n ≤ M * N) := hide (by rw [← hn.out]; exact hf)
 have HM := hide hm
 have hNm : (N : Int) ≤ 1000000 := by have := Nat.le_mul_of_pos_left N hM; omega
 have hnb : (n : Int) ≤ 1000000 := by have := HF.out; omega
 have hMm : (M : Int) ≤ 1000000 ∨ N = 0 := by rcases Nat.eq_zero_or_pos N with h | h; exact .inr h; exact .inl (by have := Nat.le_mul_of_pos_right M h; omega)
 rw [hzl, hnd.out, hPD, hn.out]
 rw [hn.out] at hrl hri
 have HOL := hide hn.out
 have HX := hide (Has.new w 26 [.slice (some pd') 2 a.cap, .bool a.u, .slice a.D nd a.dcap])
 have HG := hide (hG.alloc (.cells #[.slice (some pd') 2 a.cap, .bool a.u, .slice a.D nd a.dcap] 26))
 have HB := hide (hB.alloc hB.size (.cells #[.slice (some pd') 2 a.cap, .bool a.u, .slice a.D nd a.dcap] 26))
 have hgl := hG.lt
 have hsz := hB.size
 have hpw : pd'.block < w.heap.size := by omega
 have cw : (w.alloc (.cells #[.slice (some pd') 2 a.cap, .bool a.u, .slice a.D nd a.dcap] 26)).cell? pd' = some (.int .i64 M) ∧ (w.alloc (.cells #[.slice (some pd') 2 a.cap, .bool a.u, .slice a.D nd a.dcap] 26)).cell? (pd'.add 1) = some (.int .i64 N) := by
  rw [Addr.add_zero'] at cz0
  exact ⟨(((Below.refl w.heap.size w).alloc (Nat.le_refl _) _).cell hpw).trans cz0, (((Below.refl w.heap.size w).alloc (Nat.le_refl _) _).cell (by rw [elm_block]; exact hpw)).trans cz1⟩
 obtain ⟨cw0, cw1⟩ := cw
 simp only [Addr.add, Nat.reduceEqDiff, if_false] at cw1
 clear ha hB hG hl hf hm hPD hPD' ez0 ez1 hz hzl hn cz0 cz1
 unfold tcells
 go_enter Tryz.func107, Tryz.ntmps107
 go_wp2_with fail
 generalize (w.alloc (.cells #[.slice (some pd') 2 a.cap, .bool a.u, .slice a.D nd a.dcap] 26)) = W at *
 have x0 : W.cell? ⟨w.heap.size, 0, none⟩ = some (.slice (some pd') 2 a.cap) := HX.out.cell 0
 go_quiet (fail)
 clear cw0 cw1 x0
 replace HX := hide (HX.out.drewN nq)
 replace HG := hide (HG.out.drewN nq)
 replace HB := hide (below_drewN HB.out nq)
 generalize W.drewN nq = W2 at *
 go_wp2_with fail
 go_loopw [23] (fun k wr => ∃ (i : Nat) (xs : List Int), i ≤ n ∧ k = .int .i64 i ∧ Hid (xs.length = n) ∧ Hid (∀ j, j < i → xs[j]? = r[j]?) ∧ Hid (Has wr g 3 (i64s xs)) ∧ Hid (Has wr w.heap.size 26 [.slice (some pd') 2 a.cap, .bool a.u, .slice a.D nd a.dcap]) ∧ Hid (Below w0.heap.size w0 wr)) (fun k _ => n - (intOf k).toNat)
 case atStart => exact ⟨0, os, by omega, rfl, HOL, hide (fun j hj => by omega), HG, HX, HB⟩
 case round =>
  clear HG HX HB
  obtain ⟨i, xs, hi, rfl, HN, HI, HG, HX, HB⟩ := hrel
  by_cases hlt : i < n
  ·have him : (i : Int) < n := by omega
   have hi0 : (0 : Int) ≤ (i : Int) := by omega
   obtain ⟨s, hs⟩ : ∃ s, Hid (f + i = s) := ⟨_, hide rfl⟩
   have hss := hs.out
   have hff := HF.out
   have Hw1 : Hid (IntKind.i64.wrap ((f : Int) + (i : Int)) = (s : Int)) := hide (by have := HM.out; rw [IntKind.wrap_i64]; omega)
   have hM0 : ¬ ((M : Int) = 0) := by omega
   have hw1 := Hw1.out
   go_wp2_with fail
   go_quiet (fail)
   clear hw1
   have hMn : 0 < M := hM
   have hsb : s < M * N := by omega
   obtain ⟨R, hR⟩ : ∃ R, Hid (s / M = R) := ⟨_, hide rfl⟩
   obtain ⟨C, hC⟩ : ∃ C, Hid (s % M = C) := ⟨_, hide rfl⟩
   have hRN : R < N := by rw [← hR.out]; exact Nat.div_lt_of_lt_mul hsb
   have hCM : C < M := by rw [← hC.out]; exact Nat.mod_lt _ hMn
   obtain ⟨p, hp⟩ : ∃ p, Hid (C * N = p) := ⟨_, hide rfl⟩
   have hpb : p + N ≤ M * N := by rw [← hp.out, ← Nat.succ_mul]; exact Nat.mul_le_mul_right N hCM
   have hmm := HM.out
   have Hqu : Hid (wrap64 ((s : Int) / (M : Int)) = (R : Int)) := hide (by
    rw [show (s : Int) / (M : Int) = (R : Int) by rw [← hR.out]; exact (Int.natCast_ediv s M).symm]
    unfold wrap64
    omega)
   have Hre : Hid ((s : Int) % (M : Int) = (C : Int)) := hide (by rw [← hC.out]; exact (Int.natCast_emod s M).symm)
   have Hwp : Hid (IntKind.i64.wrap ((C : Int) * (N : Int)) = (p : Int)) := hide (by
    rw [show (C : Int) * (N : Int) = (p : Int) by rw [← hp.out, Int.natCast_mul], IntKind.wrap_i64]
    omega)
   obtain ⟨q, hq⟩ : ∃ q, Hid (p + R = q) := ⟨_, hide rfl⟩
   have hqq := hq.out
   have Hwq : Hid (IntKind.i64.wrap ((p : Int) + (R : Int)) = (q : Int)) := hide (by rw [IntKind.wrap_i64]; omega)
   have hqn : q < nd := by have := hnd'.out; omega
   obtain ⟨ad, x, hAD, ex, cx⟩ := ri_at (HA.out.below HB.out) q (by rw [hnd.out]; exact hqn)
   have hq0 : (0 : Int) ≤ (q : Int) := by omega
   have hq1 : (q : Int) < nd := by omega
   have hv := hri.out i hlt
   rw [hs.out, hR.out, hC.out, hp.out, hq.out, List.getD_eq_getElem?_getD, ex.out, Option.getD_some] at hv
   have HV := hide hv
   have hab : g ≠ ad.block := by
    obtain ⟨ad', h1, h2, -⟩ := HA.out.2 (by intro h; rw [h] at ex; have h := ex.out; simp at h)
    rw [hAD] at h1
    have h1 : ad = ad' := Option.some.inj h1
    subst h1
    omega
   have HAD := hide hAD
   rw [hAD] at HX
   have a2 : wr.cell? ⟨w.heap.size, 2, none⟩ = some (.slice (some ad) nd a.dcap) := HX.out.cell 2
   have g1 : wr.cell? ⟨g, i, none⟩ = some (.int .i64 (xs[i]'(by rw [HN.out]; exact hlt))) := by
    rw [HG.out.cell]
    unfold i64s
    rw [List.getElem?_map, List.getElem?_eq_getElem (by rw [HN.out]; exact hlt)]
    rfl
   have gf := HG.out.frozen i
   clear hv hAD hss hff hMn hsb hRN hCM hpb hmm hqq
   rw [Hqu.out, Hre.out]
   clear Hqu Hre Hw1 hM0
   have hwp := Hwp.out
   have hwq := Hwq.out
   have a2' : (wr.drewN nq).cell? ⟨w.heap.size, 2, none⟩ = some (.slice (some ad) nd a.dcap) := a2
   have g1' : (wr.drewN nq).cell? ⟨g, i, none⟩ = some (.int .i64 (xs[i]'(by rw [HN.out]; exact hlt))) := g1
   have gf' : (wr.drewN nq).frozen? ⟨g, i, none⟩ = false := gf
   have cx' : (wr.drewN nq).cell? (ad.add q) = some (.int .i64 x) := cx
   clear a2 g1 gf cx
   go_wp2_with fail
   go_roundw
   case rel =>
    refine ⟨i + 1, xs.set i x, by omega, by go_num, hide (by rw [List.length_set]; exact HN.out), hide (fun j hj => ?_), ?_, ?_, ?_⟩
    ·rw [List.getElem?_set]
     split
     ·rename_i h
      subst h
      rw [if_pos (by rw [HN.out]; exact hlt), HV.out]
     ·exact HI.out j (by omega)
    ·have h := (HG.out.drewN nq).set_ i (.int .i64 x)
     unfold i64s at h ⊢
     rw [List.map_set]
     exact hide h
    ·have h := hide ((HX.out.drewN nq).far (p := ⟨g, i, none⟩) (by simp; omega) (.int .i64 x))
     rw [← HAD.out] at h
     exact h
    ·exact hide ((below_drewN HB.out nq).setCell (p := ⟨g, i, none⟩) hg0 (.int .i64 x))
   case measure => simp [intOf]; omega
  ·obtain rfl : i = n := by omega
   have hx : xs = r := List.ext_getElem? (fun j => by
    rcases Nat.lt_or_ge j i with h | h
    ·exact HI.out j h
    ·rw [List.getElem?_eq_none (by rw [HN.out]; exact h), List.getElem?_eq_none (by rw [hrl.out]; exact h)])
   subst hx
   go_wp2_with fail
   refine bodyPost_end (results_none rfl _ _ _) rfl ?_
   exact ⟨rfl, HG.out, HB.out⟩
def Mat.small (ds : List Int) : Prop := ∀ z ∈ ds, -128 ≤ z ∧ z ≤ 127
theorem Mat.small_get {ds : List Int} (h : Mat.small ds) (i : Nat) : -128 ≤ ds.getD i 0 ∧ ds.getD i 0 ≤ 127 := by
 rw [List.getD_eq_getElem?_getD]
 cases e : ds[i]? with
 | none => exact ⟨by decide, by decide⟩
 | some q => exact h q (List.mem_of_getElem? e)
theorem Mat.prod_le (x y : Int) (hx : -255 ≤ x ∧ x ≤ 255) (hy : -255 ≤ y ∧ y ≤ 255) : -65025 ≤ x * y ∧ x * y ≤ 65025 := by
 have h1 : (x - 255) * (y + 255) ≤ 0 := Int.mul_nonpos_of_nonpos_of_nonneg (by omega) (by omega)
 have h2 : (x + 255) * (y - 255) ≤ 0 := Int.mul_nonpos_of_nonneg_of_nonpos (by omega) (by omega)
 have h3 : 0 ≤ (x + 255) * (y + 255) := Int.mul_nonneg (by omega) (by omega)
 have h4 : 0 ≤ (255 - x) * (255 - y) := Int.mul_nonneg (by omega) (by omega)
 have e1 : (x - 255) * (y + 255) = x * y + 255 * x - 255 * y - 65025 := by rw [Int.sub_mul, Int.mul_add]; omega
 have e2 : (x + 255) * (y - 255) = x * y - 255 * x + 255 * y - 65025 := by rw [Int.add_mul, Int.mul_sub]; omega
 have e3 : (x + 255) * (y + 255) = x * y + 255 * x + 255 * y + 65025 := by rw [Int.add_mul, Int.mul_add]; omega
 have e4 : (255 - x) * (255 - y) = x * y - 255 * x - 255 * y + 65025 := by rw [Int.sub_mul, Int.mul_sub, Int.mul_sub]; omega
 omega
theorem Mat.dot_le {xs ys : List Int} (hx : Mat.small xs) (hy : Mat.small ys) (za zb : Int) (ha : -128 ≤ za ∧ za ≤ 127) (hb : -128 ≤ zb ∧ zb ≤ 127) (inner n row col k : Nat) :
  -(65025 * (k : Int)) ≤ Mat.dot xs ys za zb inner n row col k ∧ Mat.dot xs ys za zb inner n row col k ≤ 65025 * (k : Int) := by
 induction k with
 | zero => exact ⟨Int.le_refl 0, Int.le_refl 0⟩
 | succ k ih =>
  have h1 := Mat.small_get hx (row * inner + k)
  have h2 := Mat.small_get hy (k * n + col)
  have h3 := Mat.prod_le (xs.getD (row * inner + k) 0 - za) (ys.getD (k * n + col) 0 - zb) (by omega) (by omega)
  show _ ≤ Mat.dot xs ys za zb inner n row col k + _ ∧ Mat.dot xs ys za zb inner n row col k + _ ≤ _
  omega
set_option maxRecDepth 100000 in
set_option maxHeartbeats 4000000 in
theorem matmul_c (os : List Int) (a b : Ten) (za zb : Int) (M K N ocap f g : Nat) (w0 w : World) (hz : b.zs = [(K : Int), (N : Int)]) (hla : a.ds.length = M * K) (hlb : b.ds.length = K * N) (hN : 1 ≤ N) (hm : M * N ≤ 1000000) (hK : K ≤ 1000000)
  (ha : a.In w0) (hb : b.In w0) (hsa : Mat.small a.ds) (hsb : Mat.small b.ds) (hza : -128 ≤ za ∧ za ≤ 127) (hzb : -128 ≤ zb ∧ zb ≤ 127) (hB : Below w0.heap.size w0 w) (hg0 : w0.heap.size ≤ g) (hG : Has w g 3 (i64s os)) (hf : f + os.length ≤ M * N) :
  Calls Tryz.prog 106 #[.slice (some ⟨g, 0, none⟩) os.length ocap, .int .i64 f, .agg (tcells a.P a.zs.length a.cap a.u a.D a.ds.length a.dcap), .agg (tcells b.P b.zs.length b.cap b.u b.D b.ds.length b.dcap), .int .i64 za, .int .i64 zb] w fun e w' => e = .returned (.tuple #[]) ∧ Has w' g 3 (i64s (Mat.part a.ds b.ds za zb K N f os.length)) ∧ Below w0.heap.size w0 w' := by
 obtain ⟨r, hrr⟩ : ∃ r, Hid (Mat.part a.ds b.ds za zb K N f os.length = r) := ⟨_, hide rfl⟩
 have hrl : Hid (r.length = os.length) := hide (by rw [← hrr.out]; exact Mat.part_length _ _ _ _ _ _ _ _)
 have hri : Hid (∀ i, i < os.length → r[i]? = some (Tens.wide (Mat.dot a.ds b.ds za zb K N ((f + i) / N) ((f + i) % N) K))) := hide (fun i hi => by
  rw [← hrr.out]
  exact Mat.part_at _ _ _ _ _ _ _ _ _ hi)
 rw [hrr.out]
 clear hrr
 have HA := hide ha.dat
 have HA2 := hide hb.dat
 have HWD := hide (fun n => wide_c n)
 have HDB := hide (fun row col k => Mat.dot_le hsa hsb za zb hza hzb K N row col k)
 have HSA := hide hsa
 have HSB := hide hsb
 have HZA := hide hza
 have HZB := hide hzb
 obtain ⟨pd', z0, hPD', ez0, cz0⟩ := ri_at (hb.shp.below hB) 0 (by rw [hz]; simp)
 obtain ⟨pd, z1, hPD, ez1, cz1⟩ := ri_at (hb.shp.below hB) 1 (by rw [hz]; simp)
 obtain rfl : pd' = pd := Option.some.inj (hPD'.symm.trans hPD)
 have hz0 : z0 = K := by have h := ez0.out; rw [hz] at h; exact (Option.some.inj h).symm
 have hz1 : z1 = N := by have h := ez1.out; rw [hz] at h; exact (Option.some.inj h).symm
 subst hz0
 subst hz1
 have hzl : b.zs.length = 2 := by rw [hz]; rfl
 have hpl : pd'.block < w0.heap.size := by
  obtain ⟨ad', h1, h2, -⟩ := hb.shp.2 (by rw [hz]; simp)
  rw [hPD] at h1
  rw [Option.some.inj h1]
  exact h2
 have hlda := ha.ld
 have hldb := hb.ld
 obtain ⟨na, hna⟩ : ∃ n, Hid (a.ds.length = n) := ⟨_, hide rfl⟩
 obtain ⟨nb, hnb⟩ : ∃ n, Hid (b.ds.length = n) := ⟨_, hide rfl⟩
 obtain ⟨n, hn⟩ : ∃ n, Hid (os.length = n) := ⟨_, hide rfl⟩
 obtain ⟨nz, hnz⟩ : ∃ n, Hid (a.zs.length = n) := ⟨_, hide rfl⟩
 have hna' : Hid (na = M * K) := hide (hna.out.symm.trans hla)
 have hnb' : Hid (nb = K * N) := hide (hnb.out.symm.trans hlb)
 have HF : Hid (f + n ≤ M * N) := hide (by rw [← hn.out]; exact hf)
 have HM := hide hm
 rw [hna.out] at hlda
 rw [hnb.out] at hldb
 have hnbd : (n : Int) ≤ 1000000 := by have := HF.out; omega
 rw [hzl, hna.out, hnb.out, hnz.out, hPD, hn.out]
 rw [hn.out] at hrl hri
 have HOL := hide hn.out
 obtain ⟨W, hW⟩ : ∃ W, W = (w.alloc (.cells #[.slice a.P nz a.cap, .bool a.u, .slice a.D na a.dcap] 26)).alloc (.cells #[.slice (some pd') 2 b.cap, .bool b.u, .slice b.D nb b.dcap] 26) := ⟨_, rfl⟩
 have HX : Hid (Has W w.heap.size 26 [.slice a.P nz a.cap, .bool a.u, .slice a.D na a.dcap]) := hide (by rw [hW]; exact (Has.new w 26 _).alloc _)
 have HY : Hid (Has W (w.heap.size + 1) 26 [.slice (some pd') 2 b.cap, .bool b.u, .slice b.D nb b.dcap]) := hide (by
  rw [hW]
  have h := Has.new (w.alloc (.cells #[.slice a.P nz a.cap, .bool a.u, .slice a.D na a.dcap] 26)) 26 [.slice (some pd') 2 b.cap, .bool b.u, .slice b.D nb b.dcap]
  simpa using h)
 have HG : Hid (Has W g 3 (i64s os)) := hide (by rw [hW]; exact (hG.alloc _).alloc _)
 have HBw : Below w.heap.size w W := by rw [hW]; exact ((Below.refl w.heap.size w).alloc (Nat.le_refl _) _).alloc (by simp) _
 have HB := hide (hB.trans (HBw.mono hB.size))
 have hgl := hG.lt
 have hsz := hB.size
 have hpw : pd'.block < w.heap.size := by omega
 have cw0 : W.cell? pd' = some (.int .i64 K) := by
  rw [Addr.add_zero'] at cz0
  exact (HBw.cell hpw).trans cz0
 have cw1 : W.cell? (pd'.add 1) = some (.int .i64 N) := (HBw.cell (by rw [elm_block]; exact hpw)).trans cz1
 simp only [Addr.add, Nat.reduceEqDiff, if_false] at cw1
 have HW := hide hW
 have HK := hide hK
 clear ha hb hB hG hf hm hPD hPD' ez0 ez1 hz hzl hn cz0 cz1 hla hlb hW HBw hsa hsb hza hzb hnz
 unfold tcells
 go_enter Tryz.func106, Tryz.ntmps106
 go_wp2_with fail
 rw [← HW.out]
 have x0 : W.cell? ⟨w.heap.size + 1, 0, none⟩ = some (.slice (some pd') 2 b.cap) := HY.out.cell 0
 clear HW
 go_step3
 go_wp2_with fail
 go_quiet (fail)
 clear cw0 cw1 x0
 replace HX := hide (HX.out.drewN nq)
 replace HY := hide (HY.out.drewN nq)
 replace HG := hide (HG.out.drewN nq)
 replace HB := hide (below_drewN HB.out nq)
 generalize W.drewN nq = W2 at *
 go_wp2_with fail
 go_step3
 go_wp2_with fail
 go_loopg [31] n (fun q k wr => ∃ (i : Nat) (xs : List Int), q + i = n ∧ k = .int .i64 i ∧ Hid (xs.length = n) ∧ Hid (∀ j, j < i → xs[j]? = r[j]?) ∧ Hid (Has wr g 3 (i64s xs)) ∧ Hid (Has wr w.heap.size 26 [.slice a.P nz a.cap, .bool a.u, .slice a.D na a.dcap]) ∧ Hid (Has wr (w.heap.size + 1) 26 [.slice (some pd') 2 b.cap, .bool b.u, .slice b.D nb b.dcap]) ∧ Hid (Below w0.heap.size w0 wr))
 case atStart => exact ⟨0, os, by omega, rfl, HOL, hide (fun j hj => by omega), HG, HX, HY, HB⟩
 case round =>
  clear HG HX HY HB
  obtain ⟨i, xs, hi, rfl, HN, HI, HG, HX, HY, HB⟩ := hrel
  by_cases hlt : i < n
  ·have him : (i : Int) < n := by omega
   have hi0 : (0 : Int) ≤ (i : Int) := by omega
   obtain ⟨s, hs⟩ : ∃ s, Hid (f + i = s) := ⟨_, hide rfl⟩
   have hss := hs.out
   have hff := HF.out
   have Hw1 : Hid (IntKind.i64.wrap ((f : Int) + (i : Int)) = (s : Int)) := hide (by have := HM.out; rw [IntKind.wrap_i64]; omega)
   have hN0 : ¬ ((N : Int) = 0) := by omega
   have hw1 := Hw1.out
   go_wp2_with fail
   go_quiet (fail)
   clear hw1
   have hNn : 0 < N := hN
   have hsb : s < M * N := by omega
   obtain ⟨R, hR⟩ : ∃ R, Hid (s / N = R) := ⟨_, hide rfl⟩
   obtain ⟨C, hC⟩ : ∃ C, Hid (s % N = C) := ⟨_, hide rfl⟩
   have hRM : R < M := by rw [← hR.out]; exact Nat.div_lt_of_lt_mul (by rw [Nat.mul_comm]; exact hsb)
   have hCN : C < N := by rw [← hC.out]; exact Nat.mod_lt _ hNn
   have hmm := HM.out
   have Hqu : Hid (wrap64 ((s : Int) / (N : Int)) = (R : Int)) := hide (by
    rw [show (s : Int) / (N : Int) = (R : Int) by rw [← hR.out]; exact (Int.natCast_ediv s N).symm]
    have h1 : R * N ≤ M * N := Nat.mul_le_mul_right N (Nat.le_of_lt hRM)
    have h2 := Nat.le_mul_of_pos_right R hNn
    unfold wrap64
    omega)
   have Hre : Hid ((s : Int) % (N : Int) = (C : Int)) := hide (by rw [← hC.out]; exact (Int.natCast_emod s N).symm)
   have hv := hri.out i hlt
   rw [hs.out, hR.out, hC.out] at hv
   have HV := hide hv
   rw [Hqu.out, Hre.out]
   clear Hqu Hre Hw1 hN0 hv hss hff hsb
   replace HX := hide (HX.out.drewN nq)
   replace HY := hide (HY.out.drewN nq)
   replace HG := hide (HG.out.drewN nq)
   replace HB := hide (below_drewN HB.out nq)
   generalize wr.drewN nq = W3 at *
   go_wp2_with fail
   go_loopg [17, 18] K (fun q v k wr => ∃ (j : Nat) (s : Int), q + j = K ∧ k = .int .i64 j ∧ v = .int .i64 s ∧ Hid (Mat.dot a.ds b.ds za zb K N R C j = s) ∧ Hid (Has wr g 3 (i64s xs)) ∧ Hid (Has wr w.heap.size 26 [.slice a.P nz a.cap, .bool a.u, .slice a.D na a.dcap]) ∧ Hid (Has wr (w.heap.size + 1) 26 [.slice (some pd') 2 b.cap, .bool b.u, .slice b.D nb b.dcap]) ∧ Hid (Below w0.heap.size w0 wr))
   case atStart => exact ⟨0, 0, by omega, rfl, rfl, hide rfl, HG, HX, HY, HB⟩
   case round =>
    clear HG HX HY HB
    obtain ⟨j, s, hj, rfl, rfl, HD, HG, HX, HY, HB⟩ := hrel
    by_cases hjk : j = K
    ·subst hjk
     rw [HD.out] at HV
     have g1 : wr.cell? ⟨g, i, none⟩ = some (.int .i64 (xs[i]'(by rw [HN.out]; exact hlt))) := by
      rw [HG.out.cell]
      unfold i64s
      rw [List.getElem?_map, List.getElem?_eq_getElem (by rw [HN.out]; exact hlt)]
      rfl
     have gf := HG.out.frozen i
     have HC := hide (HWD.out s wr)
     obtain ⟨v, hv⟩ : ∃ v, Hid (Tens.wide s = v) := ⟨_, hide rfl⟩
     rw [hv.out] at HC HV
     go_wp2_with fail
     refine HC.out.mono ?_
     rintro e w9 ⟨rfl, hw⟩
     have hw := hw.symm
     subst hw
     go_wp2_with fail
     go_roundg (n - (i + 1))
     case measure => omega
     case rel =>
      refine ⟨i + 1, xs.set i v, by omega, by go_num, hide (by rw [List.length_set]; exact HN.out), hide (fun j hj => ?_), ?_, ?_, ?_, ?_⟩
      ·rw [List.getElem?_set]
       split
       ·rename_i h
        subst h
        rw [if_pos (by rw [HN.out]; exact hlt), HV.out]
       ·exact HI.out j (by omega)
      ·have h := HG.out.set_ i (.int .i64 v)
       unfold i64s at h ⊢
       rw [List.map_set]
       exact hide h
      ·exact hide (HX.out.far (p := ⟨g, i, none⟩) (by simp; omega) (.int .i64 v))
      ·exact hide (HY.out.far (p := ⟨g, i, none⟩) (by simp; omega) (.int .i64 v))
      ·exact hide (HB.out.setCell (p := ⟨g, i, none⟩) hg0 (.int .i64 v))
    ·have hjl : j < K := by omega
     have hje : ((j : Int) == (K : Int)) = false := by simp; omega
     have hNn' := hNn
     obtain ⟨p1, hp1⟩ : ∃ p, Hid (R * K = p) := ⟨_, hide rfl⟩
     obtain ⟨p2, hp2⟩ : ∃ p, Hid (j * N = p) := ⟨_, hide rfl⟩
     have hp1b : p1 + K ≤ na := by rw [← hp1.out, hna'.out, ← Nat.succ_mul]; exact Nat.mul_le_mul_right K hRM
     have hp2b : p2 + N ≤ nb := by rw [← hp2.out, hnb'.out, ← Nat.succ_mul]; exact Nat.mul_le_mul_right N hjl
     obtain ⟨q1, hq1⟩ : ∃ q, Hid (p1 + j = q) := ⟨_, hide rfl⟩
     obtain ⟨q2, hq2⟩ : ∃ q, Hid (p2 + C = q) := ⟨_, hide rfl⟩
     have hq1' := hq1.out
     have hq2' := hq2.out
     have hq1n : q1 < na := by omega
     have hq2n : q2 < nb := by omega
     have Hwp1 : Hid (IntKind.i64.wrap ((R : Int) * (K : Int)) = (p1 : Int)) := hide (by
      rw [show (R : Int) * (K : Int) = (p1 : Int) by rw [← hp1.out, Int.natCast_mul], IntKind.wrap_i64]
      omega)
     have Hwp2 : Hid (IntKind.i64.wrap ((j : Int) * (N : Int)) = (p2 : Int)) := hide (by
      rw [show (j : Int) * (N : Int) = (p2 : Int) by rw [← hp2.out, Int.natCast_mul], IntKind.wrap_i64]
      omega)
     have Hwq1 : Hid (IntKind.i64.wrap ((p1 : Int) + (j : Int)) = (q1 : Int)) := hide (by rw [IntKind.wrap_i64]; omega)
     have Hwq2 : Hid (IntKind.i64.wrap ((p2 : Int) + (C : Int)) = (q2 : Int)) := hide (by rw [IntKind.wrap_i64]; omega)
     obtain ⟨ad, x, hAD, ex, cx⟩ := ri_at (HA.out.below HB.out) q1 (by rw [hna.out]; exact hq1n)
     obtain ⟨bd, y, hBD, ey, cy⟩ := ri_at (HA2.out.below HB.out) q2 (by rw [hnb.out]; exact hq2n)
     have hxb := HSA.out x (List.mem_of_getElem? ex.out)
     have hyb := HSB.out y (List.mem_of_getElem? ey.out)
     have hzab := HZA.out
     have hzbb := HZB.out
     have hpr := Mat.prod_le (x - za) (y - zb) (by omega) (by omega)
     have hdl := HDB.out R C j
     rw [HD.out] at hdl
     obtain ⟨x', hx'⟩ : ∃ q, Hid (x - za = q) := ⟨_, hide rfl⟩
     obtain ⟨y', hy'⟩ : ∃ q, Hid (y - zb = q) := ⟨_, hide rfl⟩
     have Hwx : Hid (IntKind.i64.wrap (x - za) = x') := hide (by rw [IntKind.wrap_i64, ← hx'.out]; omega)
     have Hwy : Hid (IntKind.i64.wrap (y - zb) = y') := hide (by rw [IntKind.wrap_i64, ← hy'.out]; omega)
     rw [hx'.out, hy'.out] at hpr
     obtain ⟨pr, hpr'⟩ : ∃ q, Hid (x' * y' = q) := ⟨_, hide rfl⟩
     rw [hpr'.out] at hpr
     have Hwpr : Hid (IntKind.i64.wrap (x' * y') = pr) := hide (by rw [hpr'.out, IntKind.wrap_i64]; omega)
     obtain ⟨s', hs'⟩ : ∃ q, Hid (s + pr = q) := ⟨_, hide rfl⟩
     have Hws : Hid (IntKind.i64.wrap (s + pr) = s') := hide (by rw [IntKind.wrap_i64, ← hs'.out]; have := HK.out; omega)
     have HD' : Hid (Mat.dot a.ds b.ds za zb K N R C (j + 1) = s') := hide (by
      show Mat.dot a.ds b.ds za zb K N R C j + (a.ds.getD (R * K + j) 0 - za) * (b.ds.getD (j * N + C) 0 - zb) = s'
      rw [HD.out, hp1.out, hp2.out, hq1.out, hq2.out, List.getD_eq_getElem?_getD, List.getD_eq_getElem?_getD, ex.out, ey.out, Option.getD_some, Option.getD_some, hx'.out, hy'.out, hpr'.out, hs'.out])
     have hq10 : (0 : Int) ≤ (q1 : Int) := by omega
     have hq11 : (q1 : Int) < na := by omega
     have hq20 : (0 : Int) ≤ (q2 : Int) := by omega
     have hq21 : (q2 : Int) < nb := by omega
     have hj1 : ((j : Nat) : Int) + 1 ≤ 1000001 := by have := HK.out; omega
     have HAD := hide hAD
     have HBD := hide hBD
     rw [hAD] at HX
     rw [hBD] at HY
     have a2 : wr.cell? ⟨w.heap.size, 2, none⟩ = some (.slice (some ad) na a.dcap) := HX.out.cell 2
     have b2 : wr.cell? ⟨w.heap.size + 1, 2, none⟩ = some (.slice (some bd) nb b.dcap) := HY.out.cell 2
     clear hAD hBD hp1b hp2b hq1' hq2' hq1n hq2n hxb hyb hpr hdl hzab hzbb ex ey
     go_wp2_with fail
     have hwp1 := Hwp1.out
     have hwp2 := Hwp2.out
     have hwq1 := Hwq1.out
     have hwq2 := Hwq2.out
     have hwx := Hwx.out
     have hwy := Hwy.out
     have hwpr := Hwpr.out
     have hws := Hws.out
     go_quiet (fail)
     clear hwp1 hwp2 hwq1 hwq2 hwx hwy hwpr hws a2 b2 cx cy
     go_wp2_with fail
     go_roundg (K - (j + 1))
     case measure => omega
     case rel =>
      refine ⟨j + 1, s', by omega, by go_num, rfl, HD', hide (HG.out.drewN nq), ?_, ?_, hide (below_drewN HB.out nq)⟩
      ·have h := hide (HX.out.drewN nq)
       rw [← HAD.out] at h
       exact h
      ·have h := hide (HY.out.drewN nq)
       rw [← HBD.out] at h
       exact h
  ·obtain rfl : i = n := by omega
   have hx : xs = r := List.ext_getElem? (fun j => by
    rcases Nat.lt_or_ge j i with h | h
    ·exact HI.out j h
    ·rw [List.getElem?_eq_none (by rw [HN.out]; exact h), List.getElem?_eq_none (by rw [hrl.out]; exact h)])
   subst hx
   go_wp2_with fail
   refine bodyPost_end (results_none rfl _ _ _) rfl ?_
   exact ⟨rfl, HG.out, HB.out⟩
abbrev LkS (ad : Addr) (x0 x1 x2 x3 : Value) (W : World) : Prop := W.cell? ad = some x0 ∧ W.cell? ⟨ad.block, ad.off + 1, none⟩ = some x1 ∧ W.cell? ⟨ad.block, ad.off + 2, none⟩ = some x2 ∧ W.cell? ⟨ad.block, ad.off + 3, none⟩ = some x3
theorem LkS.keep {ad : Addr} {x0 x1 x2 x3 : Value} {W W' : World} (h : LkS ad x0 x1 x2 x3 W) (hl : ad.block < W.heap.size) (hb : Below W.heap.size W W') : LkS ad x0 x1 x2 x3 W' :=
 ⟨(hb.cell hl).trans h.1, (hb.cell (p := ⟨ad.block, ad.off + 1, none⟩) hl).trans h.2.1, (hb.cell (p := ⟨ad.block, ad.off + 2, none⟩) hl).trans h.2.2.1, (hb.cell (p := ⟨ad.block, ad.off + 3, none⟩) hl).trans h.2.2.2⟩
theorem LkS.far2 {ad : Addr} {x0 x1 x2 x3 : Value} {W : World} (h : LkS ad x0 x1 x2 x3 W) {b : Nat} (hn : b ≠ ad.block) (x y : Value) : LkS ad x0 x1 x2 x3 ((W.setCell ⟨b, 0, none⟩ x).setCell ⟨b, 1, none⟩ y) := by
 have k : ∀ (p : Addr), p.block = ad.block → ((W.setCell ⟨b, 0, none⟩ x).setCell ⟨b, 1, none⟩ y).cell? p = W.cell? p := fun p hp => by
  rw [World.cell?_setCell_far _ _ _ _ (by rw [hp]; exact hn), World.cell?_setCell_far _ _ _ _ (by rw [hp]; exact hn)]
 exact ⟨(k ad rfl).trans h.1, (k ⟨ad.block, ad.off + 1, none⟩ rfl).trans h.2.1, (k ⟨ad.block, ad.off + 2, none⟩ rfl).trans h.2.2.1, (k ⟨ad.block, ad.off + 3, none⟩ rfl).trans h.2.2.2⟩
theorem Shp.whole {zs : List Int} (h : Shp.code zs = 0) : zs.length ≤ 4 ∧ (∀ z ∈ zs, 1 ≤ z ∧ z ≤ 256) ∧ Shp.elems zs = Shp.prod zs ∧ 1 ≤ Shp.prod zs ∧ Shp.prod zs ≤ 16384 := by
 have hk : Shp.ok zs = true := by unfold Shp.ok; exact decide_eq_true h
 obtain ⟨h1, h2, h3⟩ := (Shp.ok_iff zs).1 hk
 refine ⟨h1, fun z hz => ?_, ?_, (Shp.prod_pos zs h2).1, h3⟩
 ·have := List.all_eq_true.1 h2 z hz
  exact of_decide_eq_true this
 ·unfold Shp.elems
  rw [if_pos hk]
theorem Tens.whole {t : Ten} (h : t.fault = (0, none)) : Shp.code t.zs = 0 ∧ (t.ds.length : Int) = Shp.prod t.zs ∧ ∀ z ∈ t.ds, Tens.fit t.u z = true := by
 have hf : Tens.fault t.zs t.u t.ds = (0, none) := h
 obtain ⟨h1, h2⟩ := fine_len hf
 refine ⟨h2, by rw [h1]; exact (Shp.whole h2).2.2.1, ?_⟩
 unfold Tens.fault at hf
 rw [if_neg (by omega), if_neg (by omega)] at hf
 split at hf
 ·cases hf
 ·rename_i hn
  rw [List.findIdx?_eq_none_iff] at hn
  intro z hz
  have := hn z hz
  simpa using this
theorem fit_narrow {u : Bool} {z : Int} (hu : u = false) (h : Tens.fit u z = true) : -128 ≤ z ∧ z ≤ 127 := by
 unfold Tens.fit at h
 rw [hu, if_neg (by decide)] at h
 exact of_decide_eq_true h
theorem fit_any {u : Bool} {z : Int} (h : Tens.fit u z = true) : -2147483648 ≤ z ∧ z ≤ 2147483647 := by
 unfold Tens.fit at h
 split at h
 ·exact of_decide_eq_true h
 ·have := of_decide_eq_true h
  omega
theorem narrow_self {n : Int} (h : Tens.narrow n = n) : -128 ≤ n ∧ n ≤ 127 := by
 unfold Tens.narrow at h
 omega
theorem Cel.fine {ts : List Ten} {k : Nat} (h : Cel.fault ts k = (0, none)) : Tens.first ts = (0, none) ∧ k = 0 := by
 unfold Cel.fault at h
 split at h
 ·rename_i h1
  exact ⟨h1, congrArg Prod.fst h⟩
 ·rename_i h1
  exact absurd h h1
theorem wide_wf (n : Int) : (Lit.int .i64 (Tens.wide n)).wf = true := wf_i64 _ (by unfold Tens.wide; omega)
def Mat.ds (za zb : Int) (a b : Ten) : List Int := Mat.part a.ds b.ds za zb (b.zs.getD 0 0).toNat (b.zs.getD 1 0).toNat 0 ((a.zs.getD 0 0).toNat * (b.zs.getD 1 0).toNat)
def Mat.el (za zb : Int) (a b : Ten) (i : Int) : Int := (if 0 ≤ i then (Mat.ds za zb a b).getD i.toNat 0 else 0)
structure Mat.Fine (za zb : Int) (a b : Ten) (M K N : Nat) : Prop where
 az : a.zs = [(M : Int), (K : Int)]
 bz : b.zs = [(K : Int), (N : Int)]
 m1 : 1 ≤ M
 m2 : M ≤ 256
 k1 : 1 ≤ K
 k2 : K ≤ 256
 n1 : 1 ≤ N
 n2 : N ≤ 256
 al : a.ds.length = M * K
 bl : b.ds.length = K * N
 mn : M * N ≤ 16384
 sa : Mat.small a.ds
 sb : Mat.small b.ds
 ra : -128 ≤ za ∧ za ≤ 127
 rb : -128 ≤ zb ∧ zb ≤ 127
 sh : Mat.shape za zb a.look b.look = [(M : Int), (N : Int)]
 kd : Mat.kind za zb a.look b.look = true
 ds : Mat.ds za zb a b = Mat.part a.ds b.ds za zb K N 0 (M * N)
theorem Mat.fine {za zb : Int} {a b : Ten} (h : Cel.fault [a, b] (Mat.code za zb a.look b.look) = (0, none)) : ∃ M K N : Nat, Mat.Fine za zb a b M K N := by
 obtain ⟨h1, h2⟩ := Cel.fine h
 have hfa := Tens.whole (Tens.first_fine _ h1 a (by simp))
 have hfb := Tens.whole (Tens.first_fine _ h1 b (by simp))
 have hwa := Shp.whole hfa.1
 have hwb := Shp.whole hfb.1
 have hc := h2
 unfold Mat.code at h2
 split at h2
 ·rename_i h3
  exact absurd h2 h3
 split at h2
 ·cases h2
 rename_i h4
 split at h2
 ·cases h2
 rename_i h5
 have hua : a.u = false := by
  cases e : a.u
  ·rfl
  ·exact absurd (.inl e) h4
 have hub : b.u = false := by
  cases e : b.u
  ·rfl
  ·exact absurd (.inr (.inl e)) h4
 have hal : a.zs.length = 2 := Classical.byContradiction fun e => h4 (.inr (.inr (.inl e)))
 have hbl : b.zs.length = 2 := Classical.byContradiction fun e => h4 (.inr (.inr (.inr (.inl e))))
 have hk : a.zs.getD 1 0 = b.zs.getD 0 0 := Classical.byContradiction fun e => h4 (.inr (.inr (.inr (.inr e))))
 have hza : Tens.narrow za = za := Classical.byContradiction fun e => h5 (.inl e)
 have hzb : Tens.narrow zb = zb := Classical.byContradiction fun e => h5 (.inr e)
 obtain ⟨x0, x1, hx⟩ : ∃ x y, a.zs = [x, y] := by
  match h : a.zs, hal with
  | [x, y], _ => exact ⟨x, y, rfl⟩
 obtain ⟨y0, y1, hy⟩ : ∃ x y, b.zs = [x, y] := by
  match h : b.zs, hbl with
  | [x, y], _ => exact ⟨x, y, rfl⟩
 have hx' : a.look.zs = [x0, x1] := hx
 have hy' : b.look.zs = [y0, y1] := hy
 rw [hx, hy] at hk
 obtain rfl : x1 = y0 := hk
 rw [hx] at hfa hwa
 rw [hy] at hfb hwb
 have d0 := hwa.2.1 x0 (by simp)
 have d1 := hwa.2.1 x1 (by simp)
 have d2 := hwb.2.1 y1 (by simp)
 obtain ⟨M, rfl⟩ : ∃ n : Nat, x0 = n := ⟨x0.toNat, by omega⟩
 obtain ⟨K, rfl⟩ : ∃ n : Nat, x1 = n := ⟨x1.toNat, by omega⟩
 obtain ⟨N, rfl⟩ : ∃ n : Nat, y1 = n := ⟨y1.toNat, by omega⟩
 have hp : Shp.code [(M : Int), (N : Int)] = 0 := by
  rw [hx', hy'] at h2
  exact h2
 have hwp := (Shp.whole hp).2.2.2.2
 have e1 : Shp.prod [(M : Int), (N : Int)] = ((M * N : Nat) : Int) := by simp [Shp.prod]
 have e2 : Shp.prod [(M : Int), (K : Int)] = ((M * K : Nat) : Int) := by simp [Shp.prod]
 have e3 : Shp.prod [(K : Int), (N : Int)] = ((K * N : Nat) : Int) := by simp [Shp.prod]
 rw [e1] at hwp
 rw [e2] at hfa
 rw [e3] at hfb
 refine ⟨M, K, N, hx, hy, by omega, by omega, by omega, by omega, by omega, by omega, Int.ofNat.inj hfa.2.1, Int.ofNat.inj hfb.2.1, by omega, fun z hz => fit_narrow hua (hfa.2.2 z hz), fun z hz => fit_narrow hub (hfb.2.2 z hz), narrow_self hza, narrow_self hzb, ?_, ?_, ?_⟩
 ·unfold Mat.shape
  rw [if_pos hc, hx', hy']
  rfl
 ·unfold Mat.kind
  exact decide_eq_true hc
 ·unfold Mat.ds
  rw [hx, hy]
  rfl
theorem mof_c (za zb : Int) (a b : Ten) (M K N : Nat) (hf : Mat.Fine za zb a b M K N) (A B : Option Addr) (qcap bcap f n : Nat) (w : World) (hQ : Ri w A [za, zb]) (hR : Row w B ([a, b].flatMap Ten.vals)) (ha : a.In w) (hb : b.In w) (hn : f + n ≤ M * N) :
  Calls Tryz.prog 83 #[.int .i64 12, .slice A 2 qcap, .int .i64 f, .int .i64 ((f + n : Nat) : Int), .slice B 2 bcap] w fun e w' => (∃ g, e = .returned (.slice (some ⟨g, 0, none⟩) n n) ∧ w.heap.size ≤ g ∧ Has w' g 3 (i64s (Mat.part a.ds b.ds za zb K N f n))) ∧ Below w.heap.size w w' := by
 have hmn := hf.mn
 refine of_any (Mat.part a.ds b.ds za zb K N f n) 12 A B 2 qcap 2 bcap f n w (by omega) fun W g hB hg hG => ?_
 refine fill_mat _ a b za zb A B qcap bcap n f n (some ⟨g, 0, none⟩) W (hQ.below hB) (hR.below hB) ?_
 have h := matmul_c (List.replicate n 0) a b za zb M K N n f g w W.drew hf.bz hf.al hf.bl hf.n1 (by omega) (by have := hf.k2; omega) ha hb hf.sa hf.sb hf.ra hf.rb hB.drew hg (hG.drewN 1) (by rw [List.length_replicate]; exact hn)
 rw [List.length_replicate] at h
 exact h
theorem Mat.part_wf (xs ys : List Int) (za zb : Int) (inner n f m : Nat) : ∀ z ∈ Mat.part xs ys za zb inner n f m, (Lit.int .i64 z).wf = true := by
 intro z hz
 unfold Mat.part at hz
 obtain ⟨i, -, rfl⟩ := List.mem_map.1 hz
 exact wide_wf _
def Mat.cell (za zb : Int) (a b : Ten) (i : Int) : Int := if Cel.fault [a, b] (Mat.code za zb a.look b.look) = (0, none) then (if 0 ≤ i then (Mat.ds za zb a b).getD i.toNat 0 else 0) else 0
theorem Mat.prod_two (M N : Nat) (h1 : 1 ≤ M) (h2 : M ≤ 256) (h3 : 1 ≤ N) (h4 : N ≤ 256) (h : M * N ≤ 16384) : Shp.code [(M : Int), (N : Int)] = 0 ∧ Shp.elems [(M : Int), (N : Int)] = ((M * N : Nat) : Int) := by
 have hc : Shp.code [(M : Int), (N : Int)] = 0 := by
  unfold Shp.code
  have e1 : Shp.prod [(M : Int), (N : Int)] = ((M * N : Nat) : Int) := by simp [Shp.prod]
  rw [if_neg (by show ¬ 4 < 2; omega), if_neg (by simp [Shp.okDim]; omega), if_neg (by rw [e1]; omega)]
 refine ⟨hc, ?_⟩
 rw [(Shp.whole hc).2.2.1]
 simp [Shp.prod]
def Mat.tcode (d : Dsc) : Nat := if Shp.code d.zs ≠ 0 then Shp.code d.zs else if d.zs.length ≠ 2 then 101 else 0
structure Mat.TFine (a : Ten) (M N : Nat) : Prop where
 az : a.zs = [(M : Int), (N : Int)]
 m1 : 1 ≤ M
 m2 : M ≤ 256
 n1 : 1 ≤ N
 n2 : N ≤ 256
 al : a.ds.length = M * N
 mn : M * N ≤ 16384
 ft : ∀ z ∈ a.ds, Tens.fit a.u z = true
theorem Mat.tfine {a : Ten} (h : Cel.fault [a] (Mat.tcode a.look) = (0, none)) : ∃ M N : Nat, Mat.TFine a M N := by
 obtain ⟨h1, h2⟩ := Cel.fine h
 have hfa := Tens.whole (Tens.first_fine _ h1 a (by simp))
 have hwa := Shp.whole hfa.1
 unfold Mat.tcode at h2
 rw [if_neg (by rw [show Shp.code a.look.zs = 0 from hfa.1]; simp)] at h2
 have hal : a.zs.length = 2 := Classical.byContradiction fun e => by rw [if_pos (show a.look.zs.length ≠ 2 from e)] at h2; cases h2
 obtain ⟨x0, x1, hx⟩ : ∃ x y, a.zs = [x, y] := by
  match h : a.zs, hal with
  | [x, y], _ => exact ⟨x, y, rfl⟩
 rw [hx] at hfa hwa
 have d0 := hwa.2.1 x0 (by simp)
 have d1 := hwa.2.1 x1 (by simp)
 obtain ⟨M, rfl⟩ : ∃ n : Nat, x0 = n := ⟨x0.toNat, by omega⟩
 obtain ⟨N, rfl⟩ : ∃ n : Nat, x1 = n := ⟨x1.toNat, by omega⟩
 have e2 : Shp.prod [(M : Int), (N : Int)] = ((M * N : Nat) : Int) := by simp [Shp.prod]
 have hwp := hwa.2.2.2.2
 rw [e2] at hfa hwp
 exact ⟨M, N, hx, by omega, by omega, by omega, by omega, Int.ofNat.inj hfa.2.1, by omega, hfa.2.2⟩
theorem Mat.turn_wf (ds : List Int) (u : Bool) (m n f k : Nat) (h : ∀ z ∈ ds, Tens.fit u z = true) : ∀ z ∈ Mat.turn ds m n f k, (Lit.int .i64 z).wf = true := by
 intro z hz
 unfold Mat.turn at hz
 obtain ⟨i, -, rfl⟩ := List.mem_map.1 hz
 rw [List.getD_eq_getElem?_getD]
 cases e : ds[(f + i) % m * n + (f + i) / m]? with
 | none => exact wf_i64 _ (by decide)
 | some q => exact wf_i64 _ (by have := fit_any (h q (List.mem_of_getElem? e)); rw [Option.getD_some]; omega)
theorem tof_turn (a : Ten) (M N : Nat) (hf : Mat.TFine a M N) (A B : Option Addr) (nq qcap bcap f n : Nat) (w : World) (hR : Row w B ([a].flatMap Ten.vals)) (ha : a.In w) (hn : f + n ≤ M * N) :
  Calls Tryz.prog 83 #[.int .i64 21, .slice A nq qcap, .int .i64 f, .int .i64 ((f + n : Nat) : Int), .slice B 1 bcap] w fun e w' => (∃ g, e = .returned (.slice (some ⟨g, 0, none⟩) n n) ∧ w.heap.size ≤ g ∧ Has w' g 3 (i64s (Mat.turn a.ds M N f n))) ∧ Below w.heap.size w w' := by
 have hmn := hf.mn
 refine of_any (Mat.turn a.ds M N f n) 21 A B nq qcap 1 bcap f n w (by omega) fun W g hB hg hG => ?_
 refine fill_turn _ a A B nq qcap bcap n f n (some ⟨g, 0, none⟩) W (hR.below hB) ?_
 have h := turn_c (List.replicate n 0) a M N n f g w W hf.az hf.al hf.m1 (by omega) ha hB hg hG (by rw [List.length_replicate]; exact hn)
 rw [List.length_replicate] at h
 exact h
structure Mat.Is (t : Ten) (M N : Nat) (u : Bool) : Prop where
 zs : t.zs = [(M : Int), (N : Int)]
 hu : t.u = u
 len : t.ds.length = M * N
 ft : ∀ z ∈ t.ds, Tens.fit u z = true
theorem Mat.Is.fault {t : Ten} {M N : Nat} {u : Bool} (h : Mat.Is t M N u) (h1 : 1 ≤ M) (h2 : M ≤ 100) (h3 : 1 ≤ N) (h4 : N ≤ 100) : t.fault = (0, none) := by
 have hmn : M * N ≤ 100 * 100 := Nat.mul_le_mul h2 h4
 obtain ⟨e1, e2⟩ := Mat.prod_two M N h1 (by omega) h3 (by omega) (by omega)
 show Tens.fault t.zs t.u t.ds = (0, none)
 rw [h.zs, h.hu]
 exact Tens.fault_none _ _ _ e1 (by rw [e2, h.len]) (fun j y hy => h.ft y (List.mem_of_getElem? hy))
theorem Mat.Is.small {t : Ten} {M N : Nat} (h : Mat.Is t M N false) : Mat.small t.ds := fun z hz => fit_narrow rfl (h.ft z hz)
theorem Mat.lit {w : World} {gs g T M N : Nat} {ds : List Int} (hS : Has w gs 3 (i64s [(M : Int), (N : Int)])) (hD : Has w g 3 (i64s ds)) (hL : ds.length = T) (hT : M * N = T) (hs : Mat.small ds) (h1 : M ≤ 100) (h2 : N ≤ 100) :
  Ten.In w ⟨some ⟨gs, 0, none⟩, [(M : Int), (N : Int)], 2, false, some ⟨g, 0, none⟩, ds, T⟩ ∧ Mat.Is ⟨some ⟨gs, 0, none⟩, [(M : Int), (N : Int)], 2, false, some ⟨g, 0, none⟩, ds, T⟩ M N false := by
 have hmn : M * N ≤ 100 * 100 := Nat.mul_le_mul h1 h2
 refine ⟨⟨hS.ri ?_, hD.ri ?_, by show 2 ≤ 1000000; omega, by show ds.length ≤ 1000000; omega⟩, ⟨rfl, rfl, by show ds.length = _; omega, fun z hz => ?_⟩⟩
 ·intro q hq
  simp at hq
  rcases hq with rfl | rfl
  ·exact wf_i64 _ (by omega)
  ·exact wf_i64 _ (by omega)
 ·intro q hq
  exact wf_i64 _ (by have := hs q hq; omega)
 ·unfold Tens.fit
  rw [if_neg (by decide)]
  exact decide_eq_true (hs z hz)
theorem copy_run (w : World) (ty : TypeId) (g off dLen dCap : Nat) (ad : Addr) (sLen sCap : Nat) (cur cs : List Int) (hg : Has w g 3 (i64s cur)) (hn : cs.length = Nat.min sLen dLen) (hsrc : ∀ (j : Nat) (z : Int), cs[j]? = some z → w.cell? (ad.add j) = some (.int .i64 z)) (hfit : off + cs.length ≤ cur.length) :
  ∃ w', (Builtin.copy_ #[22, 22] ty #[.slice (some ⟨g, off, none⟩) dLen dCap, .slice (some ad) sLen sCap]).run Tryz.prog w = .ok (.int .i64 cs.length) w' ∧
   Has w' g 3 (i64s (cur.take off ++ (cs ++ cur.drop (off + cs.length)))) ∧ (∀ (b : Nat) (t : TypeId) (xs : List Value), b ≠ g → Has w b t xs → Has w' b t xs) ∧ (∀ (B : Nat) (w0 : World), B ≤ g → Below B w0 w → Below B w0 w') ∧ w'.heap.size = w.heap.size := by
 have hl : (i64s cs).length = cs.length := by simp
 have h := run_copy_row (P := Tryz.prog) w 22 22 ty 3 g off dLen dCap ad sLen sCap (i64s cur).toArray 3 (i64s cs) uis (by kernel_rfl) hg (by rw [hl]; exact hn) (fun j v hv => by
  unfold i64s at hv
  rw [List.getElem?_map, Option.map_eq_some_iff] at hv
  obtain ⟨z, hz, rfl⟩ := hv
  exact hsrc j z hz) (by simpa using hfit) (i64s_one cs)
 rw [hl] at h
 refine ⟨_, h, ?_, fun b t xs hb hx => ?_, fun B w0 hB hb => below_setRow hb hB _, by simp [World.setRow]⟩
 ·have h2 := setRow_heap w g (i64s cur).toArray ((i64s cur).toArray.toList.take off ++ i64s cs ++ (i64s cur).toArray.toList.drop (off + cs.length)).toArray 3 (0, 0) hg
  unfold Has
  rw [h2]
  unfold i64s
  simp
 ·unfold Has at hx ⊢
  rw [setRow_other _ _ _ _ hb]
  exact hx
end Go.Proofs.YtgdcfjmpjhlndaaGreatDoor
