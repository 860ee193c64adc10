/-
  lodgeref3.Unit, walked. By an AI agent. No person has read it.
-/
import Derived.Test.YtgdcfjmpjhlndaaGreatDoorZOOpE
import Derived.Test.YtgdcfjmpjhlndaaGreatDoorZOOpH
namespace Go.Proofs.YtgdcfjmpjhlndaaGreatDoor
open Go.RowKit
def OpV (w : World) (k : Nat) (u : Int) (e : Ending) (w' : World) : Prop :=
 e = .returned (.tuple #[.int .i64 u, .int .i64 (k : Nat)]) ∧ Below w.heap.size w w'
theorem Shp.elems3 {x0 x1 x2 x3 : Int} (h : Shp.code [x0, x1, x2, x3] = 0) : Shp.elems [x0, x1, x2] = x0 * x1 * x2 ∧ (0 ≤ x0 * x1 ∧ x0 * x1 ≤ 65536) ∧ 0 ≤ x0 * x1 * x2 ∧ x0 * x1 * x2 ≤ 16384 := by
 obtain ⟨-, h2, -, h4, h5⟩ := Shp.whole h
 have b0 := h2 x0 (by simp)
 have b1 := h2 x1 (by simp)
 have b2 := h2 x2 (by simp)
 have b3 := h2 x3 (by simp)
 have e4 : Shp.prod [x0, x1, x2, x3] = x0 * x1 * x2 * x3 := by simp only [Shp.prod, Int.mul_one, Int.mul_assoc]
 have e3 : Shp.prod [x0, x1, x2] = x0 * x1 * x2 := by simp only [Shp.prod, Int.mul_one, Int.mul_assoc]
 rw [e4] at h4 h5
 have p1 : 0 ≤ x0 * x1 := Int.mul_nonneg (by omega) (by omega)
 have p2 : x0 * x1 ≤ 256 * 256 := Int.mul_le_mul b0.2 b1.2 (by omega) (by omega)
 have p3 : 0 ≤ x0 * x1 * x2 := Int.mul_nonneg p1 (by omega)
 have p4 : x0 * x1 * x2 * 1 ≤ x0 * x1 * x2 * x3 := Int.mul_le_mul_of_nonneg_left b3.1 p3
 refine ⟨?_, ⟨p1, by omega⟩, p3, by omega⟩
 rw [Shp.elems_ok (by simp) (fun z hz => h2 z (by simp at hz ⊢; omega)) (by rw [e3]; omega), e3]
set_option maxRecDepth 100000 in
set_option maxHeartbeats 4000000 in
theorem runit_bad (op : Int) (qs : List Int) (ds : List Dsc) (A B : Option Addr) (qcap cap : Nat) (w : World) (h : (Op.look op qs ds).1 ≠ 0) (hQ : Ri w A qs) (hql : qs.length ≤ 1000000) (hR : Row w B (ds.flatMap Dsc.vals)) (hI : ∀ d ∈ ds, d.In w) (hl : ds.length ≤ 1000000) (hcap : ∀ d ∈ ds, d.zs.length ≤ d.cap) :
  Calls Tryz.prog 57 #[.int .i64 op, .slice A qs.length qcap, .slice B ds.length cap] w (OpV w (Op.look op qs ds).1 (0)) := by
 have HV := hide (rres_c op qs ds A B qcap cap w hQ hql hR hI hl hcap)
 obtain ⟨L, hL⟩ : ∃ L, Hid (Op.look op qs ds = L) := ⟨_, hide rfl⟩
 rw [hL.out] at HV h ⊢
 obtain ⟨k, sh, kd⟩ := L
 have h : k ≠ 0 := h
 have i1 : ((k : Int) == 0) = false := by simp; omega
 have i2 : ((k : Int) != 0) = true := by simp; omega
 unfold OpR at HV
 rw [show ((k, sh, kd) : Nat × List Int × Bool).1 = k from rfl] at HV
 obtain ⟨n, hn⟩ : ∃ n, Hid (ds.length = n) := ⟨_, hide rfl⟩
 obtain ⟨m, hm⟩ : ∃ n, Hid (qs.length = n) := ⟨_, hide rfl⟩
 rw [hn.out, hm.out] at HV ⊢
 clear hQ hql hR hI hl hcap h hL
 go_enter Tryz.func57, Tryz.ntmps57
 go_wp2_with fail
 refine HV.out.mono ?_
 rintro e w1 ⟨⟨d, rfl, -, -, -⟩, hb⟩
 have HB := hide (hb.alloc hb.size (.cells #[.slice d.P d.zs.length d.cap, .bool d.u] 24))
 clear hb HV
 go_wp2_with fail
 refine bodyPost_ret (results_two rfl _ _) rfl ?_
 exact ⟨rfl, HB.out⟩
set_option maxRecDepth 100000 in
set_option maxHeartbeats 4000000 in
theorem runit_other (op : Int) (qs : List Int) (a : Dsc) (l : List Dsc) (A B : Option Addr) (qcap cap : Nat) (w : World) (hop : op ≠ 10 ∧ op ≠ 12 ∧ op ≠ 13 ∧ op ≠ 14 ∧ op ≠ 15 ∧ op ≠ 16 ∧ op ≠ 19 ∧ op ≠ 20) (hl0 : (Op.look op qs (a :: l)).1 = 0) (hQ : Ri w A qs) (hql : qs.length ≤ 1000000) (hR : Row w B ((a :: l).flatMap Dsc.vals)) (hI : ∀ d ∈ (a :: l), d.In w) (hl : (a :: l).length ≤ 1000000) (hcap : ∀ d ∈ (a :: l), d.zs.length ≤ d.cap) :
  Calls Tryz.prog 57 #[.int .i64 op, .slice A qs.length qcap, .slice B (a :: l).length cap] w (OpV w 0 (1)) := by
 have HV := hide (rres_c op qs (a :: l) A B qcap cap w hQ hql hR hI hl hcap)
 unfold OpR at HV
 rw [hl0] at HV
 obtain ⟨ad, hB, had, e0, -⟩ := rowd_first hR
 subst hB
 have b10 : (op == 10) = false := by simp; omega
 have b12 : (op == 12) = false := by simp; omega
 have b13 : (op == 13) = false := by simp; omega
 have b14 : (op == 14) = false := by simp; omega
 have b15 : (op == 15) = false := by simp; omega
 have b16 : (op == 16) = false := by simp; omega
 have b19 : (op == 19) = false := by simp; omega
 have b20 : (op == 20) = false := by simp; omega
 obtain ⟨n, hn⟩ : ∃ n, Hid ((a :: l).length = n) := ⟨_, hide rfl⟩
 have hn0 : (0 : Int) < (n : Int) := by have h := hn.out; rw [List.length_cons] at h; omega
 obtain ⟨m, hm⟩ : ∃ n, Hid (qs.length = n) := ⟨_, hide rfl⟩
 rw [hn.out, hm.out] at HV ⊢
 clear hQ hql hR hI hl hcap hl0
 go_enter Tryz.func57, Tryz.ntmps57
 go_wp2_with fail
 refine HV.out.mono ?_
 rintro e w1 ⟨⟨d, rfl, -, -, -⟩, hb⟩
 have hbA := hb.alloc hb.size (.cells #[.slice d.P d.zs.length d.cap, .bool d.u] 24)
 have HB := hide hbA
 have c0 : w1.cell? ad = some (.slice a.P a.zs.length a.cap) := (hb.cell had).trans e0
 have l1 : ad.block < w1.heap.size := Nat.lt_of_lt_of_le had hb.size
 clear had e0
 clear hb HV hbA
 go_wp2_with fail
 refine bodyPost_ret (results_two rfl _ _) rfl ?_
 exact ⟨rfl, HB.out⟩
set_option maxRecDepth 100000 in
set_option maxHeartbeats 4000000 in
theorem runit_10 (qs : List Int) (a : Dsc) (A B : Option Addr) (qcap cap : Nat) (w : World) (hqs : qs.length = 3) (hl0 : (Op.look 10 qs ([a])).1 = 0) (hQ : Ri w A qs) (hql : qs.length ≤ 1000000) (hR : Row w B (([a]).flatMap Dsc.vals)) (hI : ∀ d ∈ ([a]), d.In w) (hl : ([a]).length ≤ 1000000) (hcap : ∀ d ∈ ([a]), d.zs.length ≤ d.cap) :
  Calls Tryz.prog 57 #[.int .i64 10, .slice A 3 qcap, .slice B 1 cap] w (OpV w 0 (2)) := by
 have HV := hide (rres_c 10 qs ([a]) A B qcap cap w hQ hql hR hI hl hcap)
 unfold OpR at HV
 rw [hl0] at HV
 obtain ⟨ad, hB, had, e0, -⟩ := rowd_first hR
 subst hB
 rw [hqs] at HV
 have HV : Hid (Calls Tryz.prog 38 #[.int .i64 10, .slice A 3 qcap, .slice (some ad) 1 cap] w fun e w' => (∃ d : Dsc, e = .returned (.tuple #[.agg (dcells d.P d.zs.length d.cap d.u), .int .i64 (0 : Nat)]) ∧ d.In w' ∧ d.zs = (Op.look 10 qs [a]).2.1 ∧ d.u = (Op.look 10 qs [a]).2.2) ∧ Below w.heap.size w w') := HV
 clear hQ hql hR hI hl hcap hl0
 go_enter Tryz.func57, Tryz.ntmps57
 go_wp2_with fail
 refine HV.out.mono ?_
 rintro e w1 ⟨⟨d, rfl, -, -, -⟩, hb⟩
 have hbA := hb.alloc hb.size (.cells #[.slice d.P d.zs.length d.cap, .bool d.u] 24)
 have HB := hide hbA
 have c0 : w1.cell? ad = some (.slice a.P a.zs.length a.cap) := (hb.cell had).trans e0
 have l1 : ad.block < w1.heap.size := Nat.lt_of_lt_of_le had hb.size
 clear had e0
 clear hb HV hbA
 go_wp2_with fail
 refine bodyPost_ret (results_two rfl _ _) rfl ?_
 exact ⟨rfl, HB.out⟩
set_option maxRecDepth 100000 in
set_option maxHeartbeats 4000000 in
theorem runit_12 (za zb : Int) (a b : Dsc) (A B : Option Addr) (qcap cap : Nat) (w : World) (hz : a.zs.length = 2) (hl0 : (Op.look 12 [za, zb] ([a, b])).1 = 0) (hQ : Ri w A [za, zb]) (hql : [za, zb].length ≤ 1000000) (hR : Row w B (([a, b]).flatMap Dsc.vals)) (hI : ∀ d ∈ ([a, b]), d.In w) (hl : ([a, b]).length ≤ 1000000) (hcap : ∀ d ∈ ([a, b]), d.zs.length ≤ d.cap) :
  Calls Tryz.prog 57 #[.int .i64 12, .slice A 2 qcap, .slice B 2 cap] w (OpV w 0 (a.zs.getD 1 0)) := by
 have HV := hide (rres_c 12 [za, zb] ([a, b]) A B qcap cap w hQ hql hR hI hl hcap)
 unfold OpR at HV
 rw [hl0] at HV
 obtain ⟨ad, hB, had, e0, -⟩ := rowd_first hR
 subst hB
 obtain ⟨m, k, hzs⟩ : ∃ m k, a.zs = [m, k] := by
  match h : a.zs, hz with
  | [m, k], _ => exact ⟨m, k, rfl⟩
 have hri := (hI a (by simp)).shp
 rw [hzs] at hri e0 ⊢
 obtain ⟨pa, hpa, p0, p1⟩ := ri_pair hri
 have hpal : pa.block < w.heap.size := by obtain ⟨x, h3, h4, -⟩ := hri.2 (by simp); rw [hpa] at h3; rw [Option.some.inj h3]; exact h4
 rw [hpa] at e0
 have HV : Hid (Calls Tryz.prog 38 #[.int .i64 12, .slice A 2 qcap, .slice (some ad) 2 cap] w fun e w' => (∃ d : Dsc, e = .returned (.tuple #[.agg (dcells d.P d.zs.length d.cap d.u), .int .i64 (0 : Nat)]) ∧ d.In w' ∧ d.zs = (Op.look 12 [za, zb] [a, b]).2.1 ∧ d.u = (Op.look 12 [za, zb] [a, b]).2.2) ∧ Below w.heap.size w w') := HV
 clear hQ hql hR hI hl hcap hl0
 go_enter Tryz.func57, Tryz.ntmps57
 go_wp2_with fail
 refine HV.out.mono ?_
 rintro e w1 ⟨⟨d, rfl, -, -, -⟩, hb⟩
 have hbA := hb.alloc hb.size (.cells #[.slice d.P d.zs.length d.cap, .bool d.u] 24)
 have HB := hide hbA
 have c0 : w1.cell? ad = some (.slice (some pa) 2 a.cap) := (hb.cell had).trans e0
 have l1 : ad.block < w1.heap.size := Nat.lt_of_lt_of_le had hb.size
 have q1 := (hb.cell (p := ⟨pa.block, pa.off + 1, none⟩) hpal).trans p1
 have l2 : pa.block < w1.heap.size := Nat.lt_of_lt_of_le hpal hb.size
 clear had e0 hpal p0 p1 hpa hri hzs
 clear hb HV hbA
 go_wp2_with fail
 refine bodyPost_ret (results_two rfl _ _) rfl ?_
 exact ⟨rfl, HB.out⟩
set_option maxRecDepth 100000 in
set_option maxHeartbeats 4000000 in
theorem runit_13 (qs : List Int) (a b : Dsc) (A B : Option Addr) (qcap cap : Nat) (w : World) (hqs : qs.length = 3) (hz : b.zs.length = 4) (hbc : Shp.code b.zs = 0) (hl0 : (Op.look 13 qs ([a, b])).1 = 0) (hQ : Ri w A qs) (hql : qs.length ≤ 1000000) (hR : Row w B (([a, b]).flatMap Dsc.vals)) (hI : ∀ d ∈ ([a, b]), d.In w) (hl : ([a, b]).length ≤ 1000000) (hcap : ∀ d ∈ ([a, b]), d.zs.length ≤ d.cap) :
  Calls Tryz.prog 57 #[.int .i64 13, .slice A 3 qcap, .slice B 2 cap] w (OpV w 0 (Shp.elems (b.zs.take 3))) := by
 have HV := hide (rres_c 13 qs ([a, b]) A B qcap cap w hQ hql hR hI hl hcap)
 unfold OpR at HV
 rw [hl0] at HV
 obtain ⟨ad, hB, had, e0, -, e2, -⟩ := rowd_two hR
 subst hB
 obtain ⟨x0, x1, x2, x3, hzs⟩ : ∃ x y z v, b.zs = [x, y, z, v] := by
  match h : b.zs, hz with
  | [x, y, z, v], _ => exact ⟨x, y, z, v, rfl⟩
 have hri := (hI b (by simp)).shp
 rw [hzs] at hri e2 hbc ⊢
 obtain ⟨pb, hpb, hpbl, p0, p1, p2⟩ := ri_three hri
 rw [hpb] at e2
 obtain ⟨t1, t2, t3⟩ := Shp.elems3 hbc
 rw [show [x0, x1, x2, x3].take 3 = [x0, x1, x2] from rfl, t1]
 obtain ⟨u1, hu1⟩ : ∃ u, x0 * x1 = u := ⟨_, rfl⟩
 rw [hu1] at t2 t3 ⊢
 obtain ⟨u, hu⟩ : ∃ u, u1 * x2 = u := ⟨_, rfl⟩
 rw [hu] at t3 ⊢
 have O1 : Hid (IntKind.i64.wrap (x0 * x1) = u1) := hide (by rw [hu1, IntKind.wrap_i64]; omega)
 have O2 : Hid (IntKind.i64.wrap (u1 * x2) = u) := hide (by rw [hu, IntKind.wrap_i64]; omega)
 rw [hqs] at HV
 have HV : Hid (Calls Tryz.prog 38 #[.int .i64 13, .slice A 3 qcap, .slice (some ad) 2 cap] w fun e w' => (∃ d : Dsc, e = .returned (.tuple #[.agg (dcells d.P d.zs.length d.cap d.u), .int .i64 (0 : Nat)]) ∧ d.In w' ∧ d.zs = (Op.look 13 qs [a, b]).2.1 ∧ d.u = (Op.look 13 qs [a, b]).2.2) ∧ Below w.heap.size w w') := HV
 clear hQ hql hR hI hl hcap hl0
 go_enter Tryz.func57, Tryz.ntmps57
 go_wp2_with fail
 refine HV.out.mono ?_
 rintro e w1 ⟨⟨d, rfl, -, -, -⟩, hb⟩
 have hbA := hb.alloc hb.size (.cells #[.slice d.P d.zs.length d.cap, .bool d.u] 24)
 have HB := hide hbA
 have c0 : w1.cell? ad = some (.slice a.P a.zs.length a.cap) := (hb.cell had).trans e0
 have c2 : w1.cell? ⟨ad.block, ad.off + 2, none⟩ = some (.slice (some pb) 4 b.cap) := (hb.cell (p := ⟨ad.block, ad.off + 2, none⟩) had).trans e2
 have q1z : (w1.alloc (.cells #[.slice d.P d.zs.length d.cap, .bool d.u] 24)).cell? pb = some (.int .i64 x0) := (hbA.cell hpbl).trans p0
 have q2z : (w1.alloc (.cells #[.slice d.P d.zs.length d.cap, .bool d.u] 24)).cell? ⟨pb.block, pb.off + 1, none⟩ = some (.int .i64 x1) := (hbA.cell (p := ⟨pb.block, pb.off + 1, none⟩) hpbl).trans p1
 have q3z : (w1.alloc (.cells #[.slice d.P d.zs.length d.cap, .bool d.u] 24)).cell? ⟨pb.block, pb.off + 2, none⟩ = some (.int .i64 x2) := (hbA.cell (p := ⟨pb.block, pb.off + 2, none⟩) hpbl).trans p2
 have l1 : ad.block < w1.heap.size := Nat.lt_of_lt_of_le had hb.size
 clear had e0 e2 hz hqs hzs hri hpb hpbl p0 p1 p2 t1 t2 t3 hu1 hu hbc
 clear hb HV hbA
 go_wp2_with fail
 have o1 := O1.out
 have o2 := O2.out
 go_quiet (fail)
 go_wp2_with fail
 refine bodyPost_ret (results_two rfl _ _) rfl ?_
 exact ⟨rfl, below_drewN HB.out _⟩
set_option maxRecDepth 100000 in
set_option maxHeartbeats 4000000 in
theorem runit_14 (q0 q1 : Int) (a : Dsc) (A B : Option Addr) (qcap cap : Nat) (w : World) (hq : 1 ≤ q0 ∧ q0 ≤ 16) (hl0 : (Op.look 14 [q0, q1] ([a])).1 = 0) (hQ : Ri w A [q0, q1]) (hql : [q0, q1].length ≤ 1000000) (hR : Row w B (([a]).flatMap Dsc.vals)) (hI : ∀ d ∈ ([a]), d.In w) (hl : ([a]).length ≤ 1000000) (hcap : ∀ d ∈ ([a]), d.zs.length ≤ d.cap) :
  Calls Tryz.prog 57 #[.int .i64 14, .slice A 2 qcap, .slice B 1 cap] w (OpV w 0 (q0 * q0)) := by
 have HV := hide (rres_c 14 [q0, q1] ([a]) A B qcap cap w hQ hql hR hI hl hcap)
 unfold OpR at HV
 rw [hl0] at HV
 obtain ⟨ad, hB, had, e0, -⟩ := rowd_first hR
 subst hB
 have hri := hQ
 obtain ⟨pa, hpa, p0, -⟩ := ri_pair hri
 have hpal : pa.block < w.heap.size := by obtain ⟨x, h3, h4, -⟩ := hri.2 (by simp); rw [hpa] at h3; rw [Option.some.inj h3]; exact h4
 subst hpa
 obtain ⟨u, hu⟩ : ∃ u, q0 * q0 = u := ⟨_, rfl⟩
 have hub : 0 ≤ u ∧ u ≤ 256 := by
  have h1 := Int.mul_le_mul (a := q0) (b := q0) (c := 16) (d := 16) hq.2 hq.2 (by omega) (by omega)
  have h2 := Int.mul_nonneg (show (0 : Int) ≤ q0 by omega) (show (0 : Int) ≤ q0 by omega)
  omega
 have O1 : Hid (IntKind.i64.wrap (q0 * q0) = u) := hide (by rw [hu, IntKind.wrap_i64]; omega)
 rw [hu]
 have HV : Hid (Calls Tryz.prog 38 #[.int .i64 14, .slice (some pa) 2 qcap, .slice (some ad) 1 cap] w fun e w' => (∃ d : Dsc, e = .returned (.tuple #[.agg (dcells d.P d.zs.length d.cap d.u), .int .i64 (0 : Nat)]) ∧ d.In w' ∧ d.zs = (Op.look 14 [q0, q1] [a]).2.1 ∧ d.u = (Op.look 14 [q0, q1] [a]).2.2) ∧ Below w.heap.size w w') := HV
 clear hQ hql hR hI hl hcap hl0
 go_enter Tryz.func57, Tryz.ntmps57
 go_wp2_with fail
 refine HV.out.mono ?_
 rintro e w1 ⟨⟨d, rfl, -, -, -⟩, hb⟩
 have hbA := hb.alloc hb.size (.cells #[.slice d.P d.zs.length d.cap, .bool d.u] 24)
 have HB := hide hbA
 have c0 : w1.cell? ad = some (.slice a.P a.zs.length a.cap) := (hb.cell had).trans e0
 have l1 : ad.block < w1.heap.size := Nat.lt_of_lt_of_le had hb.size
 have q1 := (hb.cell hpal).trans p0
 have l2 : pa.block < w1.heap.size := Nat.lt_of_lt_of_le hpal hb.size
 have hbz := hbA.cell hpal
 rw [p0] at hbz
 have q1z := hbz
 clear had e0 hpal p0 hri hq hu hub hbz
 clear hb HV hbA
 go_wp2_with fail
 have o1 := O1.out
 go_quiet (fail)
 go_wp2_with fail
 refine bodyPost_ret (results_two rfl _ _) rfl ?_
 exact ⟨rfl, below_drewN HB.out _⟩
set_option maxRecDepth 100000 in
set_option maxHeartbeats 4000000 in
theorem runit_15 (q0 q1 : Int) (a : Dsc) (A B : Option Addr) (qcap cap : Nat) (w : World) (hq : 1 ≤ q0 ∧ q0 ≤ 16) (hl0 : (Op.look 15 [q0, q1] ([a])).1 = 0) (hQ : Ri w A [q0, q1]) (hql : [q0, q1].length ≤ 1000000) (hR : Row w B (([a]).flatMap Dsc.vals)) (hI : ∀ d ∈ ([a]), d.In w) (hl : ([a]).length ≤ 1000000) (hcap : ∀ d ∈ ([a]), d.zs.length ≤ d.cap) :
  Calls Tryz.prog 57 #[.int .i64 15, .slice A 2 qcap, .slice B 1 cap] w (OpV w 0 (q0 * q0)) := by
 have HV := hide (rres_c 15 [q0, q1] ([a]) A B qcap cap w hQ hql hR hI hl hcap)
 unfold OpR at HV
 rw [hl0] at HV
 obtain ⟨ad, hB, had, e0, -⟩ := rowd_first hR
 subst hB
 have hri := hQ
 obtain ⟨pa, hpa, p0, -⟩ := ri_pair hri
 have hpal : pa.block < w.heap.size := by obtain ⟨x, h3, h4, -⟩ := hri.2 (by simp); rw [hpa] at h3; rw [Option.some.inj h3]; exact h4
 subst hpa
 obtain ⟨u, hu⟩ : ∃ u, q0 * q0 = u := ⟨_, rfl⟩
 have hub : 0 ≤ u ∧ u ≤ 256 := by
  have h1 := Int.mul_le_mul (a := q0) (b := q0) (c := 16) (d := 16) hq.2 hq.2 (by omega) (by omega)
  have h2 := Int.mul_nonneg (show (0 : Int) ≤ q0 by omega) (show (0 : Int) ≤ q0 by omega)
  omega
 have O1 : Hid (IntKind.i64.wrap (q0 * q0) = u) := hide (by rw [hu, IntKind.wrap_i64]; omega)
 rw [hu]
 have HV : Hid (Calls Tryz.prog 38 #[.int .i64 15, .slice (some pa) 2 qcap, .slice (some ad) 1 cap] w fun e w' => (∃ d : Dsc, e = .returned (.tuple #[.agg (dcells d.P d.zs.length d.cap d.u), .int .i64 (0 : Nat)]) ∧ d.In w' ∧ d.zs = (Op.look 15 [q0, q1] [a]).2.1 ∧ d.u = (Op.look 15 [q0, q1] [a]).2.2) ∧ Below w.heap.size w w') := HV
 clear hQ hql hR hI hl hcap hl0
 go_enter Tryz.func57, Tryz.ntmps57
 go_wp2_with fail
 refine HV.out.mono ?_
 rintro e w1 ⟨⟨d, rfl, -, -, -⟩, hb⟩
 have hbA := hb.alloc hb.size (.cells #[.slice d.P d.zs.length d.cap, .bool d.u] 24)
 have HB := hide hbA
 have c0 : w1.cell? ad = some (.slice a.P a.zs.length a.cap) := (hb.cell had).trans e0
 have l1 : ad.block < w1.heap.size := Nat.lt_of_lt_of_le had hb.size
 have q1 := (hb.cell hpal).trans p0
 have l2 : pa.block < w1.heap.size := Nat.lt_of_lt_of_le hpal hb.size
 have hbz := hbA.cell hpal
 rw [p0] at hbz
 have q1z := hbz
 clear had e0 hpal p0 hri hq hu hub hbz
 clear hb HV hbA
 go_wp2_with fail
 have o1 := O1.out
 go_quiet (fail)
 go_wp2_with fail
 refine bodyPost_ret (results_two rfl _ _) rfl ?_
 exact ⟨rfl, below_drewN HB.out _⟩
set_option maxRecDepth 100000 in
set_option maxHeartbeats 4000000 in
theorem runit_16 (a b : Dsc) (A B : Option Addr) (qcap cap : Nat) (w : World) (hz : 0 < a.zs.length) (hl0 : (Op.look 16 ([] : List Int) ([a, b])).1 = 0) (hQ : Ri w A ([] : List Int)) (hql : ([] : List Int).length ≤ 1000000) (hR : Row w B (([a, b]).flatMap Dsc.vals)) (hI : ∀ d ∈ ([a, b]), d.In w) (hl : ([a, b]).length ≤ 1000000) (hcap : ∀ d ∈ ([a, b]), d.zs.length ≤ d.cap) :
  Calls Tryz.prog 57 #[.int .i64 16, .slice A 0 qcap, .slice B 2 cap] w (OpV w 0 (a.zs.getD (a.zs.length - 1) 0)) := by
 have HV := hide (rres_c 16 ([] : List Int) ([a, b]) A B qcap cap w hQ hql hR hI hl hcap)
 unfold OpR at HV
 rw [hl0] at HV
 obtain ⟨ad, hB, had, e0, -⟩ := rowd_first hR
 subst hB
 obtain ⟨pa, x, hpa, ex, cx⟩ := ri_at (hI a (by simp)).shp (a.zs.length - 1) (by omega)
 have hpal : pa.block < w.heap.size := by obtain ⟨y, h3, h4, -⟩ := (hI a (by simp)).shp.2 (by intro h; rw [h] at hz; simp at hz); rw [hpa] at h3; rw [Option.some.inj h3]; exact h4
 have hgx : a.zs.getD (a.zs.length - 1) 0 = x := by rw [List.getD_eq_getElem?_getD, ex.out]; rfl
 have hln := (hI a (by simp)).ls
 rw [hgx]
 rw [hpa] at e0
 obtain ⟨n, hn⟩ : ∃ n, a.zs.length = n := ⟨_, rfl⟩
 rw [hn] at e0 cx hz hln
 obtain ⟨j, hj⟩ : ∃ j, n - 1 = j := ⟨_, rfl⟩
 rw [hj] at cx
 have O1 : Hid (IntKind.i64.wrap ((n : Int) - 1) = (j : Int)) := hide (by rw [IntKind.wrap_i64]; omega)
 have O2 : Hid (wrap64 ((n : Int) - 1) = (j : Int)) := hide (by unfold wrap64; omega)
 have hj0 : (0 : Int) ≤ (j : Int) := by omega
 have hjn : (j : Int) < (n : Int) := by omega
 have HV : Hid (Calls Tryz.prog 38 #[.int .i64 16, .slice A 0 qcap, .slice (some ad) 2 cap] w fun e w' => (∃ d : Dsc, e = .returned (.tuple #[.agg (dcells d.P d.zs.length d.cap d.u), .int .i64 (0 : Nat)]) ∧ d.In w' ∧ d.zs = (Op.look 16 [] [a, b]).2.1 ∧ d.u = (Op.look 16 [] [a, b]).2.2) ∧ Below w.heap.size w w') := HV
 clear hQ hql hR hI hl hcap hl0
 go_enter Tryz.func57, Tryz.ntmps57
 go_wp2_with fail
 refine HV.out.mono ?_
 rintro e w1 ⟨⟨d, rfl, -, -, -⟩, hb⟩
 have hbA := hb.alloc hb.size (.cells #[.slice d.P d.zs.length d.cap, .bool d.u] 24)
 have HB := hide hbA
 have c0 : w1.cell? ad = some (.slice (some pa) n a.cap) := (hb.cell had).trans e0
 have l1 : ad.block < w1.heap.size := Nat.lt_of_lt_of_le had hb.size
 have q1 := (hb.cell (p := pa.add j) (by rw [elm_block]; exact hpal)).trans cx
 have l2 : (pa.add j).block < w1.heap.size := by rw [elm_block]; exact Nat.lt_of_lt_of_le hpal hb.size
 have o1 := O1.out
 have o2 := O2.out
 clear had e0 hpal cx ex hpa hgx hn hj hz hln
 clear hb HV hbA
 go_wp2_with fail
 refine bodyPost_ret (results_two rfl _ _) rfl ?_
 exact ⟨rfl, HB.out⟩
set_option maxRecDepth 100000 in
set_option maxHeartbeats 4000000 in
theorem runit_19 (a : Dsc) (A B : Option Addr) (qcap cap : Nat) (w : World) (hz : 0 < a.zs.length) (hl0 : (Op.look 19 ([] : List Int) ([a])).1 = 0) (hQ : Ri w A ([] : List Int)) (hql : ([] : List Int).length ≤ 1000000) (hR : Row w B (([a]).flatMap Dsc.vals)) (hI : ∀ d ∈ ([a]), d.In w) (hl : ([a]).length ≤ 1000000) (hcap : ∀ d ∈ ([a]), d.zs.length ≤ d.cap) :
  Calls Tryz.prog 57 #[.int .i64 19, .slice A 0 qcap, .slice B 1 cap] w (OpV w 0 (a.zs.getD (a.zs.length - 1) 0)) := by
 have HV := hide (rres_c 19 ([] : List Int) ([a]) A B qcap cap w hQ hql hR hI hl hcap)
 unfold OpR at HV
 rw [hl0] at HV
 obtain ⟨ad, hB, had, e0, -⟩ := rowd_first hR
 subst hB
 obtain ⟨pa, x, hpa, ex, cx⟩ := ri_at (hI a (by simp)).shp (a.zs.length - 1) (by omega)
 have hpal : pa.block < w.heap.size := by obtain ⟨y, h3, h4, -⟩ := (hI a (by simp)).shp.2 (by intro h; rw [h] at hz; simp at hz); rw [hpa] at h3; rw [Option.some.inj h3]; exact h4
 have hgx : a.zs.getD (a.zs.length - 1) 0 = x := by rw [List.getD_eq_getElem?_getD, ex.out]; rfl
 have hln := (hI a (by simp)).ls
 rw [hgx]
 rw [hpa] at e0
 obtain ⟨n, hn⟩ : ∃ n, a.zs.length = n := ⟨_, rfl⟩
 rw [hn] at e0 cx hz hln
 obtain ⟨j, hj⟩ : ∃ j, n - 1 = j := ⟨_, rfl⟩
 rw [hj] at cx
 have O1 : Hid (IntKind.i64.wrap ((n : Int) - 1) = (j : Int)) := hide (by rw [IntKind.wrap_i64]; omega)
 have O2 : Hid (wrap64 ((n : Int) - 1) = (j : Int)) := hide (by unfold wrap64; omega)
 have hj0 : (0 : Int) ≤ (j : Int) := by omega
 have hjn : (j : Int) < (n : Int) := by omega
 have HV : Hid (Calls Tryz.prog 38 #[.int .i64 19, .slice A 0 qcap, .slice (some ad) 1 cap] w fun e w' => (∃ d : Dsc, e = .returned (.tuple #[.agg (dcells d.P d.zs.length d.cap d.u), .int .i64 (0 : Nat)]) ∧ d.In w' ∧ d.zs = (Op.look 19 [] [a]).2.1 ∧ d.u = (Op.look 19 [] [a]).2.2) ∧ Below w.heap.size w w') := HV
 clear hQ hql hR hI hl hcap hl0
 go_enter Tryz.func57, Tryz.ntmps57
 go_wp2_with fail
 refine HV.out.mono ?_
 rintro e w1 ⟨⟨d, rfl, -, -, -⟩, hb⟩
 have hbA := hb.alloc hb.size (.cells #[.slice d.P d.zs.length d.cap, .bool d.u] 24)
 have HB := hide hbA
 have c0 : w1.cell? ad = some (.slice (some pa) n a.cap) := (hb.cell had).trans e0
 have l1 : ad.block < w1.heap.size := Nat.lt_of_lt_of_le had hb.size
 have q1 := (hb.cell (p := pa.add j) (by rw [elm_block]; exact hpal)).trans cx
 have l2 : (pa.add j).block < w1.heap.size := by rw [elm_block]; exact Nat.lt_of_lt_of_le hpal hb.size
 have o1 := O1.out
 have o2 := O2.out
 clear had e0 hpal cx ex hpa hgx hn hj hz hln
 clear hb HV hbA
 go_wp2_with fail
 refine bodyPost_ret (results_two rfl _ _) rfl ?_
 exact ⟨rfl, HB.out⟩
set_option maxRecDepth 100000 in
set_option maxHeartbeats 4000000 in
theorem runit_20 (a : Dsc) (A B : Option Addr) (qcap cap : Nat) (w : World) (hz : 0 < a.zs.length) (hl0 : (Op.look 20 ([] : List Int) ([a])).1 = 0) (hQ : Ri w A ([] : List Int)) (hql : ([] : List Int).length ≤ 1000000) (hR : Row w B (([a]).flatMap Dsc.vals)) (hI : ∀ d ∈ ([a]), d.In w) (hl : ([a]).length ≤ 1000000) (hcap : ∀ d ∈ ([a]), d.zs.length ≤ d.cap) :
  Calls Tryz.prog 57 #[.int .i64 20, .slice A 0 qcap, .slice B 1 cap] w (OpV w 0 (a.zs.getD (a.zs.length - 1) 0)) := by
 have HV := hide (rres_c 20 ([] : List Int) ([a]) A B qcap cap w hQ hql hR hI hl hcap)
 unfold OpR at HV
 rw [hl0] at HV
 obtain ⟨ad, hB, had, e0, -⟩ := rowd_first hR
 subst hB
 obtain ⟨pa, x, hpa, ex, cx⟩ := ri_at (hI a (by simp)).shp (a.zs.length - 1) (by omega)
 have hpal : pa.block < w.heap.size := by obtain ⟨y, h3, h4, -⟩ := (hI a (by simp)).shp.2 (by intro h; rw [h] at hz; simp at hz); rw [hpa] at h3; rw [Option.some.inj h3]; exact h4
 have hgx : a.zs.getD (a.zs.length - 1) 0 = x := by rw [List.getD_eq_getElem?_getD, ex.out]; rfl
 have hln := (hI a (by simp)).ls
 rw [hgx]
 rw [hpa] at e0
 obtain ⟨n, hn⟩ : ∃ n, a.zs.length = n := ⟨_, rfl⟩
 rw [hn] at e0 cx hz hln
 obtain ⟨j, hj⟩ : ∃ j, n - 1 = j := ⟨_, rfl⟩
 rw [hj] at cx
 have O1 : Hid (IntKind.i64.wrap ((n : Int) - 1) = (j : Int)) := hide (by rw [IntKind.wrap_i64]; omega)
 have O2 : Hid (wrap64 ((n : Int) - 1) = (j : Int)) := hide (by unfold wrap64; omega)
 have hj0 : (0 : Int) ≤ (j : Int) := by omega
 have hjn : (j : Int) < (n : Int) := by omega
 have HV : Hid (Calls Tryz.prog 38 #[.int .i64 20, .slice A 0 qcap, .slice (some ad) 1 cap] w fun e w' => (∃ d : Dsc, e = .returned (.tuple #[.agg (dcells d.P d.zs.length d.cap d.u), .int .i64 (0 : Nat)]) ∧ d.In w' ∧ d.zs = (Op.look 20 [] [a]).2.1 ∧ d.u = (Op.look 20 [] [a]).2.2) ∧ Below w.heap.size w w') := HV
 clear hQ hql hR hI hl hcap hl0
 go_enter Tryz.func57, Tryz.ntmps57
 go_wp2_with fail
 refine HV.out.mono ?_
 rintro e w1 ⟨⟨d, rfl, -, -, -⟩, hb⟩
 have hbA := hb.alloc hb.size (.cells #[.slice d.P d.zs.length d.cap, .bool d.u] 24)
 have HB := hide hbA
 have c0 : w1.cell? ad = some (.slice (some pa) n a.cap) := (hb.cell had).trans e0
 have l1 : ad.block < w1.heap.size := Nat.lt_of_lt_of_le had hb.size
 have q1 := (hb.cell (p := pa.add j) (by rw [elm_block]; exact hpal)).trans cx
 have l2 : (pa.add j).block < w1.heap.size := by rw [elm_block]; exact Nat.lt_of_lt_of_le hpal hb.size
 have o1 := O1.out
 have o2 := O2.out
 clear had e0 hpal cx ex hpa hgx hn hj hz hln
 clear hb HV hbA
 go_wp2_with fail
 refine bodyPost_ret (results_two rfl _ _) rfl ?_
 exact ⟨rfl, HB.out⟩
theorem Cv.zero_code {qs : List Int} {a b : Dsc} (h : Cv.code qs a b = 0) : Shp.code b.zs = 0 := by
 unfold Cv.code at h
 split at h
 ·cases h
 split at h
 ·rename_i h1; exact absurd h h1
 ·rename_i h1
  have h2 : Shp.firstbad [a, b] = 0 := Classical.byContradiction fun h2 => h1 h2
  unfold Shp.firstbad at h2
  split at h2
  ·unfold Shp.firstbad at h2
   split at h2
   ·assumption
   ·exact h2
  ·rename_i h3
   exact absurd h2 h3
set_option maxRecDepth 100000 in
theorem runit_c (op : Int) (qs : List Int) (ds : List Dsc) (A B : Option Addr) (qcap cap : Nat) (w : World) (hQ : Ri w A qs) (hql : qs.length ≤ 1000000) (hR : Row w B (ds.flatMap Dsc.vals)) (hI : ∀ d ∈ ds, d.In w) (hl : ds.length ≤ 1000000) (hcap : ∀ d ∈ ds, d.zs.length ≤ d.cap) :
  Calls Tryz.prog 57 #[.int .i64 op, .slice A qs.length qcap, .slice B ds.length cap] w (OpV w (Op.look op qs ds).1 (Op.unit op qs ds)) := by
 by_cases h0 : (Op.look op qs ds).1 ≠ 0
 ·have e : Op.unit op qs ds = 0 := if_pos h0
  rw [e]
  exact runit_bad op qs ds A B qcap cap w h0 hQ hql hR hI hl hcap
 have h0 : (Op.look op qs ds).1 = 0 := Classical.byContradiction h0
 obtain ⟨hk, ⟨hi, ha⟩, h2⟩ := Op.look_zero h0
 have hu : Op.unit op qs ds = if op = 10 then 2 else if op = 12 then (ds.getD 0 Op.no).zs.getD 1 0 else if op = 13 then Shp.elems ((ds.getD 1 Op.no).zs.take 3) else if op = 14 ∨ op = 15 then qs.getD 0 0 * qs.getD 0 0
   else if op = 16 ∨ op = 19 ∨ op = 20 then (ds.getD 0 Op.no).zs.getD ((ds.getD 0 Op.no).zs.length - 1) 0 else 1 := if_neg (fun h => h h0)
 rw [hu, h0]
 by_cases ho : op ≠ 10 ∧ op ≠ 12 ∧ op ≠ 13 ∧ op ≠ 14 ∧ op ≠ 15 ∧ op ≠ 16 ∧ op ≠ 19 ∧ op ≠ 20
 ·rw [if_neg ho.1, if_neg ho.2.1, if_neg ho.2.2.1, if_neg (by omega), if_neg (by omega)]
  have h1 := Op.ins_pos hk
  match ds, hi with
  | [], hi => rw [← hi] at h1; cases h1
  | a :: l, _ => exact runit_other op qs a l A B qcap cap w ho h0 hQ hql hR hI hl hcap
 have : op = 10 ∨ op = 12 ∨ op = 13 ∨ op = 14 ∨ op = 15 ∨ op = 16 ∨ op = 19 ∨ op = 20 := by omega
 clear ho hu
 rcases this with rfl | rfl | rfl | rfl | rfl | rfl | rfl | rfl
 ·have hi : ds.length = 1 := hi
  have ha : qs.length = 3 := ha (by decide)
  match ds, hi with
  | [a], _ =>
   have h := runit_10 qs a A B qcap cap w ha h0 hQ hql hR hI hl hcap
   rw [ha]
   exact h
 ·have hi : ds.length = 2 := hi
  have ha : qs.length = 2 := ha (by decide)
  match ds, hi, qs, ha with
  | [a, b], _, [za, zb], _ => exact runit_12 za zb a b A B qcap cap w (Mat.zero_len h2) h0 hQ hql hR hI hl hcap
 ·have hi : ds.length = 2 := hi
  have ha : qs.length = 3 := ha (by decide)
  match ds, hi with
  | [a, b], _ =>
   have h := runit_13 qs a b A B qcap cap w ha (Cv.zero_len h2) (Cv.zero_code h2) h0 hQ hql hR hI hl hcap
   rw [ha]
   exact h
 ·have hi : ds.length = 1 := hi
  have ha : qs.length = 2 := ha (by decide)
  match ds, hi, qs, ha with
  | [a], _, [q0, q1], _ => exact runit_14 q0 q1 a A B qcap cap w (Pl.zero_len (show Pl.code [q0, q1] a = 0 from h2)) h0 hQ hql hR hI hl hcap
 ·have hi : ds.length = 1 := hi
  have ha : qs.length = 2 := ha (by decide)
  match ds, hi, qs, ha with
  | [a], _, [q0, q1], _ => exact runit_15 q0 q1 a A B qcap cap w (Pl.zero_len (show Pl.code [q0, q1] a = 0 from h2)) h0 hQ hql hR hI hl hcap
 ·have hi : ds.length = 2 := hi
  have ha : qs.length = 0 := ha (by decide)
  obtain rfl := List.length_eq_zero_iff.1 ha
  match ds, hi with
  | [a, b], _ => exact runit_16 a b A B qcap cap w (Sf.zero_len2 h2) h0 hQ hql hR hI hl hcap
 ·have hi : ds.length = 1 := hi
  have ha : qs.length = 0 := ha (by decide)
  obtain rfl := List.length_eq_zero_iff.1 ha
  match ds, hi with
  | [a], _ => exact runit_19 a A B qcap cap w (Sf.zero_len1 (show Sf.code 19 [a] = 0 from h2)) h0 hQ hql hR hI hl hcap
 ·have hi : ds.length = 1 := hi
  have ha : qs.length = 0 := ha (by decide)
  obtain rfl := List.length_eq_zero_iff.1 ha
  match ds, hi with
  | [a], _ => exact runit_20 a A B qcap cap w (Sf.zero_len1 (show Sf.code 20 [a] = 0 from h2)) h0 hQ hql hR hI hl hcap
end Go.Proofs.YtgdcfjmpjhlndaaGreatDoor
