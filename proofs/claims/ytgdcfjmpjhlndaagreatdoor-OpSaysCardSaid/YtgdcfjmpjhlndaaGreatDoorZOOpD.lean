/-
  What an element of an operation's answer costs; package op's Unit, walked. By an AI agent. No person has read it.
-/
import Derived.Test.YtgdcfjmpjhlndaaGreatDoorZOOpC
namespace Go.Proofs.YtgdcfjmpjhlndaaGreatDoor
open Go.RowKit
def Op.unit (op : Int) (qs : List Int) (ds : List Dsc) : Int :=
 if (Op.look op qs ds).1 ≠ 0 then 0 else if op = 10 then 2 else if op = 12 then (ds.getD 0 Op.no).zs.getD 1 0
 else if op = 13 then Shp.elems ((ds.getD 1 Op.no).zs.take 3) else if op = 14 ∨ op = 15 then qs.getD 0 0 * qs.getD 0 0
 else if op = 16 ∨ op = 19 ∨ op = 20 then (ds.getD 0 Op.no).zs.getD ((ds.getD 0 Op.no).zs.length - 1) 0 else 1
theorem Op.look_known (op : Int) (qs : List Int) (ds : List Dsc) : (Op.look op qs ds).1 = 0 ∨ (Op.look op qs ds).1 = 101 ∨ (Op.look op qs ds).1 = 102 ∨ (Op.look op qs ds).1 = 103 ∨ (Op.look op qs ds).1 = 104 := by
 have hc : ∀ k, Cel.known k → k = 0 ∨ k = 101 ∨ k = 102 ∨ k = 103 ∨ k = 104 := fun k h => by unfold Cel.known at h; omega
 unfold Op.look
 split
 ·exact .inr (.inr (.inr (.inl rfl)))
 split
 ·exact .inr (.inl rfl)
 unfold Op.look2
 split
 ·show Elm.code op qs ds = 0 ∨ _
  unfold Elm.code
  split
  ·exact .inr (.inr (.inr (.inl rfl)))
  split
  ·exact .inr (.inl rfl)
  split
  ·exact hc _ (Cel.known_bad _)
  split
  ·exact .inr (.inl rfl)
  split
  ·exact .inr (.inr (.inl rfl))
  ·exact .inl rfl
 split
 ·exact hc _ (Mat.code_known _ _ _ _)
 split
 ·exact hc _ (Cv.code_known _ _ _)
 split
 ·exact hc _ (Pl.code_known _ _)
 split
 ·exact hc _ (Op.rcode_known _ _)
 split
 ·exact hc _ (Op.tcode_known _)
 ·exact hc _ (Sf.code_known _ _)
theorem Op.look_zero {op : Int} {qs : List Int} {ds : List Dsc} (h : (Op.look op qs ds).1 = 0) : Op.known op ∧ Op.fits op qs ds ∧ (Op.look2 op qs ds).1 = 0 := by
 unfold Op.look at h
 by_cases hk : Op.known op
 ·rw [if_neg (fun h => h hk)] at h
  by_cases hf : Op.fits op qs ds
  ·rw [if_neg (fun h => h hf)] at h
   exact ⟨hk, hf, h⟩
  ·rw [if_pos hf] at h
   cases h
 ·rw [if_pos hk] at h
  cases h
theorem Ri.take {w : World} {A : Option Addr} {l : List Int} (h : Ri w A l) (n : Nat) : Ri w A (l.take n) := by
 refine ⟨fun z hz => h.1 z (List.mem_of_mem_take hz), fun hn => ?_⟩
 obtain ⟨ad, h1, h2, h3⟩ := h.2 (fun e => hn (by rw [e]; simp))
 exact ⟨ad, h1, h2, fun i z hi => h3 i z (by
  rw [List.getElem?_take] at hi
  split at hi
  ·exact hi
  ·cases hi)⟩
theorem rowd_first {w : World} {B : Option Addr} {a : Dsc} {l : List Dsc} (hR : Row w B ((a :: l).flatMap Dsc.vals)) : ∃ ad, B = some ad ∧ ad.block < w.heap.size ∧ w.cell? ad = some (.slice a.P a.zs.length a.cap) ∧ w.cell? ⟨ad.block, ad.off + 1, none⟩ = some (.bool a.u) := by
 obtain ⟨ad, h1, h2, h3⟩ := hR (by simp [Dsc.vals])
 have c0 := h3 0 _ rfl
 have c1 := h3 1 _ rfl
 rw [Addr.add_zero'] at c0
 simp only [Addr.add, Nat.reduceEqDiff, if_false] at c1
 exact ⟨ad, h1, h2, c0, c1⟩
def OpU (w : World) (ah am ar ak : Addr) (k : Nat) (u : Int) (e : Ending) (w' : World) : Prop :=
 e = .returned (.tuple #[.int .i64 u, Elm.err ah am ar ak k]) ∧ Below w.heap.size w w'
set_option maxRecDepth 100000 in
set_option maxHeartbeats 4000000 in
theorem opunit_bad (op : Int) (qs : List Int) (ds : List Dsc) (A B : Option Addr) (qcap cap : Nat) (ah am ar ak : Addr) (w : World) (h : (Op.look op qs ds).1 ≠ 0) (hQ : Ri w A qs) (hql : qs.length ≤ 1000000) (hR : Row w B (ds.flatMap Dsc.vals)) (hI : ∀ d ∈ ds, d.In w) (hl : ds.length ≤ 1000000) (hE : E4 w ah am ar ak) (hK : Kz w) :
  Calls Tryz.prog 55 #[.int .i64 op, .slice A qs.length qcap, .slice B ds.length cap] w (OpU w ah am ar ak (Op.look op qs ds).1 (0)) := by
 have HV := hide (opresult_c op qs ds A B qcap cap ah am ar ak w hQ hql hR hI hl hE hK)
 have hk := Op.look_known op qs ds
 obtain ⟨L, hL⟩ : ∃ L, Hid (Op.look op qs ds = L) := ⟨_, hide rfl⟩
 rw [hL.out] at HV hk h ⊢
 obtain ⟨k, sh, kd⟩ := L
 have h : k ≠ 0 := h
 have hk : k = 0 ∨ k = 101 ∨ k = 102 ∨ k = 103 ∨ k = 104 := hk
 have hv : ErrV (Elm.err ah am ar ak k) := Elm.err_v (by omega)
 obtain ⟨v, hvv⟩ : ∃ v, Hid (Elm.err ah am ar ak k = v) := ⟨_, hide rfl⟩
 unfold OpE at HV
 rw [show ((k, sh, kd) : Nat × List Int × Bool).1 = k from rfl, hvv.out] at HV
 rw [hvv.out] at hv
 have r1 := run_neqerr hv
 have r2 := run_neqguard hv
 obtain ⟨n, hn⟩ : ∃ n, Hid (ds.length = n) := ⟨_, hide rfl⟩
 obtain ⟨m, hm⟩ : ∃ n, Hid (qs.length = n) := ⟨_, hide rfl⟩
 rw [hn.out, hm.out] at HV ⊢
 clear hQ hql hR hI hl hE hK hk h hL hv
 go_enter Tryz.func55, Tryz.ntmps55
 go_wp2_with fail
 refine HV.out.mono ?_
 rintro e w1 ⟨⟨d, rfl, -, -, -⟩, hb⟩
 have HB := hide (hb.alloc hb.size (.cells #[.slice d.P d.zs.length d.cap, .bool d.u] 24))
 clear hb HV
 go_wp2_with fail
 refine bodyPost_ret (results_two rfl _ _) rfl ?_
 exact ⟨by show _ = Ending.returned (.tuple #[.int .i64 0, Elm.err ah am ar ak k]); rw [hvv.out]; rfl, HB.out⟩
set_option maxRecDepth 100000 in
set_option maxHeartbeats 4000000 in
theorem opunit_other (op : Int) (qs : List Int) (a : Dsc) (l : List Dsc) (A B : Option Addr) (qcap cap : Nat) (ah am ar ak : Addr) (w : World) (hop : op ≠ 10 ∧ op ≠ 12 ∧ op ≠ 13 ∧ op ≠ 14 ∧ op ≠ 15 ∧ op ≠ 16 ∧ op ≠ 19 ∧ op ≠ 20) (hl0 : (Op.look op qs (a :: l)).1 = 0) (hQ : Ri w A qs) (hql : qs.length ≤ 1000000) (hR : Row w B ((a :: l).flatMap Dsc.vals)) (hI : ∀ d ∈ (a :: l), d.In w) (hl : (a :: l).length ≤ 1000000) (hE : E4 w ah am ar ak) (hK : Kz w) :
  Calls Tryz.prog 55 #[.int .i64 op, .slice A qs.length qcap, .slice B (a :: l).length cap] w (OpU w ah am ar ak 0 (1)) := by
 have HV := hide (opresult_c op qs (a :: l) A B qcap cap ah am ar ak w hQ hql hR hI hl hE hK)
 unfold OpE at HV
 rw [hl0, show Elm.err ah am ar ak 0 = .nilIface from rfl] at HV
 obtain ⟨ad, hB, had, e0, -⟩ := rowd_first hR
 subst hB
 have b10 : (op == 10) = false := by simp; omega
 have b12 : (op == 12) = false := by simp; omega
 have b13 : (op == 13) = false := by simp; omega
 have b14 : (op == 14) = false := by simp; omega
 have b15 : (op == 15) = false := by simp; omega
 have b16 : (op == 16) = false := by simp; omega
 have b19 : (op == 19) = false := by simp; omega
 have b20 : (op == 20) = false := by simp; omega
 obtain ⟨n, hn⟩ : ∃ n, Hid ((a :: l).length = n) := ⟨_, hide rfl⟩
 have hn0 : (0 : Int) < (n : Int) := by have h := hn.out; rw [List.length_cons] at h; omega
 obtain ⟨m, hm⟩ : ∃ n, Hid (qs.length = n) := ⟨_, hide rfl⟩
 rw [hn.out, hm.out] at HV ⊢
 clear hQ hql hR hI hl hE hK hl0
 go_enter Tryz.func55, Tryz.ntmps55
 go_wp2_with fail
 refine HV.out.mono ?_
 rintro e w1 ⟨⟨d, rfl, -, -, -⟩, hb⟩
 have hbA := hb.alloc hb.size (.cells #[.slice d.P d.zs.length d.cap, .bool d.u] 24)
 have HB := hide hbA
 have c0 : w1.cell? ad = some (.slice a.P a.zs.length a.cap) := (hb.cell had).trans e0
 have l1 : ad.block < w1.heap.size := Nat.lt_of_lt_of_le had hb.size
 clear had e0
 clear hb HV hbA
 go_wp2_with fail
 refine bodyPost_ret (results_two rfl _ _) rfl ?_
 exact ⟨rfl, HB.out⟩
set_option maxRecDepth 100000 in
set_option maxHeartbeats 4000000 in
theorem opunit_10 (qs : List Int) (a : Dsc) (A B : Option Addr) (qcap cap : Nat) (ah am ar ak : Addr) (w : World) (hqs : qs.length = 3) (hl0 : (Op.look 10 qs ([a])).1 = 0) (hQ : Ri w A qs) (hql : qs.length ≤ 1000000) (hR : Row w B (([a]).flatMap Dsc.vals)) (hI : ∀ d ∈ ([a]), d.In w) (hl : ([a]).length ≤ 1000000) (hE : E4 w ah am ar ak) (hK : Kz w) :
  Calls Tryz.prog 55 #[.int .i64 10, .slice A 3 qcap, .slice B 1 cap] w (OpU w ah am ar ak 0 (2)) := by
 have HV := hide (opresult_c 10 qs ([a]) A B qcap cap ah am ar ak w hQ hql hR hI hl hE hK)
 unfold OpE at HV
 rw [hl0, show Elm.err ah am ar ak 0 = .nilIface from rfl] at HV
 obtain ⟨ad, hB, had, e0, -⟩ := rowd_first hR
 subst hB
 rw [hqs] at HV
 have HV : Hid (Calls Tryz.prog 84 #[.int .i64 10, .slice A 3 qcap, .slice (some ad) 1 cap] w fun e w' => (∃ d : Dsc, e = .returned (.tuple #[.agg (dcells d.P d.zs.length d.cap d.u), .nilIface]) ∧ d.In w' ∧ d.zs = (Op.look 10 qs [a]).2.1 ∧ d.u = (Op.look 10 qs [a]).2.2) ∧ Below w.heap.size w w') := HV
 clear hQ hql hR hI hl hE hK hl0
 go_enter Tryz.func55, Tryz.ntmps55
 go_wp2_with fail
 refine HV.out.mono ?_
 rintro e w1 ⟨⟨d, rfl, -, -, -⟩, hb⟩
 have hbA := hb.alloc hb.size (.cells #[.slice d.P d.zs.length d.cap, .bool d.u] 24)
 have HB := hide hbA
 have c0 : w1.cell? ad = some (.slice a.P a.zs.length a.cap) := (hb.cell had).trans e0
 have l1 : ad.block < w1.heap.size := Nat.lt_of_lt_of_le had hb.size
 clear had e0
 clear hb HV hbA
 go_wp2_with fail
 refine bodyPost_ret (results_two rfl _ _) rfl ?_
 exact ⟨rfl, HB.out⟩
set_option maxRecDepth 100000 in
set_option maxHeartbeats 4000000 in
theorem opunit_12 (za zb : Int) (a b : Dsc) (A B : Option Addr) (qcap cap : Nat) (ah am ar ak : Addr) (w : World) (hz : a.zs.length = 2) (hl0 : (Op.look 12 [za, zb] ([a, b])).1 = 0) (hQ : Ri w A [za, zb]) (hql : [za, zb].length ≤ 1000000) (hR : Row w B (([a, b]).flatMap Dsc.vals)) (hI : ∀ d ∈ ([a, b]), d.In w) (hl : ([a, b]).length ≤ 1000000) (hE : E4 w ah am ar ak) (hK : Kz w) :
  Calls Tryz.prog 55 #[.int .i64 12, .slice A 2 qcap, .slice B 2 cap] w (OpU w ah am ar ak 0 (a.zs.getD 1 0)) := by
 have HV := hide (opresult_c 12 [za, zb] ([a, b]) A B qcap cap ah am ar ak w hQ hql hR hI hl hE hK)
 unfold OpE at HV
 rw [hl0, show Elm.err ah am ar ak 0 = .nilIface from rfl] at HV
 obtain ⟨ad, hB, had, e0, -⟩ := rowd_first hR
 subst hB
 obtain ⟨m, k, hzs⟩ : ∃ m k, a.zs = [m, k] := by
  match h : a.zs, hz with
  | [m, k], _ => exact ⟨m, k, rfl⟩
 have hri := (hI a (by simp)).shp
 rw [hzs] at hri e0 ⊢
 obtain ⟨pa, hpa, p0, p1⟩ := ri_pair hri
 have hpal : pa.block < w.heap.size := by obtain ⟨x, h3, h4, -⟩ := hri.2 (by simp); rw [hpa] at h3; rw [Option.some.inj h3]; exact h4
 rw [hpa] at e0
 have HV : Hid (Calls Tryz.prog 84 #[.int .i64 12, .slice A 2 qcap, .slice (some ad) 2 cap] w fun e w' => (∃ d : Dsc, e = .returned (.tuple #[.agg (dcells d.P d.zs.length d.cap d.u), .nilIface]) ∧ d.In w' ∧ d.zs = (Op.look 12 [za, zb] [a, b]).2.1 ∧ d.u = (Op.look 12 [za, zb] [a, b]).2.2) ∧ Below w.heap.size w w') := HV
 clear hQ hql hR hI hl hE hK hl0
 go_enter Tryz.func55, Tryz.ntmps55
 go_wp2_with fail
 refine HV.out.mono ?_
 rintro e w1 ⟨⟨d, rfl, -, -, -⟩, hb⟩
 have hbA := hb.alloc hb.size (.cells #[.slice d.P d.zs.length d.cap, .bool d.u] 24)
 have HB := hide hbA
 have c0 : w1.cell? ad = some (.slice (some pa) 2 a.cap) := (hb.cell had).trans e0
 have l1 : ad.block < w1.heap.size := Nat.lt_of_lt_of_le had hb.size
 have q1 := (hb.cell (p := ⟨pa.block, pa.off + 1, none⟩) hpal).trans p1
 have l2 : pa.block < w1.heap.size := Nat.lt_of_lt_of_le hpal hb.size
 clear had e0 hpal p0 p1 hpa hri hzs
 clear hb HV hbA
 go_wp2_with fail
 refine bodyPost_ret (results_two rfl _ _) rfl ?_
 exact ⟨rfl, HB.out⟩
set_option maxRecDepth 100000 in
set_option maxHeartbeats 4000000 in
theorem opunit_13 (qs : List Int) (a b : Dsc) (A B : Option Addr) (qcap cap : Nat) (ah am ar ak : Addr) (w : World) (hqs : qs.length = 3) (hz : b.zs.length = 4) (hcap : b.zs.length ≤ b.cap) (hl0 : (Op.look 13 qs ([a, b])).1 = 0) (hQ : Ri w A qs) (hql : qs.length ≤ 1000000) (hR : Row w B (([a, b]).flatMap Dsc.vals)) (hI : ∀ d ∈ ([a, b]), d.In w) (hl : ([a, b]).length ≤ 1000000) (hE : E4 w ah am ar ak) (hK : Kz w) :
  Calls Tryz.prog 55 #[.int .i64 13, .slice A 3 qcap, .slice B 2 cap] w (OpU w ah am ar ak 0 (Shp.elems (b.zs.take 3))) := by
 have HV := hide (opresult_c 13 qs ([a, b]) A B qcap cap ah am ar ak w hQ hql hR hI hl hE hK)
 unfold OpE at HV
 rw [hl0, show Elm.err ah am ar ak 0 = .nilIface from rfl] at HV
 obtain ⟨ad, hB, had, e0, -, e2, -⟩ := rowd_two hR
 subst hB
 have HIb := hide (fun W (h : Below w.heap.size w W) => elems_c (b.zs.take 3) b.P b.cap am ar W (((hI b (by simp)).shp.below h).take 3) (by rw [List.length_take]; omega) (hE.1.2.below h))
 have hl3 : (b.zs.take 3).length = 3 := by rw [List.length_take]; omega
 rw [hl3] at HIb
 have hsl : ∀ W, (Instr.slice 22 (.slice b.P 4 b.cap) none (some (.int .i64 3)) none).run Tryz.prog W = .ok (.slice b.P 3 b.cap) W := fun W => cut_slice_run b.P 4 b.cap 3 (by omega) W
 rw [hz] at e2
 obtain ⟨u, hu⟩ : ∃ u, Hid (Shp.elems (b.zs.take 3) = u) := ⟨_, hide rfl⟩
 rw [hu.out] at HIb ⊢
 rw [hqs] at HV
 have HV : Hid (Calls Tryz.prog 84 #[.int .i64 13, .slice A 3 qcap, .slice (some ad) 2 cap] w fun e w' => (∃ d : Dsc, e = .returned (.tuple #[.agg (dcells d.P d.zs.length d.cap d.u), .nilIface]) ∧ d.In w' ∧ d.zs = (Op.look 13 qs [a, b]).2.1 ∧ d.u = (Op.look 13 qs [a, b]).2.2) ∧ Below w.heap.size w w') := HV
 clear hQ hql hR hI hl hE hK hl0
 go_enter Tryz.func55, Tryz.ntmps55
 go_wp2_with fail
 refine HV.out.mono ?_
 rintro e w1 ⟨⟨d, rfl, -, -, -⟩, hb⟩
 have hbA := hb.alloc hb.size (.cells #[.slice d.P d.zs.length d.cap, .bool d.u] 24)
 have HB := hide hbA
 have c0 : w1.cell? ad = some (.slice a.P a.zs.length a.cap) := (hb.cell had).trans e0
 have c2 := (hb.cell (p := ⟨ad.block, ad.off + 2, none⟩) had).trans e2
 have l1 : ad.block < w1.heap.size := Nat.lt_of_lt_of_le had hb.size
 clear had e0 e2 hl3 hz hcap hqs
 clear hb HV hbA
 go_wp2_with fail
 refine (HIb.out _ HB.out).mono ?_
 rintro e w4 ⟨rfl, hb4⟩
 replace HB := hide (HB.out.trans (hb4.mono HB.out.size))
 clear hb4 HIb hsl
 go_wp2_with fail
 refine bodyPost_ret (results_two rfl _ _) rfl ?_
 exact ⟨rfl, HB.out⟩
set_option maxRecDepth 100000 in
set_option maxHeartbeats 4000000 in
theorem opunit_14 (q0 q1 : Int) (a : Dsc) (A B : Option Addr) (qcap cap : Nat) (ah am ar ak : Addr) (w : World) (hq : 1 ≤ q0 ∧ q0 ≤ 16) (hl0 : (Op.look 14 [q0, q1] ([a])).1 = 0) (hQ : Ri w A [q0, q1]) (hql : [q0, q1].length ≤ 1000000) (hR : Row w B (([a]).flatMap Dsc.vals)) (hI : ∀ d ∈ ([a]), d.In w) (hl : ([a]).length ≤ 1000000) (hE : E4 w ah am ar ak) (hK : Kz w) :
  Calls Tryz.prog 55 #[.int .i64 14, .slice A 2 qcap, .slice B 1 cap] w (OpU w ah am ar ak 0 (q0 * q0)) := by
 have HV := hide (opresult_c 14 [q0, q1] ([a]) A B qcap cap ah am ar ak w hQ hql hR hI hl hE hK)
 unfold OpE at HV
 rw [hl0, show Elm.err ah am ar ak 0 = .nilIface from rfl] at HV
 obtain ⟨ad, hB, had, e0, -⟩ := rowd_first hR
 subst hB
 have hri := hQ
 obtain ⟨pa, hpa, p0, -⟩ := ri_pair hri
 have hpal : pa.block < w.heap.size := by obtain ⟨x, h3, h4, -⟩ := hri.2 (by simp); rw [hpa] at h3; rw [Option.some.inj h3]; exact h4
 subst hpa
 obtain ⟨u, hu⟩ : ∃ u, q0 * q0 = u := ⟨_, rfl⟩
 have hub : 0 ≤ u ∧ u ≤ 256 := by
  have h1 := Int.mul_le_mul (a := q0) (b := q0) (c := 16) (d := 16) hq.2 hq.2 (by omega) (by omega)
  have h2 := Int.mul_nonneg (show (0 : Int) ≤ q0 by omega) (show (0 : Int) ≤ q0 by omega)
  omega
 have O1 : Hid (IntKind.i64.wrap (q0 * q0) = u) := hide (by rw [hu, IntKind.wrap_i64]; omega)
 rw [hu]
 have HV : Hid (Calls Tryz.prog 84 #[.int .i64 14, .slice (some pa) 2 qcap, .slice (some ad) 1 cap] w fun e w' => (∃ d : Dsc, e = .returned (.tuple #[.agg (dcells d.P d.zs.length d.cap d.u), .nilIface]) ∧ d.In w' ∧ d.zs = (Op.look 14 [q0, q1] [a]).2.1 ∧ d.u = (Op.look 14 [q0, q1] [a]).2.2) ∧ Below w.heap.size w w') := HV
 clear hQ hql hR hI hl hE hK hl0
 go_enter Tryz.func55, Tryz.ntmps55
 go_wp2_with fail
 refine HV.out.mono ?_
 rintro e w1 ⟨⟨d, rfl, -, -, -⟩, hb⟩
 have hbA := hb.alloc hb.size (.cells #[.slice d.P d.zs.length d.cap, .bool d.u] 24)
 have HB := hide hbA
 have c0 : w1.cell? ad = some (.slice a.P a.zs.length a.cap) := (hb.cell had).trans e0
 have l1 : ad.block < w1.heap.size := Nat.lt_of_lt_of_le had hb.size
 have q1 := (hb.cell hpal).trans p0
 have l2 : pa.block < w1.heap.size := Nat.lt_of_lt_of_le hpal hb.size
 have hbz := hbA.cell hpal
 rw [p0] at hbz
 have q1z := hbz
 clear had e0 hpal p0 hri hq hu hub hbz
 clear hb HV hbA
 go_wp2_with fail
 have o1 := O1.out
 go_quiet (fail)
 go_wp2_with fail
 refine bodyPost_ret (results_two rfl _ _) rfl ?_
 exact ⟨rfl, below_drewN HB.out _⟩
set_option maxRecDepth 100000 in
set_option maxHeartbeats 4000000 in
theorem opunit_15 (q0 q1 : Int) (a : Dsc) (A B : Option Addr) (qcap cap : Nat) (ah am ar ak : Addr) (w : World) (hq : 1 ≤ q0 ∧ q0 ≤ 16) (hl0 : (Op.look 15 [q0, q1] ([a])).1 = 0) (hQ : Ri w A [q0, q1]) (hql : [q0, q1].length ≤ 1000000) (hR : Row w B (([a]).flatMap Dsc.vals)) (hI : ∀ d ∈ ([a]), d.In w) (hl : ([a]).length ≤ 1000000) (hE : E4 w ah am ar ak) (hK : Kz w) :
  Calls Tryz.prog 55 #[.int .i64 15, .slice A 2 qcap, .slice B 1 cap] w (OpU w ah am ar ak 0 (q0 * q0)) := by
 have HV := hide (opresult_c 15 [q0, q1] ([a]) A B qcap cap ah am ar ak w hQ hql hR hI hl hE hK)
 unfold OpE at HV
 rw [hl0, show Elm.err ah am ar ak 0 = .nilIface from rfl] at HV
 obtain ⟨ad, hB, had, e0, -⟩ := rowd_first hR
 subst hB
 have hri := hQ
 obtain ⟨pa, hpa, p0, -⟩ := ri_pair hri
 have hpal : pa.block < w.heap.size := by obtain ⟨x, h3, h4, -⟩ := hri.2 (by simp); rw [hpa] at h3; rw [Option.some.inj h3]; exact h4
 subst hpa
 obtain ⟨u, hu⟩ : ∃ u, q0 * q0 = u := ⟨_, rfl⟩
 have hub : 0 ≤ u ∧ u ≤ 256 := by
  have h1 := Int.mul_le_mul (a := q0) (b := q0) (c := 16) (d := 16) hq.2 hq.2 (by omega) (by omega)
  have h2 := Int.mul_nonneg (show (0 : Int) ≤ q0 by omega) (show (0 : Int) ≤ q0 by omega)
  omega
 have O1 : Hid (IntKind.i64.wrap (q0 * q0) = u) := hide (by rw [hu, IntKind.wrap_i64]; omega)
 rw [hu]
 have HV : Hid (Calls Tryz.prog 84 #[.int .i64 15, .slice (some pa) 2 qcap, .slice (some ad) 1 cap] w fun e w' => (∃ d : Dsc, e = .returned (.tuple #[.agg (dcells d.P d.zs.length d.cap d.u), .nilIface]) ∧ d.In w' ∧ d.zs = (Op.look 15 [q0, q1] [a]).2.1 ∧ d.u = (Op.look 15 [q0, q1] [a]).2.2) ∧ Below w.heap.size w w') := HV
 clear hQ hql hR hI hl hE hK hl0
 go_enter Tryz.func55, Tryz.ntmps55
 go_wp2_with fail
 refine HV.out.mono ?_
 rintro e w1 ⟨⟨d, rfl, -, -, -⟩, hb⟩
 have hbA := hb.alloc hb.size (.cells #[.slice d.P d.zs.length d.cap, .bool d.u] 24)
 have HB := hide hbA
 have c0 : w1.cell? ad = some (.slice a.P a.zs.length a.cap) := (hb.cell had).trans e0
 have l1 : ad.block < w1.heap.size := Nat.lt_of_lt_of_le had hb.size
 have q1 := (hb.cell hpal).trans p0
 have l2 : pa.block < w1.heap.size := Nat.lt_of_lt_of_le hpal hb.size
 have hbz := hbA.cell hpal
 rw [p0] at hbz
 have q1z := hbz
 clear had e0 hpal p0 hri hq hu hub hbz
 clear hb HV hbA
 go_wp2_with fail
 have o1 := O1.out
 go_quiet (fail)
 go_wp2_with fail
 refine bodyPost_ret (results_two rfl _ _) rfl ?_
 exact ⟨rfl, below_drewN HB.out _⟩
set_option maxRecDepth 100000 in
set_option maxHeartbeats 4000000 in
theorem opunit_16 (a b : Dsc) (A B : Option Addr) (qcap cap : Nat) (ah am ar ak : Addr) (w : World) (hz : 0 < a.zs.length) (hl0 : (Op.look 16 ([] : List Int) ([a, b])).1 = 0) (hQ : Ri w A ([] : List Int)) (hql : ([] : List Int).length ≤ 1000000) (hR : Row w B (([a, b]).flatMap Dsc.vals)) (hI : ∀ d ∈ ([a, b]), d.In w) (hl : ([a, b]).length ≤ 1000000) (hE : E4 w ah am ar ak) (hK : Kz w) :
  Calls Tryz.prog 55 #[.int .i64 16, .slice A 0 qcap, .slice B 2 cap] w (OpU w ah am ar ak 0 (a.zs.getD (a.zs.length - 1) 0)) := by
 have HV := hide (opresult_c 16 ([] : List Int) ([a, b]) A B qcap cap ah am ar ak w hQ hql hR hI hl hE hK)
 unfold OpE at HV
 rw [hl0, show Elm.err ah am ar ak 0 = .nilIface from rfl] at HV
 obtain ⟨ad, hB, had, e0, -⟩ := rowd_first hR
 subst hB
 obtain ⟨pa, x, hpa, ex, cx⟩ := ri_at (hI a (by simp)).shp (a.zs.length - 1) (by omega)
 have hpal : pa.block < w.heap.size := by obtain ⟨y, h3, h4, -⟩ := (hI a (by simp)).shp.2 (by intro h; rw [h] at hz; simp at hz); rw [hpa] at h3; rw [Option.some.inj h3]; exact h4
 have hgx : a.zs.getD (a.zs.length - 1) 0 = x := by rw [List.getD_eq_getElem?_getD, ex.out]; rfl
 have hln := (hI a (by simp)).ls
 rw [hgx]
 rw [hpa] at e0
 obtain ⟨n, hn⟩ : ∃ n, a.zs.length = n := ⟨_, rfl⟩
 rw [hn] at e0 cx hz hln
 obtain ⟨j, hj⟩ : ∃ j, n - 1 = j := ⟨_, rfl⟩
 rw [hj] at cx
 have O1 : Hid (IntKind.i64.wrap ((n : Int) - 1) = (j : Int)) := hide (by rw [IntKind.wrap_i64]; omega)
 have O2 : Hid (wrap64 ((n : Int) - 1) = (j : Int)) := hide (by unfold wrap64; omega)
 have hj0 : (0 : Int) ≤ (j : Int) := by omega
 have hjn : (j : Int) < (n : Int) := by omega
 have HV : Hid (Calls Tryz.prog 84 #[.int .i64 16, .slice A 0 qcap, .slice (some ad) 2 cap] w fun e w' => (∃ d : Dsc, e = .returned (.tuple #[.agg (dcells d.P d.zs.length d.cap d.u), .nilIface]) ∧ d.In w' ∧ d.zs = (Op.look 16 [] [a, b]).2.1 ∧ d.u = (Op.look 16 [] [a, b]).2.2) ∧ Below w.heap.size w w') := HV
 clear hQ hql hR hI hl hE hK hl0
 go_enter Tryz.func55, Tryz.ntmps55
 go_wp2_with fail
 refine HV.out.mono ?_
 rintro e w1 ⟨⟨d, rfl, -, -, -⟩, hb⟩
 have hbA := hb.alloc hb.size (.cells #[.slice d.P d.zs.length d.cap, .bool d.u] 24)
 have HB := hide hbA
 have c0 : w1.cell? ad = some (.slice (some pa) n a.cap) := (hb.cell had).trans e0
 have l1 : ad.block < w1.heap.size := Nat.lt_of_lt_of_le had hb.size
 have q1 := (hb.cell (p := pa.add j) (by rw [elm_block]; exact hpal)).trans cx
 have l2 : (pa.add j).block < w1.heap.size := by rw [elm_block]; exact Nat.lt_of_lt_of_le hpal hb.size
 have o1 := O1.out
 have o2 := O2.out
 clear had e0 hpal cx ex hpa hgx hn hj hz hln
 clear hb HV hbA
 go_wp2_with fail
 refine bodyPost_ret (results_two rfl _ _) rfl ?_
 exact ⟨rfl, HB.out⟩
set_option maxRecDepth 100000 in
set_option maxHeartbeats 4000000 in
theorem opunit_19 (a : Dsc) (A B : Option Addr) (qcap cap : Nat) (ah am ar ak : Addr) (w : World) (hz : 0 < a.zs.length) (hl0 : (Op.look 19 ([] : List Int) ([a])).1 = 0) (hQ : Ri w A ([] : List Int)) (hql : ([] : List Int).length ≤ 1000000) (hR : Row w B (([a]).flatMap Dsc.vals)) (hI : ∀ d ∈ ([a]), d.In w) (hl : ([a]).length ≤ 1000000) (hE : E4 w ah am ar ak) (hK : Kz w) :
  Calls Tryz.prog 55 #[.int .i64 19, .slice A 0 qcap, .slice B 1 cap] w (OpU w ah am ar ak 0 (a.zs.getD (a.zs.length - 1) 0)) := by
 have HV := hide (opresult_c 19 ([] : List Int) ([a]) A B qcap cap ah am ar ak w hQ hql hR hI hl hE hK)
 unfold OpE at HV
 rw [hl0, show Elm.err ah am ar ak 0 = .nilIface from rfl] at HV
 obtain ⟨ad, hB, had, e0, -⟩ := rowd_first hR
 subst hB
 obtain ⟨pa, x, hpa, ex, cx⟩ := ri_at (hI a (by simp)).shp (a.zs.length - 1) (by omega)
 have hpal : pa.block < w.heap.size := by obtain ⟨y, h3, h4, -⟩ := (hI a (by simp)).shp.2 (by intro h; rw [h] at hz; simp at hz); rw [hpa] at h3; rw [Option.some.inj h3]; exact h4
 have hgx : a.zs.getD (a.zs.length - 1) 0 = x := by rw [List.getD_eq_getElem?_getD, ex.out]; rfl
 have hln := (hI a (by simp)).ls
 rw [hgx]
 rw [hpa] at e0
 obtain ⟨n, hn⟩ : ∃ n, a.zs.length = n := ⟨_, rfl⟩
 rw [hn] at e0 cx hz hln
 obtain ⟨j, hj⟩ : ∃ j, n - 1 = j := ⟨_, rfl⟩
 rw [hj] at cx
 have O1 : Hid (IntKind.i64.wrap ((n : Int) - 1) = (j : Int)) := hide (by rw [IntKind.wrap_i64]; omega)
 have O2 : Hid (wrap64 ((n : Int) - 1) = (j : Int)) := hide (by unfold wrap64; omega)
 have hj0 : (0 : Int) ≤ (j : Int) := by omega
 have hjn : (j : Int) < (n : Int) := by omega
 have HV : Hid (Calls Tryz.prog 84 #[.int .i64 19, .slice A 0 qcap, .slice (some ad) 1 cap] w fun e w' => (∃ d : Dsc, e = .returned (.tuple #[.agg (dcells d.P d.zs.length d.cap d.u), .nilIface]) ∧ d.In w' ∧ d.zs = (Op.look 19 [] [a]).2.1 ∧ d.u = (Op.look 19 [] [a]).2.2) ∧ Below w.heap.size w w') := HV
 clear hQ hql hR hI hl hE hK hl0
 go_enter Tryz.func55, Tryz.ntmps55
 go_wp2_with fail
 refine HV.out.mono ?_
 rintro e w1 ⟨⟨d, rfl, -, -, -⟩, hb⟩
 have hbA := hb.alloc hb.size (.cells #[.slice d.P d.zs.length d.cap, .bool d.u] 24)
 have HB := hide hbA
 have c0 : w1.cell? ad = some (.slice (some pa) n a.cap) := (hb.cell had).trans e0
 have l1 : ad.block < w1.heap.size := Nat.lt_of_lt_of_le had hb.size
 have q1 := (hb.cell (p := pa.add j) (by rw [elm_block]; exact hpal)).trans cx
 have l2 : (pa.add j).block < w1.heap.size := by rw [elm_block]; exact Nat.lt_of_lt_of_le hpal hb.size
 have o1 := O1.out
 have o2 := O2.out
 clear had e0 hpal cx ex hpa hgx hn hj hz hln
 clear hb HV hbA
 go_wp2_with fail
 refine bodyPost_ret (results_two rfl _ _) rfl ?_
 exact ⟨rfl, HB.out⟩
set_option maxRecDepth 100000 in
set_option maxHeartbeats 4000000 in
theorem opunit_20 (a : Dsc) (A B : Option Addr) (qcap cap : Nat) (ah am ar ak : Addr) (w : World) (hz : 0 < a.zs.length) (hl0 : (Op.look 20 ([] : List Int) ([a])).1 = 0) (hQ : Ri w A ([] : List Int)) (hql : ([] : List Int).length ≤ 1000000) (hR : Row w B (([a]).flatMap Dsc.vals)) (hI : ∀ d ∈ ([a]), d.In w) (hl : ([a]).length ≤ 1000000) (hE : E4 w ah am ar ak) (hK : Kz w) :
  Calls Tryz.prog 55 #[.int .i64 20, .slice A 0 qcap, .slice B 1 cap] w (OpU w ah am ar ak 0 (a.zs.getD (a.zs.length - 1) 0)) := by
 have HV := hide (opresult_c 20 ([] : List Int) ([a]) A B qcap cap ah am ar ak w hQ hql hR hI hl hE hK)
 unfold OpE at HV
 rw [hl0, show Elm.err ah am ar ak 0 = .nilIface from rfl] at HV
 obtain ⟨ad, hB, had, e0, -⟩ := rowd_first hR
 subst hB
 obtain ⟨pa, x, hpa, ex, cx⟩ := ri_at (hI a (by simp)).shp (a.zs.length - 1) (by omega)
 have hpal : pa.block < w.heap.size := by obtain ⟨y, h3, h4, -⟩ := (hI a (by simp)).shp.2 (by intro h; rw [h] at hz; simp at hz); rw [hpa] at h3; rw [Option.some.inj h3]; exact h4
 have hgx : a.zs.getD (a.zs.length - 1) 0 = x := by rw [List.getD_eq_getElem?_getD, ex.out]; rfl
 have hln := (hI a (by simp)).ls
 rw [hgx]
 rw [hpa] at e0
 obtain ⟨n, hn⟩ : ∃ n, a.zs.length = n := ⟨_, rfl⟩
 rw [hn] at e0 cx hz hln
 obtain ⟨j, hj⟩ : ∃ j, n - 1 = j := ⟨_, rfl⟩
 rw [hj] at cx
 have O1 : Hid (IntKind.i64.wrap ((n : Int) - 1) = (j : Int)) := hide (by rw [IntKind.wrap_i64]; omega)
 have O2 : Hid (wrap64 ((n : Int) - 1) = (j : Int)) := hide (by unfold wrap64; omega)
 have hj0 : (0 : Int) ≤ (j : Int) := by omega
 have hjn : (j : Int) < (n : Int) := by omega
 have HV : Hid (Calls Tryz.prog 84 #[.int .i64 20, .slice A 0 qcap, .slice (some ad) 1 cap] w fun e w' => (∃ d : Dsc, e = .returned (.tuple #[.agg (dcells d.P d.zs.length d.cap d.u), .nilIface]) ∧ d.In w' ∧ d.zs = (Op.look 20 [] [a]).2.1 ∧ d.u = (Op.look 20 [] [a]).2.2) ∧ Below w.heap.size w w') := HV
 clear hQ hql hR hI hl hE hK hl0
 go_enter Tryz.func55, Tryz.ntmps55
 go_wp2_with fail
 refine HV.out.mono ?_
 rintro e w1 ⟨⟨d, rfl, -, -, -⟩, hb⟩
 have hbA := hb.alloc hb.size (.cells #[.slice d.P d.zs.length d.cap, .bool d.u] 24)
 have HB := hide hbA
 have c0 : w1.cell? ad = some (.slice (some pa) n a.cap) := (hb.cell had).trans e0
 have l1 : ad.block < w1.heap.size := Nat.lt_of_lt_of_le had hb.size
 have q1 := (hb.cell (p := pa.add j) (by rw [elm_block]; exact hpal)).trans cx
 have l2 : (pa.add j).block < w1.heap.size := by rw [elm_block]; exact Nat.lt_of_lt_of_le hpal hb.size
 have o1 := O1.out
 have o2 := O2.out
 clear had e0 hpal cx ex hpa hgx hn hj hz hln
 clear hb HV hbA
 go_wp2_with fail
 refine bodyPost_ret (results_two rfl _ _) rfl ?_
 exact ⟨rfl, HB.out⟩
theorem Mat.zero_len {za zb : Int} {a b : Dsc} (h : Mat.code za zb a b = 0) : a.zs.length = 2 := by
 unfold Mat.code at h
 split at h
 ·rename_i h1; exact absurd h h1
 split at h
 ·cases h
 ·rename_i h2
  exact Classical.byContradiction fun h3 => h2 (.inr (.inr (.inl h3)))
theorem Cv.zero_len {qs : List Int} {a b : Dsc} (h : Cv.code qs a b = 0) : b.zs.length = 4 := by
 unfold Cv.code at h
 split at h
 ·cases h
 split at h
 ·rename_i h1; exact absurd h h1
 split at h
 ·cases h
 ·rename_i h2
  exact Classical.byContradiction fun h3 => h2 (.inr (.inr (.inr (.inl h3))))
theorem Pl.zero_len {qs : List Int} {a : Dsc} (h : Pl.code qs a = 0) : 1 ≤ qs.getD 0 0 ∧ qs.getD 0 0 ≤ 16 := by
 unfold Pl.code at h
 split at h
 ·cases h
 split at h
 ·rename_i h1; exact absurd h h1
 split at h
 ·cases h
 split at h
 ·cases h
 ·rename_i h2
  omega
theorem Sf.zero_lk {op : Int} {ds : List Dsc} (h : Sf.code op ds = 0) : ∃ x, Sf.lk op ds = some x := by
 unfold Sf.code at h
 split at h
 ·cases h
 split at h
 ·rename_i h1; exact absurd h h1
 cases hx : Sf.lk op ds with
 | none => rw [hx] at h; cases h
 | some x => exact ⟨x, rfl⟩
theorem Sf.zero_len2 {a b : Dsc} (h : Sf.code 16 [a, b] = 0) : 0 < a.zs.length := by
 obtain ⟨x, hx⟩ := Sf.zero_lk h
 have hx : (if a.u = false ∧ 0 < a.zs.length ∧ b.zs = [256] ∧ b.u = true then some (a.zs, false) else none) = some x := hx
 split at hx
 ·rename_i h1; exact h1.2.1
 ·cases hx
theorem Sf.zero_len1 {op : Int} {a : Dsc} (h : Sf.code op [a] = 0) : 0 < a.zs.length := by
 obtain ⟨x, hx⟩ := Sf.zero_lk h
 have hx : (if 0 < a.zs.length then some (a.zs.dropLast, true) else none) = some x := hx
 split at hx
 ·assumption
 ·cases hx
theorem Op.ins_pos {op : Int} (h : Op.known op) : 1 ≤ Op.ins op := by
 have : op = 4 ∨ op = 5 ∨ op = 6 ∨ op = 7 ∨ op = 8 ∨ op = 9 ∨ op = 10 ∨ op = 11 ∨ op = 12 ∨ op = 13 ∨ op = 14 ∨ op = 15 ∨ op = 16 ∨ op = 17 ∨ op = 18 ∨ op = 19 ∨ op = 20 ∨ op = 21 := by
  have h1 := h.1
  have h2 := h.2
  omega
 rcases this with rfl | rfl | rfl | rfl | rfl | rfl | rfl | rfl | rfl | rfl | rfl | rfl | rfl | rfl | rfl | rfl | rfl | rfl <;> decide
set_option maxRecDepth 100000 in
theorem opunit_c (op : Int) (qs : List Int) (ds : List Dsc) (A B : Option Addr) (qcap cap : Nat) (ah am ar ak : Addr) (w : World) (hQ : Ri w A qs) (hql : qs.length ≤ 1000000) (hR : Row w B (ds.flatMap Dsc.vals)) (hI : ∀ d ∈ ds, d.In w) (hl : ds.length ≤ 1000000) (hE : E4 w ah am ar ak) (hK : Kz w) (hcap : ∀ d ∈ ds, d.zs.length ≤ d.cap) :
  Calls Tryz.prog 55 #[.int .i64 op, .slice A qs.length qcap, .slice B ds.length cap] w (OpU w ah am ar ak (Op.look op qs ds).1 (Op.unit op qs ds)) := by
 by_cases h0 : (Op.look op qs ds).1 ≠ 0
 ·have e : Op.unit op qs ds = 0 := if_pos h0
  rw [e]
  exact opunit_bad op qs ds A B qcap cap ah am ar ak w h0 hQ hql hR hI hl hE hK
 have h0 : (Op.look op qs ds).1 = 0 := Classical.byContradiction h0
 obtain ⟨hk, ⟨hi, ha⟩, h2⟩ := Op.look_zero h0
 have hu : Op.unit op qs ds = if op = 10 then 2 else if op = 12 then (ds.getD 0 Op.no).zs.getD 1 0 else if op = 13 then Shp.elems ((ds.getD 1 Op.no).zs.take 3) else if op = 14 ∨ op = 15 then qs.getD 0 0 * qs.getD 0 0
   else if op = 16 ∨ op = 19 ∨ op = 20 then (ds.getD 0 Op.no).zs.getD ((ds.getD 0 Op.no).zs.length - 1) 0 else 1 := if_neg (fun h => h h0)
 rw [hu, h0]
 by_cases ho : op ≠ 10 ∧ op ≠ 12 ∧ op ≠ 13 ∧ op ≠ 14 ∧ op ≠ 15 ∧ op ≠ 16 ∧ op ≠ 19 ∧ op ≠ 20
 ·rw [if_neg ho.1, if_neg ho.2.1, if_neg ho.2.2.1, if_neg (by omega), if_neg (by omega)]
  have h1 := Op.ins_pos hk
  match ds, hi with
  | [], hi => rw [← hi] at h1; cases h1
  | a :: l, _ => exact opunit_other op qs a l A B qcap cap ah am ar ak w ho h0 hQ hql hR hI hl hE hK
 have : op = 10 ∨ op = 12 ∨ op = 13 ∨ op = 14 ∨ op = 15 ∨ op = 16 ∨ op = 19 ∨ op = 20 := by omega
 clear ho hu
 rcases this with rfl | rfl | rfl | rfl | rfl | rfl | rfl | rfl
 ·have hi : ds.length = 1 := hi
  have ha : qs.length = 3 := ha (by decide)
  match ds, hi with
  | [a], _ =>
   have h := opunit_10 qs a A B qcap cap ah am ar ak w ha h0 hQ hql hR hI hl hE hK
   rw [ha]
   exact h
 ·have hi : ds.length = 2 := hi
  have ha : qs.length = 2 := ha (by decide)
  match ds, hi, qs, ha with
  | [a, b], _, [za, zb], _ => exact opunit_12 za zb a b A B qcap cap ah am ar ak w (Mat.zero_len h2) h0 hQ hql hR hI hl hE hK
 ·have hi : ds.length = 2 := hi
  have ha : qs.length = 3 := ha (by decide)
  match ds, hi with
  | [a, b], _ =>
   have h := opunit_13 qs a b A B qcap cap ah am ar ak w ha (Cv.zero_len h2) (hcap b (by simp)) h0 hQ hql hR hI hl hE hK
   rw [ha]
   exact h
 ·have hi : ds.length = 1 := hi
  have ha : qs.length = 2 := ha (by decide)
  match ds, hi, qs, ha with
  | [a], _, [q0, q1], _ => exact opunit_14 q0 q1 a A B qcap cap ah am ar ak w (Pl.zero_len (show Pl.code [q0, q1] a = 0 from h2)) h0 hQ hql hR hI hl hE hK
 ·have hi : ds.length = 1 := hi
  have ha : qs.length = 2 := ha (by decide)
  match ds, hi, qs, ha with
  | [a], _, [q0, q1], _ => exact opunit_15 q0 q1 a A B qcap cap ah am ar ak w (Pl.zero_len (show Pl.code [q0, q1] a = 0 from h2)) h0 hQ hql hR hI hl hE hK
 ·have hi : ds.length = 2 := hi
  have ha : qs.length = 0 := ha (by decide)
  obtain rfl := List.length_eq_zero_iff.1 ha
  match ds, hi with
  | [a, b], _ => exact opunit_16 a b A B qcap cap ah am ar ak w (Sf.zero_len2 h2) h0 hQ hql hR hI hl hE hK
 ·have hi : ds.length = 1 := hi
  have ha : qs.length = 0 := ha (by decide)
  obtain rfl := List.length_eq_zero_iff.1 ha
  match ds, hi with
  | [a], _ => exact opunit_19 a A B qcap cap ah am ar ak w (Sf.zero_len1 (show Sf.code 19 [a] = 0 from h2)) h0 hQ hql hR hI hl hE hK
 ·have hi : ds.length = 1 := hi
  have ha : qs.length = 0 := ha (by decide)
  obtain rfl := List.length_eq_zero_iff.1 ha
  match ds, hi with
  | [a], _ => exact opunit_20 a A B qcap cap ah am ar ak w (Sf.zero_len1 (show Sf.code 20 [a] = 0 from h2)) h0 hQ hql hR hI hl hE hK
end Go.Proofs.YtgdcfjmpjhlndaaGreatDoor
