/-
  What the reference's Result functions answer, in one form; lodgeref3.seen, walked. lodgeref3.MatResult, walked. lodgeref3.descsOf, walked. lodgeref3.Known, Ins, Args; Result of MatMul and of Turn, walked. lodgeref3.element of MatMul and of Turn, walked. By an AI agent. No person has read it.
-/
import Derived.Test.YtgdcfjmpjhlndaaGreatDoorZORefR
import Derived.Test.YtgdcfjmpjhlndaaGreatDoorZOElmN
import Derived.Test.YtgdcfjmpjhlndaaGreatDoorZOCelC
import Derived.Test.YtgdcfjmpjhlndaaGreatDoorZOMatN
namespace Go.Proofs.YtgdcfjmpjhlndaaGreatDoor
open Go.RowKit
set_option maxRecDepth 100000 in
set_option maxHeartbeats 8000000 in
theorem descsof_c (ts : List Ten) (B : Option Addr) (cap : Nat) (w : World) (hT : Row w B (ts.flatMap Ten.vals)) (hl : ts.length ≤ 1000000) :
  Calls Tryz.prog 39 #[.slice B ts.length cap] w fun e w' =>
   (∃ v, e = .returned v ∧ w'.ownsRow w.heap.size 24 2 v ts.length (ts.flatMap fun t => t.look.vals)) ∧ Below w.heap.size w w' := by
 have HR := hide hT
 obtain ⟨i0, hi0, hz0, hz1, hz2⟩ := descinfo
 have HI0 := hide hi0
 have HZ0 := hide hz0
 have HZ1 := hide hz1
 have HZ2 := hide hz2
 have HU := hide uds
 clear hi0 hz0 hz1 hz2 hT
 obtain ⟨n, hn⟩ : ∃ n, Hid (ts.length = n) := ⟨_, hide rfl⟩
 rw [hn.out] at hl ⊢
 go_enter Tryz.func39, Tryz.ntmps39
 go_wp2_with fail
 go_loopw [3, 4] (fun v k wr => ∃ i : Nat, i ≤ n ∧ k = .int .i64 i ∧ Hid (wr.ownsRow w.heap.size 24 2 v i ((ts.take i).flatMap fun t => t.look.vals)) ∧ Hid (Below w.heap.size w wr)) (fun _ k _ => n - (intOf k).toNat)
 case atStart => exact ⟨0, by omega, rfl, hide ⟨rfl, .inl ⟨rfl, rfl⟩⟩, hide (Below.refl _ _)⟩
 case round =>
  obtain ⟨i, hi, rfl, HO, HB⟩ := hrel
  by_cases hlt : i < n
  ·obtain ⟨ad, t, rfl, had, ht, c0, c1, c2⟩ := row_ten (HR.out.below HB.out) i (by rw [hn.out]; exact hlt)
   have hown2 := hide (HO.out.alloc (.cells #[.slice t.P t.zs.length t.cap, .bool t.u] 24))
   have HB2 := hide (HB.out.alloc HB.out.size (.cells #[.slice t.P t.zs.length t.cap, .bool t.u] 24))
   have hsz := hide HB2.out.size
   have hnw := hide (new_cells wr 24 [.slice t.P t.zs.length t.cap, .bool t.u])
   have h1w : Hid (∀ x ∈ [Value.slice t.P t.zs.length t.cap, .bool t.u], x.oneCell' = true) := hide (by
    intro x hx
    simp at hx
    rcases hx with rfl | rfl
    all_goals rfl)
   clear HB HO had c2
   go_wp2_with (at_builtin; refine wpList_append_own_at _ rfl _ _ 45 rfl w.heap.size 24 i0 (.agg #[.slice none 0 0, .bool false]) 2 32 HU.out HI0.out HZ0.out HZ1.out HZ2.out rfl (by decide) _ i _ rfl hown2.out ⟨wr.heap.size, 0, none⟩ 1 1 [.slice t.P t.zs.length t.cap, .bool t.u] rfl rfl hnw.out h1w.out (by unfold maxLen; omega) (by omega) hsz.out ?_)
   intro s0 W0 hown' hgrow hnil hat
   have HB := hide (elm_grown HB2.out hown2.out HB2.out.size hgrow)
   have HO := hide hown'
   clear HB2 hown2 hown' hgrow hnw h1w hsz c0 c1 hnil hat
   go_wp2_with fail
   go_roundw
   case rel =>
    refine ⟨i + 1, by omega, by go_num, hide ?_, HB⟩
    have h := HO.out
    rw [List.take_add_one, ht.out, Option.toList_some, List.flatMap_append, List.flatMap_cons, List.flatMap_nil, List.append_nil]
    exact h
   case measure => simp [intOf]; omega
  ·obtain rfl : i = n := by omega
   have hl2 : ts.take i = ts := List.take_of_length_le (by rw [hn.out]; exact Nat.le_refl _)
   rw [hl2] at HO
   clear hl2
   go_wp2_with fail
   go_ret
   exact ⟨⟨_, rfl, HO.out⟩, HB.out⟩
set_option maxRecDepth 100000 in
set_option maxHeartbeats 2000000 in
theorem relem_mat (za zb : Int) (a b : Ten) (M K N : Nat) (hf : Mat.Fine za zb a b M K N) (d : Dsc) (A B : Option Addr) (qcap cap i : Nat) (w : World) (hi : i < M * N) (hQ : Ri w A [za, zb]) (hR : Row w B ([a, b].flatMap Ten.vals)) (ha : a.In w) (hb : b.In w) :
  Calls Tryz.prog 42 #[.int .i64 12, .slice A 2 qcap, .int .i64 i, .slice B 2 cap, .agg (dcells d.P d.zs.length d.cap d.u)] w fun e w' => e = .returned (.int .i64 (Tens.wide (Mat.dot a.ds b.ds za zb K N (i / N) (i % N) K))) ∧ Below w.heap.size w w' := by
 obtain ⟨pr, hpr, hprl, r0, r1, r2, r3, r4, r5⟩ := row_two hR
 obtain ⟨pq, hpq, q0, q1⟩ := ri_pair hQ
 have hpql : pq.block < w.heap.size := by obtain ⟨ad, h1, h2, -⟩ := hQ.2 (by simp); rw [hpq] at h1; rw [Option.some.inj h1]; exact h2
 subst hpr
 subst hpq
 have hra := ha.shp
 have hrb := hb.shp
 rw [hf.az] at hra
 rw [hf.bz] at hrb
 obtain ⟨pa, epa, a0, a1⟩ := ri_pair hra
 obtain ⟨pb, epb, b0, b1⟩ := ri_pair hrb
 have hpal : pa.block < w.heap.size := by obtain ⟨ad, h1, h2, -⟩ := hra.2 (by simp); rw [epa] at h1; rw [Option.some.inj h1]; exact h2
 have hpbl : pb.block < w.heap.size := by obtain ⟨ad, h1, h2, -⟩ := hrb.2 (by simp); rw [epb] at h1; rw [Option.some.inj h1]; exact h2
 have hla : a.zs.length = 2 := by rw [hf.az]; rfl
 have hlb : b.zs.length = 2 := by rw [hf.bz]; rfl
 rw [epa, hla] at r0
 rw [epb, hlb] at r3
 obtain ⟨W0, hW0⟩ : ∃ W, W = (w.alloc (.cells #[.slice d.P d.zs.length d.cap, .bool d.u] 24)).alloc (.cells #[.slice (some pa) 2 a.cap, .bool a.u, .slice a.D a.ds.length a.dcap] 26) := ⟨_, rfl⟩
 have hbw : Below w.heap.size w W0 := by rw [hW0]; exact ((Below.refl _ _).alloc (Nat.le_refl _) _).alloc (by simp) _
 have hx : Has W0 (w.heap.size + 1) 26 [.slice (some pa) 2 a.cap, .bool a.u, .slice a.D a.ds.length a.dcap] := by rw [hW0]; exact box_at _ _ _ _ (by simp)
 have hbz : Below w.heap.size w (w.alloc (.cells #[.slice d.P d.zs.length d.cap, .bool d.u] 24)) := (Below.refl _ _).alloc (Nat.le_refl _) _
 have z0 : (w.alloc (.cells #[.slice d.P d.zs.length d.cap, .bool d.u] 24)).cell? pr = some (.slice (some pa) 2 a.cap) := (hbz.cell hprl).trans r0
 have z1 : (w.alloc (.cells #[.slice d.P d.zs.length d.cap, .bool d.u] 24)).cell? ⟨pr.block, pr.off + 1, none⟩ = some (.bool a.u) := (hbz.cell (p := ⟨pr.block, pr.off + 1, none⟩) hprl).trans r1
 have z2 : (w.alloc (.cells #[.slice d.P d.zs.length d.cap, .bool d.u] 24)).cell? ⟨pr.block, pr.off + 2, none⟩ = some (.slice a.D a.ds.length a.dcap) := (hbz.cell (p := ⟨pr.block, pr.off + 2, none⟩) hprl).trans r2
 have hN1 := hf.n1
 have hm1 := hf.m2
 have hn2 := hf.n2
 have hk2 := hf.k2
 obtain ⟨R, hR'⟩ : ∃ q_, Hid (i / N = q_) := ⟨_, hide rfl⟩
 obtain ⟨C, hC⟩ : ∃ q_, Hid (i % N = q_) := ⟨_, hide rfl⟩
 have hRM : R < M := by rw [← hR'.out]; exact Nat.div_lt_of_lt_mul (by rw [Nat.mul_comm]; exact hi)
 have hCN : C < N := by rw [← hC.out]; exact Nat.mod_lt _ (by omega)
 have hib : i < 65536 := by have := Nat.mul_le_mul hm1 hn2; omega
 have HR1 : Hid ((i : Int) / (N : Int) = (R : Int)) := hide (by rw [← hR'.out]; exact (Int.natCast_ediv i N).symm)
 have HR2 : Hid ((i : Int).tdiv (N : Int) = (R : Int)) := hide (by rw [Int.tdiv_eq_ediv_of_nonneg (by omega)]; exact HR1.out)
 have HR3 : Hid (IntKind.i64.wrap (R : Int) = (R : Int)) := hide (by rw [IntKind.wrap_i64]; omega)
 have HC1 : Hid ((i : Int) % (N : Int) = (C : Int)) := hide (by rw [← hC.out]; exact (Int.natCast_emod i N).symm)
 have HC2 : Hid ((i : Int).tmod (N : Int) = (C : Int)) := hide (by rw [Int.tmod_eq_emod_of_nonneg (by omega)]; exact HC1.out)
 have ha' := ha
 have HIa := hide (fun W (h : Below w.heap.size w W) => ha.dat.below h)
 have HIb := hide (fun W (h : Below w.heap.size w W) => hb.dat.below h)
 obtain ⟨na, hna⟩ : ∃ q_, Hid (a.ds.length = q_) := ⟨_, hide rfl⟩
 obtain ⟨nb, hnb⟩ : ∃ q_, Hid (b.ds.length = q_) := ⟨_, hide rfl⟩
 have hna' : Hid (na = M * K) := hide (by rw [← hna.out]; exact hf.al)
 have hnb' : Hid (nb = K * N) := hide (by rw [← hnb.out]; exact hf.bl)
 have HNA : Hid (na ≤ 65536 ∧ nb ≤ 65536) := hide (by have h1 := Nat.mul_le_mul hm1 hk2; have h2 := Nat.mul_le_mul hk2 hn2; rw [hna'.out, hnb'.out]; exact ⟨h1, h2⟩)
 have HSA := hide hf.sa
 have HSB := hide hf.sb
 have HZA := hide hf.ra
 have HZB := hide hf.rb
 have HDB := hide (fun r c k => Mat.dot_le hf.sa hf.sb za zb hf.ra hf.rb K N r c k)
 have HWD := hide (fun n W => rwide_c n W)
 have HX := hide hx
 have HB := hide (Below.refl W0.heap.size W0)
 have HB0 := hide hbw
 have HP1 : Hid (W0.cell? ⟨pr.block, pr.off + 5, none⟩ = some (.slice b.D b.ds.length b.dcap)) := hide ((hbw.cell (p := ⟨pr.block, pr.off + 5, none⟩) hprl).trans r5)
 have HP2 : Hid (W0.cell? pq = some (.int .i64 za)) := hide ((hbw.cell hpql).trans q0)
 have HP3 : Hid (W0.cell? ⟨pq.block, pq.off + 1, none⟩ = some (.int .i64 zb)) := hide ((hbw.cell (p := ⟨pq.block, pq.off + 1, none⟩) hpql).trans q1)
 have HLR : Hid (pr.block < W0.heap.size ∧ pq.block < W0.heap.size) := hide (by have := hbw.size; omega)
 have d3 : ((w.alloc (.cells #[.slice d.P d.zs.length d.cap, .bool d.u] 24)).alloc (.cells #[.slice (some pa) 2 a.cap, .bool a.u, .slice a.D a.ds.length a.dcap] 26)).cell? ⟨pr.block, pr.off + 3, none⟩ = some (.slice (some pb) 2 b.cap) := by rw [← hW0]; exact (hbw.cell (p := ⟨pr.block, pr.off + 3, none⟩) hprl).trans r3
 have c1 : ((w.alloc (.cells #[.slice d.P d.zs.length d.cap, .bool d.u] 24)).alloc (.cells #[.slice (some pa) 2 a.cap, .bool a.u, .slice a.D a.ds.length a.dcap] 26)).cell? ⟨pa.block, pa.off + 1, none⟩ = some (.int .i64 K) := by rw [← hW0]; exact (hbw.cell (p := ⟨pa.block, pa.off + 1, none⟩) hpal).trans a1
 have c2 : ((w.alloc (.cells #[.slice d.P d.zs.length d.cap, .bool d.u] 24)).alloc (.cells #[.slice (some pa) 2 a.cap, .bool a.u, .slice a.D a.ds.length a.dcap] 26)).cell? ⟨pb.block, pb.off + 1, none⟩ = some (.int .i64 N) := by rw [← hW0]; exact (hbw.cell (p := ⟨pb.block, pb.off + 1, none⟩) hpbl).trans b1
 rw [hna.out] at HX
 rw [hnb.out] at HP1
 have HW := hide hW0
 have HRM := hide hRM
 have HCN := hide hCN
 have HKB := hide hk2
 have HNB := hide hn2
 rw [hR'.out, hC.out]
 obtain ⟨D, hD⟩ : ∃ q_, Hid (Mat.dot a.ds b.ds za zb K N R C K = q_) := ⟨_, hide rfl⟩
 rw [hD.out]
 have hi65 : (i : Int) ≤ 65536 := by omega
 clear hf hi hQ hR ha hb hW0 hbw hx hbz r0 r1 r2 r3 r4 r5 q0 q1 a0 a1 b0 b1 hra hrb hpal hpbl hprl hpql ha' epa epb hla hlb hm1 hn2 hk2 hRM hCN hib
 go_enter Tryz.func42, Tryz.ntmps42
 go_wp2_with fail
 rw [← HW.out]
 clear HW z0 z1 z2 c1 c2 d3
 go_loopg [15, 16] K (fun q v k wr => ∃ (j : Nat) (s : Int), q + j = K ∧ k = .int .i64 j ∧ v = .int .i64 s ∧ Hid (Mat.dot a.ds b.ds za zb K N R C j = s) ∧ Hid (Below W0.heap.size W0 wr))
 case atStart => exact ⟨0, 0, by omega, rfl, rfl, hide rfl, HB⟩
 case round =>
  clear HB
  obtain ⟨j, s, hj, rfl, rfl, HD, HB⟩ := hrel
  by_cases hjk : j = K
  ·subst hjk
   have hs : D = s := by rw [← hD.out, HD.out]
   subst hs
   have hje : ¬ ((j : Int) < (j : Int)) := by omega
   have HBF := hide (HB0.out.trans (HB.out.mono HB0.out.size))
   have HC := hide (HWD.out D wr)
   go_wp2_with fail
   refine HC.out.mono ?_
   rintro e w9 ⟨rfl, hw⟩
   have hw := hw.symm
   subst hw
   go_wp2_with fail
   go_ret
   exact ⟨rfl, HBF.out⟩
  ·have hjl : j < K := by omega
   have hji : (j : Int) < (K : Int) := by omega
   have hNn : ¬ ((N : Int) = 0) := by omega
   have hNn2 : ¬ N = 0 := by omega
   obtain ⟨p1, hp1⟩ : ∃ p, Hid (R * K = p) := ⟨_, hide rfl⟩
   obtain ⟨p2, hp2⟩ : ∃ p, Hid (j * N = p) := ⟨_, hide rfl⟩
   have hp1b : p1 + K ≤ na := by rw [← hp1.out, hna'.out, ← Nat.succ_mul]; exact Nat.mul_le_mul_right K HRM.out
   have hp2b : p2 + N ≤ nb := by rw [← hp2.out, hnb'.out, ← Nat.succ_mul]; exact Nat.mul_le_mul_right N hjl
   obtain ⟨q1, hq1⟩ : ∃ q, Hid (p1 + j = q) := ⟨_, hide rfl⟩
   obtain ⟨q2, hq2⟩ : ∃ q, Hid (p2 + C = q) := ⟨_, hide rfl⟩
   have hq1' := hq1.out
   have hq2' := hq2.out
   have hcn := HCN.out
   have hnab := HNA.out
   have hq1n : q1 < na := by omega
   have hq2n : q2 < nb := by omega
   have Hwp1 : Hid (IntKind.i64.wrap ((R : Int) * (K : Int)) = (p1 : Int)) := hide (by
    rw [show (R : Int) * (K : Int) = (p1 : Int) by rw [← hp1.out, Int.natCast_mul], IntKind.wrap_i64]
    omega)
   have Hwp2 : Hid (IntKind.i64.wrap ((j : Int) * (N : Int)) = (p2 : Int)) := hide (by
    rw [show (j : Int) * (N : Int) = (p2 : Int) by rw [← hp2.out, Int.natCast_mul], IntKind.wrap_i64]
    omega)
   have Hwq1 : Hid (IntKind.i64.wrap ((p1 : Int) + (j : Int)) = (q1 : Int)) := hide (by rw [IntKind.wrap_i64]; omega)
   have Hwq2 : Hid (IntKind.i64.wrap ((p2 : Int) + (C : Int)) = (q2 : Int)) := hide (by rw [IntKind.wrap_i64]; omega)
   have hbr := HB0.out.trans (HB.out.mono HB0.out.size)
   obtain ⟨ad, x, hAD, ex, cx⟩ := ri_at (HIa.out _ hbr) q1 (by rw [hna.out]; exact hq1n)
   obtain ⟨bd, y, hBD, ey, cy⟩ := ri_at (HIb.out _ hbr) q2 (by rw [hnb.out]; exact hq2n)
   have hxb := HSA.out x (List.mem_of_getElem? ex.out)
   have hyb := HSB.out y (List.mem_of_getElem? ey.out)
   have hzab := HZA.out
   have hzbb := HZB.out
   have hpr := Mat.prod_le (x - za) (y - zb) (by omega) (by omega)
   have hdl := HDB.out R C j
   rw [HD.out] at hdl
   obtain ⟨x', hx'⟩ : ∃ q, Hid (x - za = q) := ⟨_, hide rfl⟩
   obtain ⟨y', hy'⟩ : ∃ q, Hid (y - zb = q) := ⟨_, hide rfl⟩
   have Hwx : Hid (IntKind.i64.wrap (x - za) = x') := hide (by rw [IntKind.wrap_i64, ← hx'.out]; omega)
   have Hwy : Hid (IntKind.i64.wrap (y - zb) = y') := hide (by rw [IntKind.wrap_i64, ← hy'.out]; omega)
   rw [hx'.out, hy'.out] at hpr
   obtain ⟨pr', hpr'⟩ : ∃ q, Hid (x' * y' = q) := ⟨_, hide rfl⟩
   rw [hpr'.out] at hpr
   have Hwpr : Hid (IntKind.i64.wrap (x' * y') = pr') := hide (by rw [hpr'.out, IntKind.wrap_i64]; omega)
   obtain ⟨s', hs'⟩ : ∃ q, Hid (s + pr' = q) := ⟨_, hide rfl⟩
   have Hws : Hid (IntKind.i64.wrap (s + pr') = s') := hide (by rw [IntKind.wrap_i64, ← hs'.out]; have := HKB.out; omega)
   have HD' : Hid (Mat.dot a.ds b.ds za zb K N R C (j + 1) = s') := hide (by
    show Mat.dot a.ds b.ds za zb K N R C j + (a.ds.getD (R * K + j) 0 - za) * (b.ds.getD (j * N + C) 0 - zb) = s'
    rw [HD.out, hp1.out, hp2.out, hq1.out, hq2.out, List.getD_eq_getElem?_getD, List.getD_eq_getElem?_getD, ex.out, ey.out, Option.getD_some, Option.getD_some, hx'.out, hy'.out, hpr'.out, hs'.out])
   have hq10 : (0 : Int) ≤ (q1 : Int) := by omega
   have hq11 : (q1 : Int) < na := by omega
   have hq20 : (0 : Int) ≤ (q2 : Int) := by omega
   have hq21 : (q2 : Int) < nb := by omega
   have hj1 : ((j : Nat) : Int) + 1 ≤ 1000001 := by have := HKB.out; omega
   have HAD := hide hAD
   have HBD := hide hBD
   have g2 : wr.cell? ⟨w.heap.size + 1, 2, none⟩ = some (.slice (some ad) na a.dcap) := by
    have h := (HX.out.below HB.out HX.out.lt).cell 2
    rw [hAD] at h
    exact h
   have g5 : wr.cell? ⟨pr.block, pr.off + 5, none⟩ = some (.slice (some bd) nb b.dcap) := by
    have h := (HB.out.cell (p := ⟨pr.block, pr.off + 5, none⟩) HLR.out.1).trans HP1.out
    rw [hBD] at h
    exact h
   have g6 : wr.cell? pq = some (.int .i64 za) := (HB.out.cell HLR.out.2).trans HP2.out
   have g7 : wr.cell? ⟨pq.block, pq.off + 1, none⟩ = some (.int .i64 zb) := (HB.out.cell (p := ⟨pq.block, pq.off + 1, none⟩) HLR.out.2).trans HP3.out
   clear hAD hBD hp1b hp2b hq1' hq2' hq1n hq2n hxb hyb hpr hdl hzab hzbb ex ey hbr hcn hnab
   go_wp2_with fail
   have o1 := Hwp1.out
   have o2 := Hwp2.out
   have o3 := Hwq1.out
   have o4 := Hwq2.out
   have o5 := Hwx.out
   have o6 := Hwy.out
   have o7 := Hwpr.out
   have o8 := Hws.out
   have o9 := HR1.out
   have o10 := HR2.out
   have o11 := HR3.out
   have o12 := HC1.out
   have o13 := HC2.out
   go_quiet (fail)
   clear o1 o2 o3 o4 o5 o6 o7 o8 o9 o10 o11 o12 o13 g2 g5 g6 g7 cx cy
   replace HB := hide (below_drewN HB.out nq)
   generalize wr.drewN nq = W3 at *
   go_wp2_with fail
   go_roundg (K - (j + 1))
   case measure => omega
   case rel => exact ⟨j + 1, s', by omega, by go_num, rfl, HD', HB⟩
set_option maxRecDepth 100000 in
set_option maxHeartbeats 2000000 in
theorem relem_turn (a : Ten) (M N : Nat) (hf : Mat.TFine a M N) (d : Dsc) (A B : Option Addr) (qcap cap i : Nat) (w : World) (hi : i < N * M) (hR : Row w B ([a].flatMap Ten.vals)) (ha : a.In w) :
  Calls Tryz.prog 42 #[.int .i64 21, .slice A 0 qcap, .int .i64 i, .slice B 1 cap, .agg (dcells d.P d.zs.length d.cap d.u)] w fun e w' => e = .returned (.int .i64 (a.ds.getD (i % M * N + i / M) 0)) ∧ Below w.heap.size w w' := by
 obtain ⟨pr, hpr, hprl, r0, r1, r2⟩ := row_one hR
 subst hpr
 have hra := ha.shp
 rw [hf.az] at hra
 obtain ⟨pa, epa, a0, a1⟩ := ri_pair hra
 have hpal : pa.block < w.heap.size := by obtain ⟨ad, h1, h2, -⟩ := hra.2 (by simp); rw [epa] at h1; rw [Option.some.inj h1]; exact h2
 have hla : a.zs.length = 2 := by rw [hf.az]; rfl
 rw [epa, hla] at r0
 have hm1 := hf.m1
 have hm2 := hf.m2
 have hn2 := hf.n2
 obtain ⟨R, hR'⟩ : ∃ q_, Hid (i % M = q_) := ⟨_, hide rfl⟩
 obtain ⟨C, hC⟩ : ∃ q_, Hid (i / M = q_) := ⟨_, hide rfl⟩
 have hRM : R < M := by rw [← hR'.out]; exact Nat.mod_lt _ (by omega)
 have hCN : C < N := by rw [← hC.out]; exact Nat.div_lt_of_lt_mul (by rw [Nat.mul_comm]; exact hi)
 have hib : i < 65536 := by have := Nat.mul_le_mul hn2 hm2; omega
 obtain ⟨p1, hp1⟩ : ∃ q_, Hid (R * N = q_) := ⟨_, hide rfl⟩
 obtain ⟨q, hq⟩ : ∃ q_, Hid (p1 + C = q_) := ⟨_, hide rfl⟩
 have hqn : q < a.ds.length := by
  have h1 := Nat.mul_le_mul_right N (Nat.succ_le_of_lt hRM)
  rw [Nat.succ_mul, hp1.out] at h1
  have h2 := hq.out
  rw [hf.al]
  omega
 obtain ⟨ad, x, hAD, ex, cx⟩ := ri_at ha.dat q hqn
 have hadl : ad.block < w.heap.size := by obtain ⟨ad', h1, h2, -⟩ := ha.dat.2 (by intro h; rw [h] at hqn; simp at hqn); rw [hAD] at h1; rw [Option.some.inj h1]; exact h2
 rw [hAD] at r2
 obtain ⟨na, hna⟩ : ∃ q_, Hid (a.ds.length = q_) := ⟨_, hide rfl⟩
 rw [hna.out] at r2 hqn
 have hnb : na ≤ 65536 := by have h := Nat.mul_le_mul hm2 hn2; rw [← hf.al, hna.out] at h; exact h
 have HV : Hid (a.ds.getD (i % M * N + i / M) 0 = x) := hide (by rw [hR'.out, hC.out, hp1.out, hq.out, List.getD_eq_getElem?_getD, ex.out]; rfl)
 obtain ⟨W0, hW0⟩ : ∃ W, W = (w.alloc (.cells #[.slice d.P d.zs.length d.cap, .bool d.u] 24)).alloc (.cells #[.slice (some pa) 2 a.cap, .bool a.u, .slice (some ad) na a.dcap] 26) := ⟨_, rfl⟩
 have hbw : Below w.heap.size w W0 := by rw [hW0]; exact ((Below.refl _ _).alloc (Nat.le_refl _) _).alloc (by simp) _
 have hx : Has W0 (w.heap.size + 1) 26 [.slice (some pa) 2 a.cap, .bool a.u, .slice (some ad) na a.dcap] := by rw [hW0]; exact box_at _ _ _ _ (by simp)
 have hbz : Below w.heap.size w (w.alloc (.cells #[.slice d.P d.zs.length d.cap, .bool d.u] 24)) := (Below.refl _ _).alloc (Nat.le_refl _) _
 have z0 : (w.alloc (.cells #[.slice d.P d.zs.length d.cap, .bool d.u] 24)).cell? pr = some (.slice (some pa) 2 a.cap) := (hbz.cell hprl).trans r0
 have z1 : (w.alloc (.cells #[.slice d.P d.zs.length d.cap, .bool d.u] 24)).cell? ⟨pr.block, pr.off + 1, none⟩ = some (.bool a.u) := (hbz.cell (p := ⟨pr.block, pr.off + 1, none⟩) hprl).trans r1
 have z2 : (w.alloc (.cells #[.slice d.P d.zs.length d.cap, .bool d.u] 24)).cell? ⟨pr.block, pr.off + 2, none⟩ = some (.slice (some ad) na a.dcap) := (hbz.cell (p := ⟨pr.block, pr.off + 2, none⟩) hprl).trans r2
 have c0 : W0.cell? pa = some (.int .i64 M) := (hbw.cell hpal).trans a0
 have e0 : ((w.alloc (.cells #[.slice d.P d.zs.length d.cap, .bool d.u] 24)).alloc (.cells #[.slice (some pa) 2 a.cap, .bool a.u, .slice (some ad) na a.dcap] 26)).cell? pa = some (.int .i64 M) := by rw [← hW0]; exact c0
 have c1 : W0.cell? ⟨pa.block, pa.off + 1, none⟩ = some (.int .i64 N) := (hbw.cell (p := ⟨pa.block, pa.off + 1, none⟩) hpal).trans a1
 have c2 : W0.cell? (ad.add q) = some (.int .i64 x) := (hbw.cell (by rw [elm_block]; exact hadl)).trans cx
 have c3 : W0.cell? ⟨w.heap.size + 1, 0, none⟩ = some (.slice (some pa) 2 a.cap) := hx.cell 0
 have c4 : W0.cell? ⟨w.heap.size + 1, 2, none⟩ = some (.slice (some ad) na a.dcap) := hx.cell 2
 have HR1 : Hid ((i : Int) % (M : Int) = (R : Int)) := hide (by rw [← hR'.out]; exact (Int.natCast_emod i M).symm)
 have HR2 : Hid ((i : Int).tmod (M : Int) = (R : Int)) := hide (by rw [Int.tmod_eq_emod_of_nonneg (by omega)]; exact HR1.out)
 have HC1 : Hid ((i : Int) / (M : Int) = (C : Int)) := hide (by rw [← hC.out]; exact (Int.natCast_ediv i M).symm)
 have HC2 : Hid ((i : Int).tdiv (M : Int) = (C : Int)) := hide (by rw [Int.tdiv_eq_ediv_of_nonneg (by omega)]; exact HC1.out)
 have HC3 : Hid (IntKind.i64.wrap (C : Int) = (C : Int)) := hide (by rw [IntKind.wrap_i64]; omega)
 have hqe := hq.out
 have HP1 : Hid (IntKind.i64.wrap ((R : Int) * (N : Int)) = (p1 : Int)) := hide (by
  rw [show (R : Int) * (N : Int) = (p1 : Int) by rw [← hp1.out, Int.natCast_mul], IntKind.wrap_i64]
  omega)
 have HP2 : Hid (IntKind.i64.wrap ((p1 : Int) + (C : Int)) = (q : Int)) := hide (by rw [IntKind.wrap_i64]; omega)
 have hMn : ¬ ((M : Int) = 0) := by omega
 have hMn2 : ¬ M = 0 := by omega
 have hq0 : (0 : Int) ≤ (q : Int) := by omega
 have hq1 : (q : Int) < (na : Int) := by omega
 have hi65 : (i : Int) ≤ 65536 := by omega
 have HB0 := hide hbw
 have HW := hide hW0
 clear hf hi hR ha hW0 hbw hx hbz r0 r1 r2 a0 a1 hra hpal hprl epa hla hm1 hm2 hn2 hRM hCN hib hqn hAD ex cx hadl hnb hqe
 go_enter Tryz.func42, Tryz.ntmps42
 go_wp2_with fail
 rw [← HW.out]
 clear HW z0 z1 z2 e0
 have o9 := HR1.out
 have o10 := HR2.out
 have o11 := HC3.out
 have o12 := HC1.out
 have o13 := HC2.out
 have o1 := HP1.out
 have o2 := HP2.out
 go_quiet (fail)
 clear o1 o2 o9 o10 o11 o12 o13 c0 c1 c2 c3 c4
 have HB1 := hide (below_drewN HB0.out nq)
 generalize W0.drewN nq = W3 at *
 go_wp2_with fail
 go_ret
 exact ⟨by rw [HV.out]; rfl, HB1.out⟩
end Go.Proofs.YtgdcfjmpjhlndaaGreatDoor
