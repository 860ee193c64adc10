/-
  cells.conv: elements of a convolution. By an AI agent. No person has read it.
-/
import Derived.Test.YtgdcfjmpjhlndaaGreatDoorZOCnvA
namespace Go.Proofs.YtgdcfjmpjhlndaaGreatDoor
open Go.RowKit
theorem Cv.ins_nat (n k s p o : Nat) : ∃ f t : Nat, Cv.ins n k s p o = ((f : Int), (t : Int)) ∧ f ≤ t ∧ t ≤ k ∧ ∀ d, d < k → ((f ≤ d ∧ d < t) ↔ Cv.here n s p o d) := by
 have h := Cv.ins_le n k s p o (by omega)
 refine ⟨(Cv.ins n k s p o).1.toNat, (Cv.ins n k s p o).2.toNat, Prod.ext (by show _ = _; omega) (by show _ = _; omega), by omega, by omega, fun d hd => ?_⟩
 have h2 := Cv.ins_mem n k s p o d (by omega) (by omega)
 unfold Cv.here
 rw [← Int.natCast_mul] at h2
 omega
theorem Cv.succ (e : Nat) (h : e ≤ 2000000) : Value.int .i64 (wrap64 ((e : Int) + 1)) = .int .i64 ((e + 1 : Nat) : Int) := by
 unfold wrap64
 rw [show ((e : Int) + 1 + 9223372036854775808) % 18446744073709551616 - 9223372036854775808 = ((e + 1 : Nat) : Int) by omega]
structure Cv.Ok (c : Cv) : Prop where
 s1 : 1 ≤ c.s
 s2 : c.s ≤ 16
 p2 : c.p ≤ 15
 kh1 : 1 ≤ c.KH
 kw1 : 1 ≤ c.KW
 kh2 : c.KH ≤ c.H + 2 * c.p
 kw2 : c.KW ≤ c.W + 2 * c.p
 n1 : 1 ≤ c.N
 c1 : 1 ≤ c.C
 h2 : c.H ≤ 1000000
 w2 : c.W ≤ 1000000
 a2 : c.H * c.W * c.C ≤ 1000000
 k2 : c.KH * c.KW * c.C * c.N ≤ 1000000
 o2 : c.oh * c.ow * c.N ≤ 1000000
 z2 : -128 ≤ c.za ∧ c.za ≤ 127
set_option maxRecDepth 100000 in
set_option maxHeartbeats 4000000 in
theorem conv_c (os : List Int) (a b : Ten) (c : Cv) (ocap f g : Nat) (w0 w : World) (hc : c.Ok) (hza : a.zs = [(c.H : Int), (c.W : Int), (c.C : Int)]) (hzb : b.zs = [(c.KH : Int), (c.KW : Int), (c.C : Int), (c.N : Int)]) (hla : a.ds.length = c.H * c.W * c.C) (hlb : b.ds.length = c.KH * c.KW * c.C * c.N)
  (ha : a.In w0) (hb : b.In w0) (hsa : Mat.small a.ds) (hsb : Mat.small b.ds) (hB : Below w0.heap.size w0 w) (hg0 : w0.heap.size ≤ g) (hG : Has w g 3 (i64s os)) (hf : f + os.length ≤ c.oh * c.ow * c.N) :
  Calls Tryz.prog 108 #[.slice (some ⟨g, 0, none⟩) os.length ocap, .int .i64 f, .agg (tcells a.P a.zs.length a.cap a.u a.D a.ds.length a.dcap), .agg (tcells b.P b.zs.length b.cap b.u b.D b.ds.length b.dcap), .int .i64 c.s, .int .i64 c.p, .int .i64 c.za] w fun e w' => e = .returned (.tuple #[]) ∧ Has w' g 3 (i64s (c.part a.ds b.ds f os.length)) ∧ Below w0.heap.size w0 w' := by
 obtain ⟨r, hrr⟩ : ∃ r, Hid (c.part a.ds b.ds f os.length = r) := ⟨_, hide rfl⟩
 have hrl : Hid (r.length = os.length) := hide (by rw [← hrr.out]; exact Cv.part_length _ _ _ _ _)
 have hri : Hid (∀ i, i < os.length → r[i]? = some (Tens.wide (c.el a.ds b.ds ((f + i) / c.N / c.ow) ((f + i) / c.N % c.ow) ((f + i) % c.N)))) := hide (fun i hi => by
  rw [← hrr.out]
  exact Cv.part_at _ _ _ _ _ _ hi)
 rw [hrr.out]
 clear hrr
 have HA := hide ha.dat
 have HA2 := hide hb.dat
 have HWD := hide (fun n => wide_c n)
 have HSA := hide hsa
 have HSB := hide hsb
 have HOK := hide hc
 have hc11 : c.C * c.KW * c.KH ≤ 1000000 := by
  have h1 := hc.k2
  have h2 : c.KH * c.KW * c.C ≤ c.KH * c.KW * c.C * c.N := Nat.le_mul_of_pos_right _ hc.n1
  have h3 : c.C * c.KW * c.KH = c.KH * c.KW * c.C := by rw [Nat.mul_comm, Nat.mul_comm c.C, Nat.mul_assoc]
  omega
 have HWAY := hide (fun y x o dy dx ch A B h1 h2 h3 => c.way_le hsa hsb hc.z2 hc11 hc.kh1 hc.kw1 y x o dy dx ch A B h1 h2 h3)
 have HPR := hide (fun A B ch => c.prod_le hsa hsb hc.z2 A B ch)
 obtain ⟨pa', z0, hPA', ez0, ca0⟩ := ri_at (ha.shp.below hB) 0 (by rw [hza]; simp)
 obtain ⟨pa'', z1, hPA'', ez1, ca1⟩ := ri_at (ha.shp.below hB) 1 (by rw [hza]; simp)
 obtain ⟨pa, z2, hPA, ez2, ca2⟩ := ri_at (ha.shp.below hB) 2 (by rw [hza]; simp)
 obtain rfl : pa' = pa := Option.some.inj (hPA'.symm.trans hPA)
 obtain rfl : pa'' = pa' := Option.some.inj (hPA''.symm.trans hPA)
 have hz0 : z0 = c.H := by have h := ez0.out; rw [hza] at h; exact (Option.some.inj h).symm
 have hz1 : z1 = c.W := by have h := ez1.out; rw [hza] at h; exact (Option.some.inj h).symm
 have hz2 : z2 = c.C := by have h := ez2.out; rw [hza] at h; exact (Option.some.inj h).symm
 subst hz0 hz1 hz2
 obtain ⟨pk, k0, hPK, -, -⟩ := ri_at (hb.shp.below hB) 0 (by rw [hzb]; simp)
 have HKS : Hid (∀ wr, Below w0.heap.size w0 wr → wr.cell? (pk.add 0) = some (.int .i64 c.KH) ∧ wr.cell? (pk.add 1) = some (.int .i64 c.KW) ∧ wr.cell? (pk.add 3) = some (.int .i64 c.N)) := hide (fun wr hwr => by
  obtain ⟨p1, y1, h1, e1, d1⟩ := ri_at (hb.shp.below hwr) 0 (by rw [hzb]; simp)
  obtain ⟨p2, y2, h2, e2, d2⟩ := ri_at (hb.shp.below hwr) 1 (by rw [hzb]; simp)
  obtain ⟨p3, y3, h3, e3, d3⟩ := ri_at (hb.shp.below hwr) 3 (by rw [hzb]; simp)
  obtain rfl : p1 = pk := Option.some.inj (h1.symm.trans hPK)
  obtain rfl : p2 = p1 := Option.some.inj (h2.symm.trans hPK)
  obtain rfl : p3 = p2 := Option.some.inj (h3.symm.trans hPK)
  have g1 : y1 = c.KH := by have h := e1.out; rw [hzb] at h; exact (Option.some.inj h).symm
  have g2 : y2 = c.KW := by have h := e2.out; rw [hzb] at h; exact (Option.some.inj h).symm
  have g3 : y3 = c.N := by have h := e3.out; rw [hzb] at h; exact (Option.some.inj h).symm
  subst g1 g2 g3
  exact ⟨d1, d2, d3⟩)
 have hzl : a.zs.length = 3 := by rw [hza]; rfl
 have hkl : b.zs.length = 4 := by rw [hzb]; rfl
 have hlda := ha.ld
 have hldb := hb.ld
 obtain ⟨na, hna⟩ : ∃ n, Hid (a.ds.length = n) := ⟨_, hide rfl⟩
 obtain ⟨nb, hnb⟩ : ∃ n, Hid (b.ds.length = n) := ⟨_, hide rfl⟩
 obtain ⟨n, hn⟩ : ∃ n, Hid (os.length = n) := ⟨_, hide rfl⟩
 have hna' : Hid (na = c.H * c.W * c.C) := hide (hna.out.symm.trans hla)
 have hnb' : Hid (nb = c.KH * c.KW * c.C * c.N) := hide (hnb.out.symm.trans hlb)
 have HF : Hid (f + n ≤ c.oh * c.ow * c.N) := hide (by rw [← hn.out]; exact hf)
 rw [hna.out] at hlda
 rw [hnb.out] at hldb
 have hnbd : (n : Int) ≤ 1000000 := by have := HF.out; have := hc.o2; omega
 rw [hzl, hkl, hna.out, hnb.out, hPK, hPA, hn.out]
 rw [hn.out] at hrl hri
 have HOL := hide hn.out
 obtain ⟨W, hW⟩ : ∃ W, W = (w.alloc (.cells #[.slice (some pa'') 3 a.cap, .bool a.u, .slice a.D na a.dcap] 26)).alloc (.cells #[.slice (some pk) 4 b.cap, .bool b.u, .slice b.D nb b.dcap] 26) := ⟨_, rfl⟩
 have HX : Hid (Has W w.heap.size 26 [.slice (some pa'') 3 a.cap, .bool a.u, .slice a.D na a.dcap]) := hide (by rw [hW]; exact (Has.new w 26 _).alloc _)
 have HY : Hid (Has W (w.heap.size + 1) 26 [.slice (some pk) 4 b.cap, .bool b.u, .slice b.D nb b.dcap]) := hide (by
  rw [hW]
  have h := Has.new (w.alloc (.cells #[.slice (some pa'') 3 a.cap, .bool a.u, .slice a.D na a.dcap] 26)) 26 [.slice (some pk) 4 b.cap, .bool b.u, .slice b.D nb b.dcap]
  simpa using h)
 have HG : Hid (Has W g 3 (i64s os)) := hide (by rw [hW]; exact (hG.alloc _).alloc _)
 have HBw : Below w.heap.size w W := by rw [hW]; exact ((Below.refl w.heap.size w).alloc (Nat.le_refl _) _).alloc (by simp) _
 have HB := hide (hB.trans (HBw.mono hB.size))
 have hgl := hG.lt
 have hsz := hB.size
 have hpl : pa''.block < w0.heap.size := by
  obtain ⟨ad', h1, h2, -⟩ := ha.shp.2 (by rw [hza]; simp)
  rw [hPA] at h1
  rw [Option.some.inj h1]
  exact h2
 have hpw : pa''.block < w.heap.size := by omega
 have cw0 : W.cell? pa'' = some (.int .i64 c.H) := by
  rw [Addr.add_zero'] at ca0
  exact (HBw.cell hpw).trans ca0
 have cw1 : W.cell? (pa''.add 1) = some (.int .i64 c.W) := (HBw.cell (by rw [elm_block]; exact hpw)).trans ca1
 have cw2 : W.cell? (pa''.add 2) = some (.int .i64 c.C) := (HBw.cell (by rw [elm_block]; exact hpw)).trans ca2
 obtain ⟨-, -, cw3⟩ := HKS.out W HB.out
 simp only [Addr.add, Nat.reduceEqDiff, if_false] at cw1 cw2 cw3
 have HW := hide hW
 clear ha hb hB hG hf hPA hPA' hPA'' hPK ez0 ez1 ez2 hza hzb hzl hkl hn ca0 ca1 ca2 hla hlb hW HBw hsa hsb hc11 hc
 unfold tcells
 obtain ⟨H', hH'⟩ : ∃ x, Hid (c.H = x) := ⟨_, hide rfl⟩
 obtain ⟨W', hW'⟩ : ∃ x, Hid (c.W = x) := ⟨_, hide rfl⟩
 obtain ⟨C', hC'⟩ : ∃ x, Hid (c.C = x) := ⟨_, hide rfl⟩
 obtain ⟨N', hN'⟩ : ∃ x, Hid (c.N = x) := ⟨_, hide rfl⟩
 obtain ⟨S', hS'⟩ : ∃ x, Hid (c.s = x) := ⟨_, hide rfl⟩
 obtain ⟨P', hP'⟩ : ∃ x, Hid (c.p = x) := ⟨_, hide rfl⟩
 obtain ⟨Z', hZ'⟩ : ∃ x, Hid (c.za = x) := ⟨_, hide rfl⟩
 obtain ⟨U', hU'⟩ : ∃ x, Hid (c.KH = x) := ⟨_, hide rfl⟩
 obtain ⟨V', hV'⟩ : ∃ x, Hid (c.KW = x) := ⟨_, hide rfl⟩
 obtain ⟨OW, hOW⟩ : ∃ x, Hid (c.ow = x) := ⟨_, hide rfl⟩
 have HRE : Hid (∀ wr : World, Calls Tryz.prog 116 #[.int .i64 W', .int .i64 V', .int .i64 S', .int .i64 P'] wr fun e w' => e = .returned (.int .i64 OW) ∧ w' = wr) := hide (fun wr => by
  have h1 := HOK.out.w2
  have h2 := HOK.out.p2
  have h3 := HOK.out.kw2
  have h4 := HOK.out.s1
  have h := reach_c c.W c.KW c.s c.p wr (by omega) (by omega) (by omega) (by omega)
  rw [show Cv.reach c.W c.KW c.s c.p = ((c.ow : Nat) : Int) by
   unfold Cv.reach Cv.ow
   rw [Int.natCast_add, Int.natCast_ediv, Int.natCast_sub h3]
   simp] at h
  rw [hW'.out, hV'.out, hS'.out, hP'.out, hOW.out] at h
  exact h)
 rw [hH'.out] at cw0
 rw [hW'.out] at cw1
 rw [hC'.out] at cw2
 rw [hN'.out] at cw3
 rw [hS'.out, hP'.out, hZ'.out]
 go_enter Tryz.func108, Tryz.ntmps108
 go_wp2_with fail
 rw [← HW.out]
 have x0 : W.cell? ⟨w.heap.size, 0, none⟩ = some (.slice (some pa'') 3 a.cap) := HX.out.cell 0
 have y0 : W.cell? ⟨w.heap.size + 1, 0, none⟩ = some (.slice (some pk) 4 b.cap) := HY.out.cell 0
 clear HW
 go_step3
 go_wp2_with fail
 go_quiet (fail)
 clear cw0 cw1 cw2 cw3 x0 y0
 replace HX := hide (HX.out.drewN nq)
 replace HY := hide (HY.out.drewN nq)
 replace HG := hide (HG.out.drewN nq)
 replace HB := hide (below_drewN HB.out nq)
 generalize W.drewN nq = W2 at *
 obtain ⟨-, y1, -⟩ := HKS.out W2 HB.out
 rw [hV'.out] at y1
 have y0 : W2.cell? ⟨w.heap.size + 1, 0, none⟩ = some (.slice (some pk) 4 b.cap) := HY.out.cell 0
 simp only [Addr.add, Nat.reduceEqDiff, if_false] at y1
 go_wp2_with fail
 refine (HRE.out W2).mono ?_
 rintro e w9 ⟨rfl, hw⟩
 have hw := hw.symm
 subst hw
 clear y0 y1 HRE
 go_wp2_with fail
 go_step3
 go_wp2_with fail
 go_loopg [63] n (fun q k wr => ∃ (i : Nat) (xs : List Int), q + i = n ∧ k = .int .i64 i ∧ Hid (xs.length = n) ∧ Hid (∀ j, j < i → xs[j]? = r[j]?) ∧ Hid (Has wr g 3 (i64s xs)) ∧ Hid (Has wr w.heap.size 26 [.slice (some pa'') 3 a.cap, .bool a.u, .slice a.D na a.dcap]) ∧ Hid (Has wr (w.heap.size + 1) 26 [.slice (some pk) 4 b.cap, .bool b.u, .slice b.D nb b.dcap]) ∧ Hid (Below w0.heap.size w0 wr))
 case atStart => exact ⟨0, os, by omega, rfl, HOL, hide (fun j hj => by omega), HG, HX, HY, HB⟩
 case round =>
  clear HG HX HY HB
  obtain ⟨i, xs, hi, rfl, HN, HI, HG, HX, HY, HB⟩ := hrel
  by_cases hlt : i < n
  ·have him : (i : Int) < n := by omega
   have hi0 : (0 : Int) ≤ (i : Int) := by omega
   obtain ⟨s, hs⟩ : ∃ s, Hid (f + i = s) := ⟨_, hide rfl⟩
   have Hsb : Hid (s < c.oh * c.ow * c.N) := hide (by have := hs.out; have := HF.out; omega)
   have Hw1 : Hid (IntKind.i64.wrap ((f : Int) + (i : Int)) = (s : Int)) := hide (by have := Hsb.out; have := hs.out; have := HOK.out.o2; rw [IntKind.wrap_i64]; omega)
   obtain ⟨R, hR⟩ : ∃ R, Hid (s / N' = R) := ⟨_, hide rfl⟩
   obtain ⟨O, hO⟩ : ∃ R, Hid (s % N' = R) := ⟨_, hide rfl⟩
   obtain ⟨Y, hY⟩ : ∃ x, Hid (R / OW = x) := ⟨_, hide rfl⟩
   obtain ⟨X, hX⟩ : ∃ x, Hid (R % OW = x) := ⟨_, hide rfl⟩
   have HNn : Hid (0 < N') := hide (by rw [← hN'.out]; exact HOK.out.n1)
   have HOn : Hid (0 < OW) := hide (by rw [← hOW.out]; exact Nat.succ_pos _)
   have hN0 : ¬ ((N' : Int) = 0) := by have := HNn.out; omega
   have hO0 : ¬ ((OW : Int) = 0) := by have := HOn.out; omega
   have HRl : Hid (R < c.oh * OW) := hide (by
    have h := Hsb.out
    rw [← hR.out]
    rw [hN'.out, hOW.out] at h
    exact Nat.div_lt_of_lt_mul (by rw [Nat.mul_comm]; exact h))
   have HYl : Hid (Y < c.oh) := hide (by rw [← hY.out]; exact Nat.div_lt_of_lt_mul (by rw [Nat.mul_comm]; exact HRl.out))
   have HXl : Hid (X < c.ow) := hide (by rw [← hX.out, hOW.out]; exact Nat.mod_lt _ HOn.out)
   have HOl : Hid (O < c.N) := hide (by rw [← hO.out, hN'.out]; exact Nat.mod_lt _ HNn.out)
   have HRs : Hid (R ≤ s) := hide (by rw [← hR.out]; exact Nat.div_le_self _ _)
   have HYs : Hid (Y ≤ R) := hide (by rw [← hY.out]; exact Nat.div_le_self _ _)
   have Hs2 : Hid (s ≤ 1000000) := hide (by have := Hsb.out; have := HOK.out.o2; omega)
   have Hq1 : Hid (wrap64 ((s : Int) / (N' : Int)) = (R : Int)) := hide (by
    rw [show (s : Int) / (N' : Int) = (R : Int) by rw [← hR.out]; exact (Int.natCast_ediv s N').symm]
    have := HRs.out
    have := Hs2.out
    unfold wrap64
    omega)
   have Hq2 : Hid (wrap64 ((R : Int) / (OW : Int)) = (Y : Int)) := hide (by
    rw [show (R : Int) / (OW : Int) = (Y : Int) by rw [← hY.out]; exact (Int.natCast_ediv R OW).symm]
    have := HRs.out
    have := HYs.out
    have := Hs2.out
    unfold wrap64
    omega)
   have Hr1 : Hid ((s : Int) % (N' : Int) = (O : Int)) := hide (by rw [← hO.out]; exact (Int.natCast_emod s N').symm)
   have Hr2 : Hid ((R : Int) % (OW : Int) = (X : Int)) := hide (by rw [← hX.out]; exact (Int.natCast_emod R OW).symm)
   have hw1 := Hw1.out
   have hq1 := Hq1.out
   have hq2 := Hq2.out
   have hr1 := Hr1.out
   have hr2 := Hr2.out
   go_wp2_with fail
   go_quiet (fail)
   rw [Hq2.out, Hr2.out, Hr1.out]
   clear hw1 hq1 hq2 hr1 hr2 Hw1 Hq1 Hq2 Hr1 Hr2 hN0 hO0
   have hv := hri.out i hlt
   rw [hs.out, hN'.out, hOW.out, hR.out, hO.out, hY.out, hX.out] at hv
   have HV := hide hv
   clear hv
   replace HX := hide (HX.out.drewN nq)
   replace HY := hide (HY.out.drewN nq)
   replace HG := hide (HG.out.drewN nq)
   replace HB := hide (below_drewN HB.out nq)
   generalize wr.drewN nq = W3 at *
   obtain ⟨fy, ty, hiy, hfy, hty, hyi⟩ := Cv.ins_nat c.H c.KH c.s c.p Y
   obtain ⟨fx, tx, hix, hfx, htx, hxi⟩ := Cv.ins_nat c.W c.KW c.s c.p X
   have HYB : Hid (Y * c.s + c.KH ≤ c.H + 2 * c.p) := hide (Cv.here_le _ _ _ _ Y HYl.out HOK.out.kh2)
   have HXB : Hid (X * c.s + c.KW ≤ c.W + 2 * c.p) := hide (Cv.here_le _ _ _ _ X HXl.out HOK.out.kw2)
   have HIY : Hid (∀ wr : World, Calls Tryz.prog 122 #[.int .i64 H', .int .i64 U', .int .i64 S', .int .i64 P', .int .i64 Y] wr fun e w' => e = .returned (.tuple #[.int .i64 fy, .int .i64 ty]) ∧ w' = wr) := hide (fun wr => by
    have h1 := HYB.out
    have h2 := HOK.out.h2
    have h3 := HOK.out.p2
    have h := inside_c c.H c.KH c.s c.p Y wr (by rw [← Int.natCast_mul]; omega) (by omega) (by omega)
    rw [hiy, hH'.out, hU'.out, hS'.out, hP'.out] at h
    exact h)
   have HIX : Hid (∀ wr : World, Calls Tryz.prog 122 #[.int .i64 W', .int .i64 V', .int .i64 S', .int .i64 P', .int .i64 X] wr fun e w' => e = .returned (.tuple #[.int .i64 fx, .int .i64 tx]) ∧ w' = wr) := hide (fun wr => by
    have h1 := HXB.out
    have h2 := HOK.out.w2
    have h3 := HOK.out.p2
    have h := inside_c c.W c.KW c.s c.p X wr (by rw [← Int.natCast_mul]; omega) (by omega) (by omega)
    rw [hix, hW'.out, hV'.out, hS'.out, hP'.out] at h
    exact h)
   have HYI := hide hyi
   have HXI := hide hxi
   have HTY := hide hty
   have HTX := hide htx
   obtain ⟨k0', k1', -⟩ := HKS.out W3 HB.out
   rw [hU'.out, Addr.add_zero'] at k0'
   rw [hV'.out] at k1'
   have y0 : W3.cell? ⟨w.heap.size + 1, 0, none⟩ = some (.slice (some pk) 4 b.cap) := HY.out.cell 0
   simp only [Addr.add, Nat.reduceEqDiff, if_false] at k1'
   clear hiy hix hyi hxi hty htx
   go_wp2_with fail
   refine (HIY.out W3).mono ?_
   rintro e w9 ⟨rfl, hw⟩
   have hw := hw.symm
   subst hw
   go_wp2_with fail
   refine (HIX.out W3).mono ?_
   rintro e w9 ⟨rfl, hw⟩
   have hw := hw.symm
   subst hw
   clear y0 k0' k1' HIX HIY
   go_wp2_with fail
   go_loopg [23, 27] (ty - fy) (fun q d v wr => ∃ (e : Nat) (S : Int), q + e = ty ∧ fy ≤ e ∧ d = .int .i64 e ∧ v = .int .i64 S ∧ Hid (Cv.sum (c.row a.ds b.ds Y X O) e = S) ∧ Hid (Has wr g 3 (i64s xs)) ∧ Hid (Has wr w.heap.size 26 [.slice (some pa'') 3 a.cap, .bool a.u, .slice a.D na a.dcap]) ∧ Hid (Has wr (w.heap.size + 1) 26 [.slice (some pk) 4 b.cap, .bool b.u, .slice b.D nb b.dcap]) ∧ Hid (Below w0.heap.size w0 wr))
   case atStart => exact ⟨fy, 0, by omega, Nat.le_refl _, rfl, rfl, hide (Cv.sum_low _ _ (fun d hd => by unfold Cv.row; rw [if_neg]; intro h; have := (HYI.out d (by have := HTY.out; omega)).2 h; omega)), HG, HX, HY, HB⟩
   case round =>
    clear HG HX HY HB
    obtain ⟨e, S, he, hfe, rfl, rfl, HD, HG, HX, HY, HB⟩ := hrel
    by_cases hek : e = ty
    ·subst hek
     have HD' : Hid (c.el a.ds b.ds Y X O = S) := hide (by
      rw [← HD.out]
      exact Cv.sum_high _ _ _ HTY.out (fun d h1 h2 => by unfold Cv.row; rw [if_neg]; intro h; have := (HYI.out d h2).2 h; omega))
     rw [HD'.out] at HV
     have g1 : wr.cell? ⟨g, i, none⟩ = some (.int .i64 (xs[i]'(by rw [HN.out]; exact hlt))) := by
      rw [HG.out.cell]
      unfold i64s
      rw [List.getElem?_map, List.getElem?_eq_getElem (by rw [HN.out]; exact hlt)]
      rfl
     have gf := HG.out.frozen i
     have HC := hide (HWD.out S wr)
     obtain ⟨v, hv⟩ : ∃ v, Hid (Tens.wide S = v) := ⟨_, hide rfl⟩
     rw [hv.out] at HC HV
     go_wp2_with fail
     refine HC.out.mono ?_
     rintro e w9 ⟨rfl, hw⟩
     have hw := hw.symm
     subst hw
     go_wp2_with fail
     go_roundg (n - (i + 1))
     case measure => omega
     case rel =>
      refine ⟨i + 1, xs.set i v, by omega, by go_num, hide (by rw [List.length_set]; exact HN.out), hide (fun j hj => ?_), ?_, ?_, ?_, ?_⟩
      ·rw [List.getElem?_set]
       split
       ·rename_i h
        subst h
        rw [if_pos (by rw [HN.out]; exact hlt), HV.out]
       ·exact HI.out j (by omega)
      ·have h := HG.out.set_ i (.int .i64 v)
       unfold i64s at h ⊢
       rw [List.map_set]
       exact hide h
      ·exact hide (HX.out.far (p := ⟨g, i, none⟩) (by simp; omega) (.int .i64 v))
      ·exact hide (HY.out.far (p := ⟨g, i, none⟩) (by simp; omega) (.int .i64 v))
      ·exact hide (HB.out.setCell (p := ⟨g, i, none⟩) hg0 (.int .i64 v))
    ·have hel : e < ty := by omega
     have hel' : (e : Int) < (ty : Int) := by omega
     have HYH : Hid (Cv.here c.H c.s c.p Y e) := hide ((HYI.out e (by have := HTY.out; omega)).1 ⟨hfe, hel⟩)
     go_wp2_with fail
     go_loopg [27, 28] (tx - fx) (fun q v k wr => ∃ (d : Nat) (S2 : Int), q + d = tx ∧ fx ≤ d ∧ v = .int .i64 S2 ∧ k = .int .i64 d ∧ Hid (S + Cv.sum (c.col a.ds b.ds Y X O e) d = S2) ∧ Hid (Has wr g 3 (i64s xs)) ∧ Hid (Has wr w.heap.size 26 [.slice (some pa'') 3 a.cap, .bool a.u, .slice a.D na a.dcap]) ∧ Hid (Has wr (w.heap.size + 1) 26 [.slice (some pk) 4 b.cap, .bool b.u, .slice b.D nb b.dcap]) ∧ Hid (Below w0.heap.size w0 wr))
     case atStart =>
      refine ⟨fx, S, by omega, Nat.le_refl _, rfl, rfl, hide ?_, HG, HX, HY, HB⟩
      rw [Cv.sum_low _ _ (fun d hd => by unfold Cv.col; rw [if_neg]; intro h; have := (HXI.out d (by have := HTX.out; omega)).2 h; omega), Int.add_zero]
     case round =>
      clear HG HX HY HB
      obtain ⟨d, S2, hd, hfd, rfl, rfl, HD2, HG, HX, HY, HB⟩ := hrel
      by_cases hdk : d = tx
      ·subst hdk
       have HD' : Hid (Cv.sum (c.row a.ds b.ds Y X O) (e + 1) = S2) := hide (by
        show Cv.sum (c.row a.ds b.ds Y X O) e + c.row a.ds b.ds Y X O e = S2
        rw [HD.out, ← HD2.out]
        unfold Cv.row
        rw [if_pos HYH.out, Cv.sum_high _ _ _ HTX.out (fun q h1 h2 => by unfold Cv.col; rw [if_neg]; intro h; have := (HXI.out q h2).2 h; omega)])
       go_wp2_with fail
       go_roundg (ty - (e + 1))
       case measure => omega
       case rel => exact ⟨e + 1, S2, by omega, by omega, Cv.succ e (by have := HTY.out; have := HOK.out.kh2; have := HOK.out.h2; have := HOK.out.p2; omega), rfl, HD', HG, HX, HY, HB⟩
      ·have hdl : d < tx := by omega
       have hdl' : (d : Int) < (tx : Int) := by omega
       have HXH : Hid (Cv.here c.W c.s c.p X d) := hide ((HXI.out d (by have := HTX.out; omega)).1 ⟨hfd, hdl⟩)
       obtain ⟨ys, hys⟩ : ∃ x, Hid (Y * S' = x) := ⟨_, hide rfl⟩
       obtain ⟨xz, hxz⟩ : ∃ x, Hid (X * S' = x) := ⟨_, hide rfl⟩
       obtain ⟨yp, hyp⟩ : ∃ x, Hid ((ys : Int) - (P' : Int) = x) := ⟨_, hide rfl⟩
       obtain ⟨Yy, hYy⟩ : ∃ x, Hid (ys + e - P' = x) := ⟨_, hide rfl⟩
       obtain ⟨Xx, hXx⟩ : ∃ x, Hid (xz + d - P' = x) := ⟨_, hide rfl⟩
       obtain ⟨yw, hyw⟩ : ∃ x, Hid (Yy * W' = x) := ⟨_, hide rfl⟩
       obtain ⟨e1, he1⟩ : ∃ x, Hid (yw + xz = x) := ⟨_, hide rfl⟩
       obtain ⟨e2, he2⟩ : ∃ x, Hid ((e1 : Int) - (P' : Int) = x) := ⟨_, hide rfl⟩
       obtain ⟨e3, he3⟩ : ∃ x, Hid (yw + Xx = x) := ⟨_, hide rfl⟩
       obtain ⟨A', hA'⟩ : ∃ x, Hid (e3 * C' = x) := ⟨_, hide rfl⟩
       have HIA : Hid (c.ia Y X e d = A') := hide (by
        unfold Cv.ia
        rw [hS'.out, hP'.out, hW'.out, hC'.out, hys.out, hxz.out, hYy.out, hXx.out, hyw.out, he3.out, hA'.out])
       have HAl : Hid (A' + C' ≤ na) := hide (by
        have h := c.ia_lt Y X e d HYH.out HXH.out
        rw [HIA.out, ← hna'.out, hC'.out] at h
        exact h)
       have HC1 : Hid (1 ≤ C') := hide (by rw [← hC'.out]; exact HOK.out.c1)
       have Hp : Hid (P' ≤ 15 ∧ P' ≤ ys + e ∧ P' ≤ xz + d ∧ ys ≤ 1000030 ∧ xz ≤ 1000030 ∧ e ≤ 1000030 ∧ d ≤ 1000030) := hide (by
        have h1 := HYH.out.1
        have h2 := HXH.out.1
        have h3 := HYB.out
        have h4 := HXB.out
        have h5 := HOK.out.p2
        have h6 := HOK.out.h2
        have h7 := HOK.out.w2
        have h8 := HTY.out
        have h9 := HTX.out
        rw [hS'.out, hys.out] at h1 h3
        rw [hS'.out, hxz.out] at h2 h4
        rw [hP'.out] at h1 h2 h3 h4 h5
        omega)
       have Hle : Hid (e3 ≤ A') := hide (by rw [← hA'.out]; exact Nat.le_mul_of_pos_right _ HC1.out)
       have Hyl : Hid (Yy ≤ 2000060) := hide (by have := Hp.out; have := hYy.out; omega)
       have Hw1 : Hid (wrap64 ((Y : Int) * (S' : Int)) = (ys : Int)) := hide (by rw [← Int.natCast_mul, hys.out]; have := Hp.out; unfold wrap64; omega)
       have Hw2 : Hid (wrap64 ((ys : Int) - (P' : Int)) = yp) := hide (by rw [hyp.out]; have := Hp.out; have := hyp.out; unfold wrap64; omega)
       have Hw3 : Hid (wrap64 (yp + (e : Int)) = (Yy : Int)) := hide (by have := Hp.out; have := hyp.out; have := hYy.out; unfold wrap64; omega)
       have Hw4 : Hid (wrap64 ((Yy : Int) * (W' : Int)) = (yw : Int)) := hide (by rw [← Int.natCast_mul, hyw.out]; have := Hle.out; have := HAl.out; have := he3.out; unfold wrap64; omega)
       have Hw5 : Hid (wrap64 ((X : Int) * (S' : Int)) = (xz : Int)) := hide (by rw [← Int.natCast_mul, hxz.out]; have := Hp.out; unfold wrap64; omega)
       have Hw6 : Hid (wrap64 ((yw : Int) + (xz : Int)) = (e1 : Int)) := hide (by have := Hp.out; have := Hle.out; have := HAl.out; have := he3.out; have := he1.out; unfold wrap64; omega)
       have Hw7 : Hid (wrap64 ((e1 : Int) - (P' : Int)) = e2) := hide (by rw [he2.out]; have := Hp.out; have := Hle.out; have := HAl.out; have := he3.out; have := he1.out; have := he2.out; unfold wrap64; omega)
       have Hw8 : Hid (wrap64 (e2 + (d : Int)) = (e3 : Int)) := hide (by have := Hp.out; have := Hle.out; have := HAl.out; have := he3.out; have := he1.out; have := he2.out; have := hXx.out; unfold wrap64; omega)
       have Hw9 : Hid (wrap64 ((e3 : Int) * (C' : Int)) = (A' : Int)) := hide (by rw [← Int.natCast_mul, hA'.out]; have := HAl.out; unfold wrap64; omega)
       obtain ⟨g1, hg1⟩ : ∃ x, Hid (e * V' = x) := ⟨_, hide rfl⟩
       obtain ⟨g2, hg2⟩ : ∃ x, Hid (g1 + d = x) := ⟨_, hide rfl⟩
       obtain ⟨g3, hg3⟩ : ∃ x, Hid (g2 * C' = x) := ⟨_, hide rfl⟩
       obtain ⟨g4, hg4⟩ : ∃ x, Hid (g3 * N' = x) := ⟨_, hide rfl⟩
       obtain ⟨B', hB'⟩ : ∃ x, Hid (g4 + O = x) := ⟨_, hide rfl⟩
       have HIK : Hid (c.ik O e d = B') := hide (by
        unfold Cv.ik
        rw [hV'.out, hC'.out, hN'.out, hg1.out, hg2.out, hg3.out, hg4.out, hB'.out])
       have HBl : Hid (∀ j, j < C' → B' + j * N' < nb) := hide (fun j hj => by
        have h := c.ik_lt O e d j (by have := HTY.out; omega) (by have := HTX.out; omega) (by rw [hC'.out]; exact hj) HOl.out
        rw [HIK.out, ← hnb'.out, hN'.out] at h
        exact h)
       have Hb0 : Hid (B' < nb) := hide (by have := HBl.out 0 HC1.out; omega)
       have Hl4 : Hid (g3 ≤ g4) := hide (by rw [← hg4.out]; exact Nat.le_mul_of_pos_right _ HNn.out)
       have Hl3 : Hid (g2 ≤ g3) := hide (by rw [← hg3.out]; exact Nat.le_mul_of_pos_right _ HC1.out)
       have Hv1 : Hid (wrap64 ((e : Int) * (V' : Int)) = (g1 : Int)) := hide (by rw [← Int.natCast_mul, hg1.out]; have := Hb0.out; have := Hl4.out; have := Hl3.out; have := hg2.out; have := hB'.out; unfold wrap64; omega)
       have Hv2 : Hid (wrap64 ((g1 : Int) + (d : Int)) = (g2 : Int)) := hide (by have := Hb0.out; have := Hl4.out; have := Hl3.out; have := hg2.out; have := hB'.out; unfold wrap64; omega)
       have Hv3 : Hid (wrap64 ((g2 : Int) * (C' : Int)) = (g3 : Int)) := hide (by rw [← Int.natCast_mul, hg3.out]; have := Hb0.out; have := Hl4.out; have := hB'.out; unfold wrap64; omega)
       have Hv4 : Hid (wrap64 ((g3 : Int) * (N' : Int)) = (g4 : Int)) := hide (by rw [← Int.natCast_mul, hg4.out]; have := Hb0.out; have := hB'.out; unfold wrap64; omega)
       have Hv5 : Hid (wrap64 ((g4 : Int) + (O : Int)) = (B' : Int)) := hide (by have := Hb0.out; have := hB'.out; unfold wrap64; omega)
       obtain ⟨-, k1', -⟩ := HKS.out wr HB.out
       rw [hV'.out] at k1'
       have y0 : wr.cell? ⟨w.heap.size + 1, 0, none⟩ = some (.slice (some pk) 4 b.cap) := HY.out.cell 0
       simp only [Addr.add, Nat.reduceEqDiff, if_false] at k1'
       have hw1 := Hw1.out
       have hw2 := Hw2.out
       have hw3 := Hw3.out
       have hw4 := Hw4.out
       have hw5 := Hw5.out
       have hw6 := Hw6.out
       have hw7 := Hw7.out
       have hw8 := Hw8.out
       have hw9 := Hw9.out
       have hv1 := Hv1.out
       have hv2 := Hv2.out
       have hv3 := Hv3.out
       have hv4 := Hv4.out
       have hv5 := Hv5.out
       go_wp2_with fail
       rw [Hw9.out, Hv5.out]
       clear hw1 hw2 hw3 hw4 hw5 hw6 hw7 hw8 hw9 hv1 hv2 hv3 hv4 hv5 Hw1 Hw2 Hw3 Hw4 Hw5 Hw6 Hw7 Hw8 Hw9 Hv1 Hv2 Hv3 Hv4 Hv5 y0 k1' Hl4 Hl3 hg1 hg2 hg3 hg4 hB' Hle Hyl hys hxz hyp hYy hXx hyw he1 he2 he3 hA'
       go_loopg [27, 162] C' (fun q v k wr => ∃ (j : Nat) (S3 : Int), q + j = C' ∧ v = .int .i64 S3 ∧ k = .int .i64 j ∧ Hid (S2 + Cv.sum (c.prod a.ds b.ds A' B') j = S3) ∧ Hid (Has wr g 3 (i64s xs)) ∧ Hid (Has wr w.heap.size 26 [.slice (some pa'') 3 a.cap, .bool a.u, .slice a.D na a.dcap]) ∧ Hid (Has wr (w.heap.size + 1) 26 [.slice (some pk) 4 b.cap, .bool b.u, .slice b.D nb b.dcap]) ∧ Hid (Below w0.heap.size w0 wr))
       case atStart => exact ⟨0, S2, by omega, rfl, rfl, hide (Int.add_zero _), HG, HX, HY, HB⟩
       case round =>
        clear HG HX HY HB
        obtain ⟨j, S3, hj, rfl, rfl, HD3, HG, HX, HY, HB⟩ := hrel
        by_cases hjk : j = C'
        ·subst hjk
         have HD' : Hid (S + Cv.sum (c.col a.ds b.ds Y X O e) (d + 1) = S3) := hide (by
          show S + (Cv.sum (c.col a.ds b.ds Y X O e) d + c.col a.ds b.ds Y X O e d) = S3
          rw [← Int.add_assoc, HD2.out, ← HD3.out]
          unfold Cv.col
          rw [if_pos HXH.out, HIA.out, HIK.out, hC'.out])
         go_wp2_with fail
         go_roundg (tx - (d + 1))
         case measure => omega
         case rel => exact ⟨d + 1, S3, by omega, by omega, rfl, Cv.succ d (by have := Hp.out; omega), HD', HG, HX, HY, HB⟩
        ·have hjl : j < C' := by omega
         have hjl' : (j : Int) < (C' : Int) := by omega
         obtain ⟨q1, hq1⟩ : ∃ q, Hid (A' + j = q) := ⟨_, hide rfl⟩
         obtain ⟨q3, hq3⟩ : ∃ q, Hid (j * N' = q) := ⟨_, hide rfl⟩
         obtain ⟨q2, hq2⟩ : ∃ q, Hid (B' + q3 = q) := ⟨_, hide rfl⟩
         have hq1n : q1 < na := by have := HAl.out; have := hq1.out; omega
         have hq2n : q2 < nb := by have h := HBl.out j hjl; rw [hq3.out, hq2.out] at h; exact h
         have Hr1 : Hid (IntKind.i64.wrap ((A' : Int) + (j : Int)) = (q1 : Int)) := hide (by have := hq1.out; rw [IntKind.wrap_i64]; omega)
         have Hr3 : Hid (IntKind.i64.wrap ((j : Int) * (N' : Int)) = (q3 : Int)) := hide (by
          rw [← Int.natCast_mul, hq3.out]
          have := hq2.out
          rw [IntKind.wrap_i64]
          omega)
         have Hr2 : Hid (IntKind.i64.wrap ((B' : Int) + (q3 : Int)) = (q2 : Int)) := hide (by have := hq2.out; rw [IntKind.wrap_i64]; omega)
         obtain ⟨ad, x, hAD, ex, cx⟩ := ri_at (HA.out.below HB.out) q1 (by rw [hna.out]; exact hq1n)
         obtain ⟨bd, y, hBD, ey, cy⟩ := ri_at (HA2.out.below HB.out) q2 (by rw [hnb.out]; exact hq2n)
         have hxb := HSA.out x (List.mem_of_getElem? ex.out)
         have hzb := HOK.out.z2
         rw [hZ'.out] at hzb
         obtain ⟨x', hx'⟩ : ∃ q, Hid (x - Z' = q) := ⟨_, hide rfl⟩
         have Hwx : Hid (IntKind.i64.wrap (x - Z') = x') := hide (by rw [IntKind.wrap_i64, ← hx'.out]; omega)
         obtain ⟨pr, hpr⟩ : ∃ q, Hid (x' * y = q) := ⟨_, hide rfl⟩
         have Hpe : Hid (c.prod a.ds b.ds A' B' j = pr) := hide (by
          unfold Cv.prod
          rw [hN'.out, hq3.out, hq1.out, hq2.out, List.getD_eq_getElem?_getD, List.getD_eq_getElem?_getD, ex.out, ey.out, Option.getD_some, Option.getD_some, hZ'.out, hx'.out, hpr.out])
         have hprb := HPR.out A' B' j
         rw [Hpe.out] at hprb
         have Hwpr : Hid (IntKind.i64.wrap (x' * y) = pr) := hide (by rw [hpr.out, IntKind.wrap_i64]; omega)
         obtain ⟨S4, hS4⟩ : ∃ q, Hid (S3 + pr = q) := ⟨_, hide rfl⟩
         have HD4 : Hid (S2 + Cv.sum (c.prod a.ds b.ds A' B') (j + 1) = S4) := hide (by
          show S2 + (Cv.sum (c.prod a.ds b.ds A' B') j + c.prod a.ds b.ds A' B' j) = S4
          rw [← Int.add_assoc, HD3.out, Hpe.out, hS4.out])
         have hway := HWAY.out Y X O e d (j + 1) A' B' (by have := HTY.out; omega) (by have := HTX.out; omega) (by rw [hC'.out]; omega)
         rw [HD.out, HD2.out, HD4.out] at hway
         have Hws : Hid (IntKind.i64.wrap (S3 + pr) = S4) := hide (by rw [IntKind.wrap_i64, ← hS4.out]; have := hS4.out; omega)
         have hq10 : (0 : Int) ≤ (q1 : Int) := by omega
         have hq11 : (q1 : Int) < na := by omega
         have hq20 : (0 : Int) ≤ (q2 : Int) := by omega
         have hq21 : (q2 : Int) < nb := by omega
         have hj1 : ((j : Nat) : Int) + 1 ≤ 1000001 := by have := HAl.out; omega
         have HAD := hide hAD
         have HBD := hide hBD
         rw [hAD] at HX
         rw [hBD] at HY
         have a2 : wr.cell? ⟨w.heap.size, 2, none⟩ = some (.slice (some ad) na a.dcap) := HX.out.cell 2
         have b2 : wr.cell? ⟨w.heap.size + 1, 2, none⟩ = some (.slice (some bd) nb b.dcap) := HY.out.cell 2
         clear hAD hBD hq1n hq2n hxb hzb hprb hway ex ey
         go_wp2_with fail
         have hr1 := Hr1.out
         have hr2 := Hr2.out
         have hr3 := Hr3.out
         have hwx := Hwx.out
         have hwpr := Hwpr.out
         have hws := Hws.out
         go_quiet (fail)
         clear hr1 hr2 hr3 hwx hwpr hws a2 b2 cx cy
         go_wp2_with fail
         go_roundg (C' - (j + 1))
         case measure => omega
         case rel =>
          refine ⟨j + 1, S4, by omega, rfl, by go_num, HD4, hide (HG.out.drewN nq), ?_, ?_, hide (below_drewN HB.out nq)⟩
          ·have h := hide (HX.out.drewN nq)
           rw [← HAD.out] at h
           exact h
          ·have h := hide (HY.out.drewN nq)
           rw [← HBD.out] at h
           exact h
  ·obtain rfl : i = n := by omega
   have hx : xs = r := List.ext_getElem? (fun j => by
    rcases Nat.lt_or_ge j i with h | h
    ·exact HI.out j h
    ·rw [List.getElem?_eq_none (by rw [HN.out]; exact h), List.getElem?_eq_none (by rw [hrl.out]; exact h)])
   subst hx
   go_wp2_with fail
   refine bodyPost_end (results_none rfl _ _ _) rfl ?_
   exact ⟨rfl, HG.out, HB.out⟩
end Go.Proofs.YtgdcfjmpjhlndaaGreatDoor
