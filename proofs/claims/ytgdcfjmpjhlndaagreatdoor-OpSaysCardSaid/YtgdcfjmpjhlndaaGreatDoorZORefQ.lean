/-
  lodgeref3.conv, walked: an element of a convolution. By an AI agent. No person has read it.
-/
import Derived.Test.YtgdcfjmpjhlndaaGreatDoorZORefL
import Derived.Test.YtgdcfjmpjhlndaaGreatDoorZOOpK
import Derived.Test.YtgdcfjmpjhlndaaGreatDoorZORefI
namespace Go.Proofs.YtgdcfjmpjhlndaaGreatDoor
open Go.RowKit
def Cv.colx (c : Cv) (xs ks : List Int) (y x o dy dx : Nat) : Int := if Cv.here c.H c.s c.p y dy then c.col xs ks y x o dy dx else 0
theorem Cv.row_x (c : Cv) (xs ks : List Int) (y x o dy : Nat) : Cv.sum (c.colx xs ks y x o dy) c.KW = c.row xs ks y x o dy := by
 unfold Cv.row
 by_cases h : Cv.here c.H c.s c.p y dy
 ·rw [if_pos h]
  exact Cv.sum_same _ _ _ (fun i _ => by unfold Cv.colx; rw [if_pos h])
 ·rw [if_neg h]
  exact Cv.sum_low _ _ (fun i _ => by unfold Cv.colx; rw [if_neg h])
def RcS (p0 p1 p2 p3 p4 p5 p6 p7 p8 p9 p10 p11 p12 p13 p14 p15 : Addr) (v0 v1 v2 v3 v4 v5 v6 v7 v8 v9 v10 v11 v12 v13 v14 v15 : Value) (W : World) : Prop := W.cell? p0 = some v0 ∧ W.cell? p1 = some v1 ∧ W.cell? p2 = some v2 ∧ W.cell? p3 = some v3 ∧ W.cell? p4 = some v4 ∧ W.cell? p5 = some v5 ∧ W.cell? p6 = some v6 ∧ W.cell? p7 = some v7 ∧ W.cell? p8 = some v8 ∧ W.cell? p9 = some v9 ∧ W.cell? p10 = some v10 ∧ W.cell? p11 = some v11 ∧ W.cell? p12 = some v12 ∧ W.cell? p13 = some v13 ∧ W.cell? p14 = some v14 ∧ W.cell? p15 = some v15
theorem RcS.keep {p0 p1 p2 p3 p4 p5 p6 p7 p8 p9 p10 p11 p12 p13 p14 p15 : Addr} {v0 v1 v2 v3 v4 v5 v6 v7 v8 v9 v10 v11 v12 v13 v14 v15 : Value} {W W' : World} (h : RcS p0 p1 p2 p3 p4 p5 p6 p7 p8 p9 p10 p11 p12 p13 p14 p15 v0 v1 v2 v3 v4 v5 v6 v7 v8 v9 v10 v11 v12 v13 v14 v15 W) (hB : Below W.heap.size W W') : RcS p0 p1 p2 p3 p4 p5 p6 p7 p8 p9 p10 p11 p12 p13 p14 p15 v0 v1 v2 v3 v4 v5 v6 v7 v8 v9 v10 v11 v12 v13 v14 v15 W' := by
 obtain ⟨h0, h1, h2, h3, h4, h5, h6, h7, h8, h9, h10, h11, h12, h13, h14, h15⟩ := h
 exact ⟨ten_kept h0 hB, ten_kept h1 hB, ten_kept h2 hB, ten_kept h3 hB, ten_kept h4 hB, ten_kept h5 hB, ten_kept h6 hB, ten_kept h7 hB, ten_kept h8 hB, ten_kept h9 hB, ten_kept h10 hB, ten_kept h11 hB, ten_kept h12 hB, ten_kept h13 hB, ten_kept h14 hB, ten_kept h15 hB⟩
set_option maxRecDepth 100000 in
set_option maxHeartbeats 2000000 in
theorem rcv_c (qs : List Int) (a b : Ten) (c : Cv) (hf : Cv.Fine qs a b c) (d : Dsc) (A : Option Addr) (qcap i : Nat) (w : World) (hi : i < c.oh * c.ow * c.N) (hQ : Ri w A qs) (ha : a.In w) (hb : b.In w) (hd : d.In w) (hdz : d.zs = [(c.oh : Int), (c.ow : Int), (c.N : Int)]) :
  Calls Tryz.prog 74 #[.slice A 3 qcap, .int .i64 i, .agg (tcells a.P a.zs.length a.cap a.u a.D a.ds.length a.dcap), .agg (tcells b.P b.zs.length b.cap b.u b.D b.ds.length b.dcap), .agg (dcells d.P d.zs.length d.cap d.u)] w fun e w' => e = .returned (.int .i64 (Tens.wide (c.el a.ds b.ds (i / c.N / c.ow) (i / c.N % c.ow) (i % c.N)))) ∧ Below w.heap.size w w' := by
 have hok := hf.ok
 have hra := ha.shp
 have hrb := hb.shp
 have hrd := hd.shp
 rw [hf.az] at hra
 rw [hf.bz] at hrb
 rw [hdz] at hrd
 rw [hf.qz] at hQ
 obtain ⟨pa, epa, -, a0, a1, a2⟩ := ri_three hra
 obtain ⟨pk, epk, -, b0, b1, b2, b3⟩ := ri_four hrb
 obtain ⟨pd, epd, -, d0, d1, d2⟩ := ri_three hrd
 obtain ⟨pq, epq, -, q0, q1, q2⟩ := ri_three hQ
 subst epq
 have hla : a.zs.length = 3 := by rw [hf.az]; rfl
 have hlb : b.zs.length = 4 := by rw [hf.bz]; rfl
 have hld : d.zs.length = 3 := by rw [hdz]; rfl
 have hN1 := hok.n1
 have hq0 : i / c.N < c.oh * c.ow := Nat.div_lt_of_lt_mul (by rw [Nat.mul_comm]; exact hi)
 have how1 : 1 ≤ c.ow := Nat.succ_pos _
 have hY : i / c.N / c.ow < c.oh := Nat.div_lt_of_lt_mul (by rw [Nat.mul_comm]; exact hq0)
 have hX : i / c.N % c.ow < c.ow := Nat.mod_lt _ how1
 have hO : i % c.N < c.N := Nat.mod_lt _ hN1
 obtain ⟨q, hq⟩ : ∃ q_, Hid (i / c.N = q_) := ⟨_, hide rfl⟩
 obtain ⟨O, hO'⟩ : ∃ q_, Hid (i % c.N = q_) := ⟨_, hide rfl⟩
 rw [hq.out] at hY hX hq0 ⊢
 rw [hO'.out] at hO ⊢
 obtain ⟨Y, hY'⟩ : ∃ q_, Hid (q / c.ow = q_) := ⟨_, hide rfl⟩
 obtain ⟨X, hX'⟩ : ∃ q_, Hid (q % c.ow = q_) := ⟨_, hide rfl⟩
 rw [hY'.out] at hY ⊢
 rw [hX'.out] at hX ⊢
 have hib : i < 16384 := Nat.lt_of_lt_of_le hi hf.mn
 have hqi : q ≤ i := by rw [← hq.out]; exact Nat.div_le_self _ _
 have HYB : Hid (Y * c.s + c.KH ≤ c.H + 2 * c.p) := hide (Cv.here_le c.H c.KH c.s c.p Y hY hok.kh2)
 have HXB : Hid (X * c.s + c.KW ≤ c.W + 2 * c.p) := hide (Cv.here_le c.W c.KW c.s c.p X hX hok.kw2)
 have hc11 : c.C * c.KW * c.KH ≤ 1000000 := by
  have h1 := hok.k2
  have h2 : c.KH * c.KW * c.C ≤ c.KH * c.KW * c.C * c.N := Nat.le_mul_of_pos_right _ hok.n1
  have h3 : c.C * c.KW * c.KH = c.KH * c.KW * c.C := by rw [Nat.mul_comm, Nat.mul_comm c.C, Nat.mul_assoc]
  omega
 have HWAY := hide (fun y x o dy dx ch A B h1 h2 h3 => c.way_le hf.sa hf.sb hok.z2 hc11 hok.kh1 hok.kw1 y x o dy dx ch A B h1 h2 h3)
 have HPR := hide (fun A B ch => c.prod_le hf.sa hf.sb hok.z2 A B ch)
 have HOK := hide hok
 have HSA := hide hf.sa
 have HDA := hide (fun W (h : Below w.heap.size w W) => ha.dat.below h)
 have HDB := hide (fun W (h : Below w.heap.size w W) => hb.dat.below h)
 have HWD := hide (fun n W => rwide_c n W)
 obtain ⟨na, hna⟩ : ∃ q_, Hid (a.ds.length = q_) := ⟨_, hide rfl⟩
 obtain ⟨nb, hnb⟩ : ∃ q_, Hid (b.ds.length = q_) := ⟨_, hide rfl⟩
 have Hna : Hid (na = c.H * c.W * c.C) := hide (by rw [← hna.out]; exact hf.al)
 have Hnb : Hid (nb = c.KH * c.KW * c.C * c.N) := hide (by rw [← hnb.out]; exact hf.bl)
 obtain ⟨W0, hW0⟩ : ∃ W, W = ((w.alloc (.cells #[.slice a.P a.zs.length a.cap, .bool a.u, .slice a.D a.ds.length a.dcap] 26)).alloc (.cells #[.slice b.P b.zs.length b.cap, .bool b.u, .slice b.D b.ds.length b.dcap] 26)).alloc (.cells #[.slice d.P d.zs.length d.cap, .bool d.u] 24) := ⟨_, rfl⟩
 have hA : Has W0 w.heap.size 26 [.slice a.P a.zs.length a.cap, .bool a.u, .slice a.D a.ds.length a.dcap] := by rw [hW0]; exact ((Has.new w 26 _).alloc _).alloc _
 have hBx : Has W0 (w.heap.size + 1) 26 [.slice b.P b.zs.length b.cap, .bool b.u, .slice b.D b.ds.length b.dcap] := by rw [hW0]; exact (box_at _ _ _ _ (by simp)).alloc _
 have hDx : Has W0 (w.heap.size + 2) 24 [.slice d.P d.zs.length d.cap, .bool d.u] := by rw [hW0]; exact box_at _ _ _ _ (by simp)
 have hbw : Below w.heap.size w W0 := by rw [hW0]; exact (((Below.refl _ _).alloc (Nat.le_refl _) _).alloc (by simp) _).alloc (by simp; omega) _
 rw [epa, hla, hna.out] at hA hW0
 rw [epk, hlb, hnb.out] at hBx hW0
 rw [epd, hld] at hDx hW0
 have HS : Hid (RcS ⟨w.heap.size, 0, none⟩ ⟨w.heap.size, 2, none⟩ ⟨w.heap.size + 1, 0, none⟩ ⟨w.heap.size + 1, 2, none⟩ ⟨w.heap.size + 2, 0, none⟩ pa ⟨pa.block, pa.off + 1, none⟩ ⟨pa.block, pa.off + 2, none⟩ pk ⟨pk.block, pk.off + 1, none⟩ ⟨pk.block, pk.off + 2, none⟩ ⟨pd.block, pd.off + 1, none⟩ ⟨pd.block, pd.off + 2, none⟩ pq ⟨pq.block, pq.off + 1, none⟩ ⟨pq.block, pq.off + 2, none⟩ (.slice (some pa) 3 a.cap) (.slice a.D na a.dcap) (.slice (some pk) 4 b.cap) (.slice b.D nb b.dcap) (.slice (some pd) 3 d.cap) (.int .i64 c.H) (.int .i64 c.W) (.int .i64 c.C) (.int .i64 c.KH) (.int .i64 c.KW) (.int .i64 c.C) (.int .i64 c.ow) (.int .i64 c.N) (.int .i64 c.s) (.int .i64 c.p) (.int .i64 c.za) W0) := hide ⟨hA.cell 0, hA.cell 2, hBx.cell 0, hBx.cell 2, hDx.cell 0, ten_kept a0 hbw, ten_kept a1 hbw, ten_kept a2 hbw, ten_kept b0 hbw, ten_kept b1 hbw, ten_kept b2 hbw, ten_kept d1 hbw, ten_kept d2 hbw, ten_kept q0 hbw, ten_kept q1 hbw, ten_kept q2 hbw⟩
 have HB0 := hide hbw
 have HYB' := HYB
 have HW := hide hW0
 have HOl := hide hO
 have HQ1 : Hid ((i : Int) / (c.N : Int) = (q : Int)) := hide (by rw [← hq.out]; exact (Int.natCast_ediv i c.N).symm)
 have HQ2 : Hid ((i : Int).tdiv (c.N : Int) = (q : Int)) := hide (by rw [Int.tdiv_eq_ediv_of_nonneg (by omega)]; exact HQ1.out)
 have HQ3 : Hid (IntKind.i64.wrap (q : Int) = (q : Int)) := hide (by rw [IntKind.wrap_i64]; omega)
 have HO1 : Hid ((i : Int) % (c.N : Int) = (O : Int)) := hide (by rw [← hO'.out]; exact (Int.natCast_emod i c.N).symm)
 have HX1 : Hid ((q : Int) % (c.ow : Int) = (X : Int)) := hide (by rw [← hX'.out]; exact (Int.natCast_emod q c.ow).symm)
 have HX2 : Hid ((q : Int).tmod (c.ow : Int) = (X : Int)) := hide (by rw [Int.tmod_eq_emod_of_nonneg (by omega)]; exact HX1.out)
 have HY1 : Hid ((q : Int) / (c.ow : Int) = (Y : Int)) := hide (by rw [← hY'.out]; exact (Int.natCast_ediv q c.ow).symm)
 have HY2 : Hid ((q : Int).tdiv (c.ow : Int) = (Y : Int)) := hide (by rw [Int.tdiv_eq_ediv_of_nonneg (by omega)]; exact HY1.out)
 have HYq : Y ≤ q := by rw [← hY'.out]; exact Nat.div_le_self _ _
 have HY3 : Hid (IntKind.i64.wrap (Y : Int) = (Y : Int)) := hide (by rw [IntKind.wrap_i64]; omega)
 have hNn : ¬ ((c.N : Int) = 0) := by omega
 have hNn2 : ¬ c.N = 0 := by omega
 have hwn : ¬ ((c.ow : Int) = 0) := by omega
 have hwn2 : ¬ c.ow = 0 := by omega
 have hi63 : (i : Int) ≤ 16384 := by omega
 have zd0 : (((w.alloc (.cells #[.slice (some pa) 3 a.cap, .bool a.u, .slice a.D na a.dcap] 26)).alloc (.cells #[.slice (some pk) 4 b.cap, .bool b.u, .slice b.D nb b.dcap] 26)).alloc (.cells #[.slice (some pd) 3 d.cap, .bool d.u] 24)).cell? ⟨pd.block, pd.off + 2, none⟩ = some (.int .i64 c.N) := by rw [← hW0]; exact ten_kept d2 hbw
 rw [hla, hlb, hld, epa, epk, epd, hna.out, hnb.out]
 clear hi hQ ha hb hd hdz hf hok hra hrb hrd a0 a1 a2 b0 b1 b2 b3 d0 d1 d2 q0 q1 q2 hW0 hA hBx hDx hbw hla hlb hld hc11 hq0 how1 hY hX hO epa epk epd hib hqi hN1
 go_enter Tryz.func74, Tryz.ntmps74
 go_wp2_with fail
 rw [← HW.out, HO1.out]
 clear HW zd0
 obtain ⟨-, -, -, -, kd0, -, -, -, -, -, -, jd1, -, -, -, -⟩ := HS.out
 have o1 := HQ1.out
 have o2 := HQ2.out
 have o3 := HQ3.out
 have o4 := HX1.out
 have o5 := HX2.out
 go_quiet (fail)
 clear o1 o2 o3 o4 o5 kd0 jd1
 have HBq := hide (below_drewN (Below.refl W0.heap.size W0) nq)
 generalize W0.drewN nq = W3 at *
 go_wp2_with fail
 obtain ⟨-, -, -, -, kd0, -, -, -, -, -, -, jd1, -, -, -, -⟩ := RcS.keep HS.out HBq.out
 have o1 := HQ1.out
 have o2 := HQ2.out
 have o3 := HQ3.out
 have o4 := HY1.out
 have o5 := HY2.out
 have o6 := HY3.out
 go_quiet (fail)
 clear o1 o2 o3 o4 o5 o6 kd0 jd1
 have HB := hide (below_drewN HBq.out nq)
 generalize W3.drewN nq = W4 at *
 go_wp2_with fail
 clear HBq
 go_loopg [15, 16, 17, 18, 19, 20, 21, 22] c.KH (fun gq v15 v16 _ _ _ _ _ _ wr => ∃ (e : Nat) (S : Int), gq + e = c.KH ∧ v16 = .int .i64 e ∧ v15 = .int .i64 S ∧ Hid (Cv.sum (c.row a.ds b.ds Y X O) e = S) ∧ Hid (Below W0.heap.size W0 wr))
 case atStart => exact ⟨0, 0, by omega, rfl, rfl, hide rfl, HB⟩
 case round =>
  clear HB
  obtain ⟨e, S, he, rfl, rfl, HD, HB⟩ := hrel
  obtain ⟨-, -, kb0, -, -, -, -, -, jk0, -, -, -, -, -, -, -⟩ := RcS.keep HS.out HB.out
  by_cases hek : e = c.KH
  case pos =>
   have HV : Hid (Tens.wide (c.el a.ds b.ds Y X O) = Tens.wide S) := hide (by rw [← HD.out, hek]; rfl)
   have hlt : ¬ (e : Int) < (c.KH : Int) := by omega
   have HBF := hide (HB0.out.trans (HB.out.mono HB0.out.size))
   have HC := hide (HWD.out S wr)
   go_wp2_with fail
   refine HC.out.mono ?_
   rintro e' w9 ⟨rfl, hw⟩
   have hw := hw.symm
   subst hw
   go_wp2_with fail
   go_ret
   exact ⟨by rw [HV.out]; rfl, HBF.out⟩
  case neg =>
  have hel : e < c.KH := by omega
  have hel' : (e : Int) < (c.KH : Int) := by omega
  go_wp2_with fail
  clear kb0 jk0
  go_loopg [15, 17, 18, 19, 20, 21, 22] c.KW (fun gq v15 v17 _ _ _ _ _ wr => ∃ (f : Nat) (S2 : Int), gq + f = c.KW ∧ v17 = .int .i64 f ∧ v15 = .int .i64 S2 ∧ Hid (S + Cv.sum (c.colx a.ds b.ds Y X O e) f = S2) ∧ Hid (Below W0.heap.size W0 wr))
  case atStart => exact ⟨0, S, by omega, rfl, rfl, hide (Int.add_zero _), HB⟩
  case round =>
   clear HB
   obtain ⟨f, S2, hf9, rfl, rfl, HD2, HB⟩ := hrel
   obtain ⟨-, -, kb0, -, -, -, -, -, -, jk1, -, -, -, -, -, -⟩ := RcS.keep HS.out HB.out
   by_cases hfk : f = c.KW
   case pos =>
    have HD' : Hid (Cv.sum (c.row a.ds b.ds Y X O) (e + 1) = S2) := hide (by
     show Cv.sum (c.row a.ds b.ds Y X O) e + c.row a.ds b.ds Y X O e = S2
     rw [HD.out, ← Cv.row_x, ← hfk]
     exact HD2.out)
    have hlt : ¬ (f : Int) < (c.KW : Int) := by omega
    have he1 : ((e : Nat) : Int) + 1 ≤ 1000101 := by have := HOK.out.kh2; have := HOK.out.h2; have := HOK.out.p2; omega
    go_wp2_with fail
    go_roundg (c.KH - (e + 1))
    case measure => omega
    case rel => exact ⟨e + 1, S2, by omega, by go_num, rfl, HD', HB⟩
   case neg =>
   have hfl : f < c.KW := by omega
   have hfl' : (f : Int) < (c.KW : Int) := by omega
   obtain ⟨ys, hys⟩ : ∃ x, Hid (Y * c.s = x) := ⟨_, hide rfl⟩
   obtain ⟨xz, hxz⟩ : ∃ x, Hid (X * c.s = x) := ⟨_, hide rfl⟩
   obtain ⟨yp, hyp⟩ : ∃ x : Int, Hid ((ys : Int) - (c.p : Int) = x) := ⟨_, hide rfl⟩
   obtain ⟨xp, hxp⟩ : ∃ x : Int, Hid ((xz : Int) - (c.p : Int) = x) := ⟨_, hide rfl⟩
   obtain ⟨r, hr⟩ : ∃ x : Int, Hid (yp + (e : Int) = x) := ⟨_, hide rfl⟩
   obtain ⟨cc, hcc⟩ : ∃ x : Int, Hid (xp + (f : Int) = x) := ⟨_, hide rfl⟩
   have Hp : Hid (c.p ≤ 15 ∧ ys ≤ 1000030 ∧ xz ≤ 1000030 ∧ e ≤ 1000030 ∧ f ≤ 1000030) := hide (by
    have h3 := HYB.out
    have h4 := HXB.out
    have h5 := HOK.out.p2
    have h6 := HOK.out.h2
    have h7 := HOK.out.w2
    rw [hys.out] at h3
    rw [hxz.out] at h4
    omega)
   have Hu1 : Hid (IntKind.i64.wrap ((Y : Int) * (c.s : Int)) = (ys : Int)) := hide (by rw [← Int.natCast_mul, hys.out, IntKind.wrap_i64]; have := Hp.out; omega)
   have Hu2 : Hid (IntKind.i64.wrap ((ys : Int) - (c.p : Int)) = yp) := hide (by rw [hyp.out, IntKind.wrap_i64]; have := Hp.out; have := hyp.out; omega)
   have Hu3 : Hid (IntKind.i64.wrap (yp + (e : Int)) = r) := hide (by rw [hr.out, IntKind.wrap_i64]; have := Hp.out; have := hyp.out; have := hr.out; omega)
   have Hu4 : Hid (IntKind.i64.wrap ((X : Int) * (c.s : Int)) = (xz : Int)) := hide (by rw [← Int.natCast_mul, hxz.out, IntKind.wrap_i64]; have := Hp.out; omega)
   have Hu5 : Hid (IntKind.i64.wrap ((xz : Int) - (c.p : Int)) = xp) := hide (by rw [hxp.out, IntKind.wrap_i64]; have := Hp.out; have := hxp.out; omega)
   have Hu6 : Hid (IntKind.i64.wrap (xp + (f : Int)) = cc) := hide (by rw [hcc.out, IntKind.wrap_i64]; have := Hp.out; have := hxp.out; have := hcc.out; omega)
   have jq0 := (RcS.keep HS.out HB.out).2.2.2.2.2.2.2.2.2.2.2.2.2.1
   have jq1 := (RcS.keep HS.out HB.out).2.2.2.2.2.2.2.2.2.2.2.2.2.2.1
   go_wp2_with fail
   have o1 := Hu1.out
   have o2 := Hu2.out
   have o3 := Hu3.out
   go_quiet (fail)
   clear o1 o2 o3 jq0 jq1 kb0 jk1
   replace HB := hide (below_drewN HB.out nq)
   generalize wr.drewN nq = W5 at *
   have jq0 := (RcS.keep HS.out HB.out).2.2.2.2.2.2.2.2.2.2.2.2.2.1
   have jq1 := (RcS.keep HS.out HB.out).2.2.2.2.2.2.2.2.2.2.2.2.2.2.1
   go_wp2_with fail
   have o1 := Hu4.out
   have o2 := Hu5.out
   have o3 := Hu6.out
   go_quiet (fail)
   clear o1 o2 o3 jq0 jq1 Hu1 Hu2 Hu3 Hu4 Hu5 Hu6
   replace HB := hide (below_drewN HB.out nq)
   generalize W5.drewN nq = W6 at *
   have hf1 : ((f : Nat) : Int) + 1 ≤ 1000101 := by have := Hp.out; omega
   by_cases g : 0 ≤ r ∧ 0 ≤ cc ∧ r < (c.H : Int) ∧ cc < (c.W : Int)
   case pos =>
    have hyy0 : (0 : Int) ≤ r := g.1
    obtain ⟨yy, hyy⟩ : ∃ n : Nat, Hid (r = n) := ⟨r.toNat, hide (by omega)⟩
    obtain ⟨xx, hxx⟩ : ∃ n : Nat, Hid (cc = n) := ⟨cc.toNat, hide (by omega)⟩
    have HYN : Hid (ys + e - c.p = yy ∧ c.p ≤ ys + e) := hide (by have h1 := hr.out; have h2 := hyp.out; have h3 := hyy.out; omega)
    have HXN : Hid (xz + f - c.p = xx ∧ c.p ≤ xz + f) := hide (by have h1 := hcc.out; have h2 := hxp.out; have h3 := hxx.out; omega)
    have HYH : Hid (Cv.here c.H c.s c.p Y e) := hide (by have h1 := HYN.out; have h3 := hyy.out; refine ⟨?_, ?_⟩ <;> rw [hys.out] <;> omega)
    have HXH : Hid (Cv.here c.W c.s c.p X f) := hide (by have h1 := HXN.out; have h3 := hxx.out; refine ⟨?_, ?_⟩ <;> rw [hxz.out] <;> omega)
    have hr' := hyy.out
    have hc' := hxx.out
    subst hr'
    subst hc'
    obtain ⟨yw, hyw⟩ : ∃ x, Hid (yy * c.W = x) := ⟨_, hide rfl⟩
    obtain ⟨e3, he3⟩ : ∃ x, Hid (yw + xx = x) := ⟨_, hide rfl⟩
    obtain ⟨A', hA'⟩ : ∃ x, Hid (e3 * c.C = x) := ⟨_, hide rfl⟩
    have HIA : Hid (c.ia Y X e f = A') := hide (by
     unfold Cv.ia
     rw [hys.out, hxz.out, HYN.out.1, HXN.out.1, hyw.out, he3.out, hA'.out])
    have HAl : Hid (A' + c.C ≤ na) := hide (by
     have h := c.ia_lt Y X e f HYH.out HXH.out
     rw [HIA.out, ← Hna.out] at h
     exact h)
    have Hnl : Hid (na ≤ 1000000 ∧ nb ≤ 1000000 ∧ 1 ≤ c.C ∧ 1 ≤ c.N) := hide (by rw [Hna.out, Hnb.out]; exact ⟨HOK.out.a2, HOK.out.k2, HOK.out.c1, HOK.out.n1⟩)
    have Hle : Hid (e3 ≤ A') := hide (by rw [← hA'.out]; exact Nat.le_mul_of_pos_right _ Hnl.out.2.2.1)
    obtain ⟨g1, hg1⟩ : ∃ x, Hid (e * c.KW = x) := ⟨_, hide rfl⟩
    obtain ⟨g2, hg2⟩ : ∃ x, Hid (g1 + f = x) := ⟨_, hide rfl⟩
    obtain ⟨g3, hg3⟩ : ∃ x, Hid (g2 * c.C = x) := ⟨_, hide rfl⟩
    obtain ⟨g4, hg4⟩ : ∃ x, Hid (g3 * c.N = x) := ⟨_, hide rfl⟩
    obtain ⟨B', hB'⟩ : ∃ x, Hid (g4 + O = x) := ⟨_, hide rfl⟩
    have HIK : Hid (c.ik O e f = B') := hide (by
     unfold Cv.ik
     rw [hg1.out, hg2.out, hg3.out, hg4.out, hB'.out])
    have HBl : Hid (∀ j, j < c.C → B' + j * c.N < nb) := hide (fun j hj => by
     have h := c.ik_lt O e f j hel hfl hj HOl.out
     rw [HIK.out, ← Hnb.out] at h
     exact h)
    have Hb0 : Hid (B' < nb) := hide (by have := HBl.out 0 Hnl.out.2.2.1; omega)
    have Hl4 : Hid (g3 ≤ g4) := hide (by rw [← hg4.out]; exact Nat.le_mul_of_pos_right _ Hnl.out.2.2.2)
    have Hl3 : Hid (g2 ≤ g3) := hide (by rw [← hg3.out]; exact Nat.le_mul_of_pos_right _ Hnl.out.2.2.1)
    have Hw1 : Hid (IntKind.i64.wrap ((yy : Int) * (c.W : Int)) = (yw : Int)) := hide (by rw [← Int.natCast_mul, hyw.out, IntKind.wrap_i64]; have := Hle.out; have := HAl.out; have := he3.out; have := Hnl.out; omega)
    have Hw2 : Hid (IntKind.i64.wrap ((yw : Int) + (xx : Int)) = (e3 : Int)) := hide (by rw [IntKind.wrap_i64]; have := Hle.out; have := HAl.out; have := he3.out; have := Hnl.out; omega)
    have Hw3 : Hid (IntKind.i64.wrap ((e3 : Int) * (c.C : Int)) = (A' : Int)) := hide (by rw [← Int.natCast_mul, hA'.out, IntKind.wrap_i64]; have := HAl.out; have := Hnl.out; omega)
    have Hv1 : Hid (IntKind.i64.wrap ((e : Int) * (c.KW : Int)) = (g1 : Int)) := hide (by rw [← Int.natCast_mul, hg1.out, IntKind.wrap_i64]; have := Hb0.out; have := Hl4.out; have := Hl3.out; have := hg2.out; have := hB'.out; have := Hnl.out; omega)
    have Hv2 : Hid (IntKind.i64.wrap ((g1 : Int) + (f : Int)) = (g2 : Int)) := hide (by rw [IntKind.wrap_i64]; have := Hb0.out; have := Hl4.out; have := Hl3.out; have := hg2.out; have := hB'.out; have := Hnl.out; omega)
    have Hv3 : Hid (IntKind.i64.wrap ((g2 : Int) * (c.C : Int)) = (g3 : Int)) := hide (by rw [← Int.natCast_mul, hg3.out, IntKind.wrap_i64]; have := Hb0.out; have := Hl4.out; have := hB'.out; have := Hnl.out; omega)
    obtain ⟨ka0, -, -, -, -, ja0, ja1, -, -, -, -, -, -, -, -, -⟩ := RcS.keep HS.out HB.out
    have k1 := g.1
    have k2 := g.2.1
    have k3 := g.2.2.1
    have k4 := g.2.2.2
    have k5 : ¬ (c.H : Int) ≤ (yy : Int) := by omega
    have k6 : ¬ (c.W : Int) ≤ (xx : Int) := by omega
    have k7 : ¬ (yy : Int) < 0 := by omega
    have k8 : ¬ (xx : Int) < 0 := by omega
    clear g hyy0
    go_wp2_with fail
    clear ka0 ja0 ja1 k1 k2 k3 k4 k5 k6 k7 k8
    go_loopg [15, 20, 21, 22] c.C (fun gq v15 v20 _ _ wr => ∃ (j : Nat) (S3 : Int), gq + j = c.C ∧ v20 = .int .i64 j ∧ v15 = .int .i64 S3 ∧ Hid (S2 + Cv.sum (c.prod a.ds b.ds A' B') j = S3) ∧ Hid (Below W0.heap.size W0 wr))
    case atStart => exact ⟨0, S2, by omega, rfl, rfl, hide (Int.add_zero _), HB⟩
    case round =>
     clear HB
     obtain ⟨j, S3, hj, rfl, rfl, HD3, HB⟩ := hrel
     obtain ⟨ka0, -, -, -, -, -, -, ja2, -, -, -, -, -, -, -, -⟩ := RcS.keep HS.out HB.out
     by_cases hjk : j = c.C
     ·have HD' : Hid (S + Cv.sum (c.colx a.ds b.ds Y X O e) (f + 1) = S3) := hide (by
       show S + (Cv.sum (c.colx a.ds b.ds Y X O e) f + c.colx a.ds b.ds Y X O e f) = S3
       rw [← Int.add_assoc, HD2.out, ← HD3.out, hjk]
       unfold Cv.colx Cv.col
       rw [if_pos HYH.out, if_pos HXH.out, HIA.out, HIK.out])
      have hlt : ¬ (j : Int) < (c.C : Int) := by omega
      go_wp2_with fail
      go_roundg (c.KW - (f + 1))
      case measure => omega
      case rel => exact ⟨f + 1, S3, by omega, by go_num, rfl, HD', HB⟩
     ·have hjl : j < c.C := by omega
      have hjl' : (j : Int) < (c.C : Int) := by omega
      obtain ⟨q1, hq1⟩ : ∃ q, Hid (A' + j = q) := ⟨_, hide rfl⟩
      obtain ⟨h1, hh1⟩ : ∃ q, Hid (g3 + j = q) := ⟨_, hide rfl⟩
      obtain ⟨h2, hh2⟩ : ∃ q, Hid (h1 * c.N = q) := ⟨_, hide rfl⟩
      obtain ⟨q2, hq2⟩ : ∃ q, Hid (h2 + O = q) := ⟨_, hide rfl⟩
      have Hq2e : Hid (B' + j * c.N = q2) := hide (by rw [← hB'.out, ← hq2.out, ← hh2.out, ← hh1.out, ← hg4.out, Nat.add_mul]; omega)
      have hq1n : q1 < na := by have := HAl.out; have := hq1.out; omega
      have hq2n : q2 < nb := by have h := HBl.out j hjl; rw [Hq2e.out] at h; exact h
      have Hh1 : Hid (h1 ≤ h2) := hide (by rw [← hh2.out]; exact Nat.le_mul_of_pos_right _ Hnl.out.2.2.2)
      have Hr1 : Hid (IntKind.i64.wrap ((A' : Int) + (j : Int)) = (q1 : Int)) := hide (by have := hq1.out; have := Hnl.out; rw [IntKind.wrap_i64]; omega)
      have Hr2 : Hid (IntKind.i64.wrap ((g3 : Int) + (j : Int)) = (h1 : Int)) := hide (by have := hh1.out; have := Hh1.out; have := hq2.out; have := Hnl.out; rw [IntKind.wrap_i64]; omega)
      have Hr3 : Hid (IntKind.i64.wrap ((h1 : Int) * (c.N : Int)) = (h2 : Int)) := hide (by rw [← Int.natCast_mul, hh2.out, IntKind.wrap_i64]; have := hq2.out; have := Hnl.out; omega)
      have Hr4 : Hid (IntKind.i64.wrap ((h2 : Int) + (O : Int)) = (q2 : Int)) := hide (by have := hq2.out; have := Hnl.out; rw [IntKind.wrap_i64]; omega)
      obtain ⟨ad, x, hAD, ex, cx⟩ := ri_at (HDA.out wr (HB0.out.trans (HB.out.mono HB0.out.size))) q1 (by rw [hna.out]; exact hq1n)
      have hxb := HSA.out x (List.mem_of_getElem? ex.out)
      have hzb := HOK.out.z2
      obtain ⟨x', hx'⟩ : ∃ q, Hid (x - c.za = q) := ⟨_, hide rfl⟩
      have Hwx : Hid (IntKind.i64.wrap (x - c.za) = x') := hide (by rw [IntKind.wrap_i64, ← hx'.out]; omega)
      have ka2 := (RcS.keep HS.out HB.out).2.1
      have ja1 := (RcS.keep HS.out HB.out).2.2.2.2.2.2.1
      have jq2 := (RcS.keep HS.out HB.out).2.2.2.2.2.2.2.2.2.2.2.2.2.2.2
      rw [hAD] at ka2
      have hq10 : (0 : Int) ≤ (q1 : Int) := by omega
      have hq11 : (q1 : Int) < na := by omega
      have HEX := hide ex.out
      clear hAD hxb hzb ex
      go_wp2_with fail
      have o1 := Hw1.out
      have o2 := Hw2.out
      have o3 := Hw3.out
      have o4 := Hr1.out
      have o5 := Hwx.out
      go_quiet (fail)
      clear o1 o2 o3 o4 o5 ka0 ka2 ja1 ja2 jq2 cx hq10 hq11
      replace HB := hide (below_drewN HB.out nq)
      generalize wr.drewN nq = W7 at *
      obtain ⟨bd, y, hBD, ey, cy⟩ := ri_at (HDB.out W7 (HB0.out.trans (HB.out.mono HB0.out.size))) q2 (by rw [hnb.out]; exact hq2n)
      obtain ⟨pr, hpr⟩ : ∃ q, Hid (x' * y = q) := ⟨_, hide rfl⟩
      have Hpe : Hid (c.prod a.ds b.ds A' B' j = pr) := hide (by
       unfold Cv.prod
       rw [Hq2e.out, hq1.out, List.getD_eq_getElem?_getD, List.getD_eq_getElem?_getD, HEX.out, ey.out, Option.getD_some, Option.getD_some, hx'.out, hpr.out])
      have hprb := HPR.out A' B' j
      rw [Hpe.out] at hprb
      have Hwpr : Hid (wrap64 (x' * y) = pr) := hide (by rw [hpr.out]; unfold wrap64; omega)
      obtain ⟨S4, hS4⟩ : ∃ q, Hid (S3 + pr = q) := ⟨_, hide rfl⟩
      have HD4 : Hid (S2 + Cv.sum (c.prod a.ds b.ds A' B') (j + 1) = S4) := hide (by
       show S2 + (Cv.sum (c.prod a.ds b.ds A' B') j + c.prod a.ds b.ds A' B' j) = S4
       rw [← Int.add_assoc, HD3.out, Hpe.out, hS4.out])
      have hcx : Cv.sum (c.colx a.ds b.ds Y X O e) f = Cv.sum (c.col a.ds b.ds Y X O e) f := Cv.sum_same _ _ _ (fun i _ => by unfold Cv.colx; rw [if_pos HYH.out])
      have hd2 := HD2.out
      rw [hcx] at hd2
      have hway := HWAY.out Y X O e f (j + 1) A' B' (by omega) (by omega) (by omega)
      rw [HD.out, hd2, HD4.out] at hway
      have Hws : Hid (wrap64 (S3 + pr) = S4) := hide (by rw [hS4.out]; unfold wrap64; omega)
      have kb2 := (RcS.keep HS.out HB.out).2.2.2.1
      have kb0 := (RcS.keep HS.out HB.out).2.2.1
      have jk1 := (RcS.keep HS.out HB.out).2.2.2.2.2.2.2.2.2.1
      have jk2 := (RcS.keep HS.out HB.out).2.2.2.2.2.2.2.2.2.2.1
      rw [hBD] at kb2
      have hq20 : (0 : Int) ≤ (q2 : Int) := by omega
      have hq21 : (q2 : Int) < nb := by omega
      have hj1 : ((j : Nat) : Int) + 1 ≤ 1000001 := by have := HAl.out; have := Hnl.out; omega
      clear hBD hprb hway hd2 hcx ey hq1n hq2n
      go_wp2_with fail
      have o1 := Hv1.out
      have o2 := Hv2.out
      have o3 := Hv3.out
      have o4 := Hr2.out
      have o5 := Hr3.out
      have o6 := Hr4.out
      go_quiet (fail)
      clear o1 o2 o3 o4 o5 o6 kb0 kb2 jk1 jk2 cy hq20 hq21
      replace HB := hide (below_drewN HB.out nq)
      generalize W7.drewN nq = W8 at *
      have o1 := Hwpr.out
      have o2 := Hws.out
      go_wp2_with fail
      clear o1 o2
      go_roundg (c.C - (j + 1))
      case measure => omega
      case rel => exact ⟨j + 1, S4, by omega, by go_num, by rw [Hws.out], HD4, HB⟩
   case neg =>
   have HZ0 : Hid (c.colx a.ds b.ds Y X O e f = 0) := hide (by
    unfold Cv.colx
    by_cases hY : Cv.here c.H c.s c.p Y e
    ·rw [if_pos hY]
     unfold Cv.col
     rw [if_neg]
     intro hX
     have y1 := hY.1
     have y2 := hY.2
     have x1 := hX.1
     have x2 := hX.2
     rw [hys.out] at y1 y2
     rw [hxz.out] at x1 x2
     have h1 := hr.out
     have h2 := hyp.out
     have h3 := hcc.out
     have h4 := hxp.out
     exact g ⟨by omega, by omega, by omega, by omega⟩
    ·rw [if_neg hY])
   have HD' : Hid (S + Cv.sum (c.colx a.ds b.ds Y X O e) (f + 1) = S2) := hide (by
    show S + (Cv.sum (c.colx a.ds b.ds Y X O e) f + c.colx a.ds b.ds Y X O e f) = S2
    rw [← Int.add_assoc, HD2.out, HZ0.out, Int.add_zero])
   have HC : Hid (r < 0 ∨ (0 ≤ r ∧ cc < 0) ∨ (0 ≤ r ∧ 0 ≤ cc ∧ (c.H : Int) ≤ r) ∨ (0 ≤ r ∧ 0 ≤ cc ∧ r < (c.H : Int) ∧ (c.W : Int) ≤ cc)) := hide (by omega)
   obtain ⟨ka0, -, -, -, -, ja0, ja1, -, -, -, -, -, -, -, -, -⟩ := RcS.keep HS.out HB.out
   clear g
   rcases HC.out with g1 | ⟨g1, g2⟩ | ⟨g1, g2, g3⟩ | ⟨g1, g2, g3, g4⟩
   all_goals
    go_wp2_with fail
    go_roundg (c.KW - (f + 1))
    case measure => omega
    case rel => exact ⟨f + 1, S2, by omega, by go_num, rfl, HD', HB⟩
end Go.Proofs.YtgdcfjmpjhlndaaGreatDoor
