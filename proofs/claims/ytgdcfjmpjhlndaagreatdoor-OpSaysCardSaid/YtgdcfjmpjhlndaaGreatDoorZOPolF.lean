/-
  lodgeref3.pool, walked: an element of a pool. lodgeref3.PoolResult, walked; Result, element, Apply and Element of pools. lodgeref3.Result, element, Apply and Element of pools. The examples of package lodgelaw10; what the walks of its laws open with. By an AI agent. No person has read it.
-/
import Derived.Test.YtgdcfjmpjhlndaaGreatDoorZORefR
import Derived.Test.YtgdcfjmpjhlndaaGreatDoorZOPolE
import Derived.Test.YtgdcfjmpjhlndaaGreatDoorZORefI
namespace Go.Proofs.YtgdcfjmpjhlndaaGreatDoor
open Go.RowKit
def Pl.best (f : Nat → Int) (k : Nat) : Int := if k = 0 then 0 else Pl.top f k
theorem Pl.best_one (f : Nat → Int) : Pl.best f 1 = f 0 := by
 show max (f 0) (f 0) = f 0
 omega
theorem Pl.best_step (f : Nat → Int) (k : Nat) (h : k ≠ 0) : Pl.best f (k + 1) = max (Pl.best f k) (f k) := by
 unfold Pl.best
 rw [if_neg h, if_neg (by omega)]
 rfl
set_option maxRecDepth 100000 in
set_option maxHeartbeats 2000000 in
theorem rpl_c (avg : Bool) (qs : List Int) (a : Ten) (c : Pl) (hf : Pl.Fine qs a c) (d : Dsc) (A : Option Addr) (qcap i : Nat) (w : World) (hi : i < c.oh * c.ow * c.C) (hQ : Ri w A qs) (ha : a.In w) (hd : d.In w) (hdz : d.zs = [(c.oh : Int), (c.ow : Int), (c.C : Int)]) :
  Calls Tryz.prog 75 #[.bool avg, .slice A 2 qcap, .int .i64 i, .agg (tcells a.P a.zs.length a.cap a.u a.D a.ds.length a.dcap), .agg (dcells d.P d.zs.length d.cap d.u)] w fun e w' => e = .returned (.int .i64 (c.el avg a.ds (c.at i))) ∧ Below w.heap.size w w' := by
 have hok := hf.ok
 have hra := ha.shp
 have hrd := hd.shp
 rw [hf.az] at hra
 rw [hdz] at hrd
 rw [hf.qz] at hQ
 obtain ⟨pa, epa, -, a0, a1, a2⟩ := ri_three hra
 obtain ⟨pd, epd, -, d0, d1, d2⟩ := ri_three hrd
 obtain ⟨pq, epq, q0, q1⟩ := ri_pair hQ
 subst epq
 have hla : a.zs.length = 3 := by rw [hf.az]; rfl
 have hld : d.zs.length = 3 := by rw [hdz]; rfl
 have hC1 := hok.c1
 have how1 : 1 ≤ c.ow := Nat.succ_pos _
 have hAt := c.at_eq hok i hi
 have HLt := hide (fun k hk => c.lt hok i k hi hk)
 obtain ⟨F, hF⟩ : ∃ x, Hid (c.at i = x) := ⟨_, hide rfl⟩
 rw [hF.out] at HLt ⊢
 obtain ⟨q, hq⟩ : ∃ q_, Hid (i / c.C = q_) := ⟨_, hide rfl⟩
 obtain ⟨O, hO'⟩ : ∃ q_, Hid (i % c.C = q_) := ⟨_, hide rfl⟩
 obtain ⟨Y, hY'⟩ : ∃ q_, Hid (q / c.ow = q_) := ⟨_, hide rfl⟩
 obtain ⟨X, hX'⟩ : ∃ q_, Hid (q % c.ow = q_) := ⟨_, hide rfl⟩
 obtain ⟨Yt, hYt⟩ : ∃ x, Hid (Y * c.t = x) := ⟨_, hide rfl⟩
 obtain ⟨Xt, hXt⟩ : ∃ x, Hid (X * c.t = x) := ⟨_, hide rfl⟩
 rw [hq.out, hO'.out, hY'.out, hX'.out, hYt.out, hXt.out] at hAt
 have HAT := hide hAt
 have HFe : Hid (c.first Yt Xt O = F) := hide (by
  rw [← hF.out]
  unfold Pl.at
  rw [hq.out, hO'.out, hY'.out, hX'.out, hYt.out, hXt.out])
 have hib : i < 16384 := Nat.lt_of_lt_of_le hi hf.mn
 have hqi : q ≤ i := by rw [← hq.out]; exact Nat.div_le_self _ _
 have HOK := hide hok
 have HSA : Hid (∀ i, -2147483648 ≤ a.ds.getD i 0 ∧ a.ds.getD i 0 ≤ 2147483647) := hide (fun i => by
  rw [List.getD_eq_getElem?_getD]
  cases e : a.ds[i]? with
  | none => exact ⟨by decide, by decide⟩
  | some q => exact hf.sa q (List.mem_of_getElem? e))
 have HDA := hide (fun W (h : Below w.heap.size w W) => ha.dat.below h)
 obtain ⟨na, hna⟩ : ∃ q_, Hid (a.ds.length = q_) := ⟨_, hide rfl⟩
 have Hna : Hid (na = c.H * c.W * c.C) := hide (by rw [← hna.out]; exact hf.al)
 obtain ⟨W0, hW0⟩ : ∃ W, W = (w.alloc (.cells #[.slice a.P a.zs.length a.cap, .bool a.u, .slice a.D a.ds.length a.dcap] 26)).alloc (.cells #[.slice d.P d.zs.length d.cap, .bool d.u] 24) := ⟨_, rfl⟩
 have hA : Has W0 w.heap.size 26 [.slice a.P a.zs.length a.cap, .bool a.u, .slice a.D a.ds.length a.dcap] := by rw [hW0]; exact (Has.new w 26 _).alloc _
 have hDx : Has W0 (w.heap.size + 1) 24 [.slice d.P d.zs.length d.cap, .bool d.u] := by rw [hW0]; exact box_at _ _ _ _ (by simp)
 have hbw : Below w.heap.size w W0 := by rw [hW0]; exact ((Below.refl _ _).alloc (Nat.le_refl _) _).alloc (by simp) _
 rw [epa, hla, hna.out] at hA hW0
 rw [epd, hld] at hDx hW0
 have HS : Hid (RpS ⟨w.heap.size, 0, none⟩ ⟨w.heap.size, 2, none⟩ ⟨w.heap.size + 1, 0, none⟩ ⟨pa.block, pa.off + 1, none⟩ ⟨pd.block, pd.off + 1, none⟩ pq ⟨pq.block, pq.off + 1, none⟩ (.slice (some pa) 3 a.cap) (.slice a.D na a.dcap) (.slice (some pd) 3 d.cap) (.int .i64 c.W) (.int .i64 c.ow) (.int .i64 c.s) (.int .i64 c.t) W0) := hide ⟨hA.cell 0, hA.cell 2, hDx.cell 0, ten_kept a1 hbw, ten_kept d1 hbw, ten_kept q0 hbw, ten_kept q1 hbw⟩
 have HB0 := hide hbw
 have HW := hide hW0
 have HQ1 : Hid ((i : Int) / (c.C : Int) = (q : Int)) := hide (by rw [← hq.out]; exact (Int.natCast_ediv i c.C).symm)
 have HQ2 : Hid ((i : Int).tdiv (c.C : Int) = (q : Int)) := hide (by rw [Int.tdiv_eq_ediv_of_nonneg (by omega)]; exact HQ1.out)
 have HQ3 : Hid (IntKind.i64.wrap (q : Int) = (q : Int)) := hide (by rw [IntKind.wrap_i64]; omega)
 have HO1 : Hid ((i : Int) % (c.C : Int) = (O : Int)) := hide (by rw [← hO'.out]; exact (Int.natCast_emod i c.C).symm)
 have HX1 : Hid ((q : Int) % (c.ow : Int) = (X : Int)) := hide (by rw [← hX'.out]; exact (Int.natCast_emod q c.ow).symm)
 have HX2 : Hid ((q : Int).tmod (c.ow : Int) = (X : Int)) := hide (by rw [Int.tmod_eq_emod_of_nonneg (by omega)]; exact HX1.out)
 have HY1 : Hid ((q : Int) / (c.ow : Int) = (Y : Int)) := hide (by rw [← hY'.out]; exact (Int.natCast_ediv q c.ow).symm)
 have HY2 : Hid ((q : Int).tdiv (c.ow : Int) = (Y : Int)) := hide (by rw [Int.tdiv_eq_ediv_of_nonneg (by omega)]; exact HY1.out)
 have HYq : Y ≤ q := by rw [← hY'.out]; exact Nat.div_le_self _ _
 have HY3 : Hid (IntKind.i64.wrap (Y : Int) = (Y : Int)) := hide (by rw [IntKind.wrap_i64]; omega)
 have hNn : ¬ ((c.C : Int) = 0) := by omega
 have hNn2 : ¬ c.C = 0 := by omega
 have hwn : ¬ ((c.ow : Int) = 0) := by omega
 have hwn2 : ¬ c.ow = 0 := by omega
 have hi63 : (i : Int) ≤ 16384 := by omega
 have zd0 : ((w.alloc (.cells #[.slice (some pa) 3 a.cap, .bool a.u, .slice a.D na a.dcap] 26)).alloc (.cells #[.slice (some pd) 3 d.cap, .bool d.u] 24)).cell? ⟨pd.block, pd.off + 2, none⟩ = some (.int .i64 c.C) := by rw [← hW0]; exact ten_kept d2 hbw
 have HS16 : Hid (1 ≤ c.s ∧ c.s ≤ 16) := hide ⟨hok.s1, hok.s2⟩
 have HWC : Hid (c.W ≤ 256 ∧ c.H ≤ 256 ∧ na ≤ 16384) := hide ⟨hok.w2, hok.h2, by rw [Hna.out]; exact hok.a2⟩
 rw [hla, hld, epa, epd, hna.out]
 clear hi hQ ha hd hdz hf hok hra hrd a0 a1 a2 d0 d1 d2 q0 q1 hW0 hA hDx hbw hla hld how1 hAt epa epd hib hqi hC1
 go_enter Tryz.func75, Tryz.ntmps75
 go_wp2_with fail
 rw [← HW.out, HO1.out]
 clear HW zd0
 obtain ⟨-, -, kd0, -, jd1, -, -⟩ := HS.out
 have o1 := HQ1.out
 have o2 := HQ2.out
 have o3 := HQ3.out
 have o4 := HX1.out
 have o5 := HX2.out
 go_quiet (fail)
 clear o1 o2 o3 o4 o5 kd0 jd1
 have HBq := hide (below_drewN (Below.refl W0.heap.size W0) nq)
 generalize W0.drewN nq = W3 at *
 go_wp2_with fail
 obtain ⟨-, -, kd0, -, jd1, -, -⟩ := RpS.keep HS.out HBq.out
 have o1 := HQ1.out
 have o2 := HQ2.out
 have o3 := HQ3.out
 have o4 := HY1.out
 have o5 := HY2.out
 have o6 := HY3.out
 go_quiet (fail)
 clear o1 o2 o3 o4 o5 o6 kd0 jd1
 have HB := hide (below_drewN HBq.out nq)
 generalize W3.drewN nq = W4 at *
 go_wp2_with fail
 clear HBq
 obtain ⟨V, hV⟩ : ∃ x, Hid (c.v a.ds F = x) := ⟨_, hide rfl⟩
 have HVb : Hid (∀ k, -2147483648 ≤ V k ∧ V k ≤ 2147483647) := hide (fun k => by rw [← hV.out]; exact HSA.out (F + c.off k))
 have HEL : Hid (c.el avg a.ds F = if avg then Pl.mean (Pl.add V (c.s * c.s)) (c.s * c.s) else Pl.top V (c.s * c.s)) := hide (by unfold Pl.el; rw [hV.out])
 go_loopg [15, 16, 17, 18, 19] c.s (fun gq v15 v16 v17 _ _ wr => ∃ (e : Nat) (S M : Int), gq + e = c.s ∧ v17 = .int .i64 e ∧ v15 = .int .i64 S ∧ v16 = .int .i64 M ∧ Hid (Pl.add V (e * c.s) = S) ∧ Hid (Pl.best V (e * c.s) = M) ∧ Hid (Below W0.heap.size W0 wr))
 case atStart => exact ⟨0, 0, 0, by omega, rfl, rfl, rfl, hide (by rw [Nat.zero_mul]; rfl), hide (by rw [Nat.zero_mul]; rfl), HB⟩
 case round =>
  clear HB
  obtain ⟨e, S, M, he, rfl, rfl, rfl, HD, HM, HB⟩ := hrel
  obtain ⟨-, -, -, -, -, jq0, -⟩ := RpS.keep HS.out HB.out
  by_cases hek : e = c.s
  case pos =>
   have HSn : Hid (1 ≤ c.s * c.s ∧ c.s * c.s ≤ 256) := hide (by
    have h1 := HS16.out
    exact ⟨Nat.mul_pos h1.1 h1.1, by have := Nat.mul_le_mul h1.2 h1.2; omega⟩)
   obtain ⟨n, hn⟩ : ∃ n, Hid (c.s * c.s = n) := ⟨_, hide rfl⟩
   have HSn2 : Hid (1 ≤ n ∧ n ≤ 256) := hide (by rw [← hn.out]; exact HSn.out)
   rw [hek, hn.out] at HD HM
   rw [hn.out] at HEL
   have hlt : ¬ (e : Int) < (c.s : Int) := by omega
   have HBF := hide (HB0.out.trans (HB.out.mono HB0.out.size))
   cases avg
   case false =>
    have HE : Hid (c.el false a.ds F = M) := hide (by
     rw [HEL.out, ← HM.out]
     show Pl.top V n = Pl.best V n
     unfold Pl.best
     rw [if_neg (by have := HSn2.out; omega)])
    go_wp2_with fail
    go_ret
    exact ⟨by rw [HE.out]; rfl, HBF.out⟩
   case true =>
    have HE : Hid (c.el true a.ds F = (2 * S + (n : Int)) / (2 * (n : Int))) := hide (by
     rw [HEL.out, HD.out]
     rfl)
    have hsl := Pl.add_le V 2147483648 n (fun k _ => by have := HVb.out k; omega)
    rw [HD.out] at hsl
    have HDV := hide (fun W => rdiv_c (2 * S + (n : Int)) (2 * (n : Int)) W (by have := HSn2.out; omega) (by have := HSn2.out; omega))
    obtain ⟨t2, ht2⟩ : ∃ x, Hid (2 * S = x) := ⟨_, hide rfl⟩
    obtain ⟨u2, hu2⟩ : ∃ x, Hid (t2 + (n : Int) = x) := ⟨_, hide rfl⟩
    obtain ⟨m2, hm2⟩ : ∃ x, Hid (2 * (n : Int) = x) := ⟨_, hide rfl⟩
    have Hw0 : Hid (IntKind.i64.wrap ((c.s : Int) * (c.s : Int)) = (n : Int)) := hide (by rw [← Int.natCast_mul, hn.out, IntKind.wrap_i64]; have := HSn2.out; omega)
    have Hw1 : Hid (wrap64 (2 * S) = t2) := hide (by rw [← ht2.out]; have := HSn2.out; unfold wrap64; omega)
    have Hw2 : Hid (wrap64 (t2 + (n : Int)) = u2) := hide (by rw [← hu2.out, ← ht2.out]; have := HSn2.out; unfold wrap64; omega)
    have Hw3 : Hid (wrap64 (2 * (n : Int)) = m2) := hide (by rw [← hm2.out]; have := HSn2.out; unfold wrap64; omega)
    rw [ht2.out, hu2.out, hm2.out] at HDV HE
    obtain ⟨z, hz⟩ : ∃ x, Hid (u2 / m2 = x) := ⟨_, hide rfl⟩
    rw [hz.out] at HDV HE
    clear hsl
    go_wp2_with fail
    have o1 := Hw0.out
    go_quiet (fail)
    clear o1 jq0
    replace HB := hide (below_drewN HB.out nq)
    have HBF2 := hide (below_drewN HBF.out nq)
    generalize wr.drewN nq = W5 at *
    have o1 := Hw1.out
    have o2 := Hw2.out
    have o3 := Hw3.out
    go_wp2_with fail
    clear o1 o2 o3
    refine (HDV.out _).mono ?_
    rintro e' w9 ⟨rfl, hw⟩
    have hw := hw.symm
    subst hw
    go_wp2_with fail
    go_ret
    exact ⟨by rw [HE.out]; rfl, HBF2.out⟩
  case neg =>
  have hel : e < c.s := by omega
  have hel' : (e : Int) < (c.s : Int) := by omega
  go_wp2_with fail
  clear jq0
  obtain ⟨k0, hk0⟩ : ∃ x, Hid (e * c.s = x) := ⟨_, hide rfl⟩
  rw [hk0.out] at HD HM
  go_loopg [15, 16, 18, 19] c.s (fun gq v15 v16 v18 _ wr => ∃ (f : Nat) (S2 M2 : Int), gq + f = c.s ∧ v18 = .int .i64 f ∧ v15 = .int .i64 S2 ∧ v16 = .int .i64 M2 ∧ Hid (Pl.add V (k0 + f) = S2) ∧ Hid (Pl.best V (k0 + f) = M2) ∧ Hid (Below W0.heap.size W0 wr))
  case atStart => exact ⟨0, S, M, by omega, rfl, rfl, rfl, HD, HM, HB⟩
  case round =>
   clear HB
   obtain ⟨f, S2, M2, hf9, rfl, rfl, rfl, HD2, HM2, HB⟩ := hrel
   obtain ⟨ka0, ka2, -, ja1, -, jq0, jq1⟩ := RpS.keep HS.out HB.out
   by_cases hfk : f = c.s
   case pos =>
    have Hk1 : Hid ((e + 1) * c.s = k0 + f) := hide (by rw [Nat.add_mul, hk0.out, hfk, Nat.one_mul])
    have hlt : ¬ (f : Int) < (c.s : Int) := by omega
    have he1 : ((e : Nat) : Int) + 1 ≤ 1000101 := by have := HS16.out; omega
    clear ka0 ka2 ja1 jq1
    go_wp2_with fail
    go_roundg (c.s - (e + 1))
    case measure => omega
    case rel => exact ⟨e + 1, S2, M2, by omega, by go_num, rfl, rfl, hide (by rw [Hk1.out]; exact HD2.out), hide (by rw [Hk1.out]; exact HM2.out), HB⟩
   case neg =>
   have hfl : f < c.s := by omega
   have hfl' : (f : Int) < (c.s : Int) := by omega
   obtain ⟨y1, hy1⟩ : ∃ x, Hid (Yt + e = x) := ⟨_, hide rfl⟩
   obtain ⟨y2, hy2⟩ : ∃ x, Hid (y1 * c.W = x) := ⟨_, hide rfl⟩
   obtain ⟨y3, hy3⟩ : ∃ x, Hid (y2 + Xt = x) := ⟨_, hide rfl⟩
   obtain ⟨y4, hy4⟩ : ∃ x, Hid (y3 + f = x) := ⟨_, hide rfl⟩
   obtain ⟨y5, hy5⟩ : ∃ x, Hid (y4 * c.C = x) := ⟨_, hide rfl⟩
   obtain ⟨j, hj⟩ : ∃ x, Hid (y5 + O = x) := ⟨_, hide rfl⟩
   have Hkk : Hid (k0 + f < c.s * c.s) := hide (by
    have h1 : (e + 1) * c.s ≤ c.s * c.s := Nat.mul_le_mul_right _ hel
    rw [Nat.add_mul, hk0.out] at h1
    omega)
   have HOf : Hid (F + c.off (k0 + f) = j) := hide (by
    have hs := HS16.out.1
    rw [← HFe.out, Pl.off_eq, ← hk0.out]
    have e1 : (e * c.s + f) / c.s = e := by rw [Nat.add_comm, Nat.add_mul_div_right _ _ hs, Nat.div_eq_of_lt hfl, Nat.zero_add]
    have e2 : (e * c.s + f) % c.s = f := by rw [Nat.add_comm, Nat.add_mul_mod_self_right, Nat.mod_eq_of_lt hfl]
    rw [e1, e2, hy1.out, ← Nat.add_assoc, hy2.out, hy3.out, hy4.out, hy5.out, hj.out])
   have Hjn : Hid (j < na) := hide (by rw [← HOf.out, Hna.out]; exact HLt.out _ Hkk.out)
   have Hb : Hid (j ≤ 16384 ∧ y5 ≤ j ∧ y4 ≤ y5 ∧ y3 ≤ y4 ∧ y2 ≤ y3) := hide (by
    have h1 := Hjn.out
    have h2 := HWC.out
    have h3 : y4 ≤ y5 := by rw [← hy5.out]; exact Nat.le_mul_of_pos_right _ (by omega)
    have h4 := hj.out
    have h5 := hy4.out
    have h6 := hy3.out
    omega)
   have Hu1 : Hid (IntKind.i64.wrap ((Y : Int) * (c.t : Int)) = (Yt : Int)) := hide (by rw [← Int.natCast_mul, hYt.out, IntKind.wrap_i64]; have := HAT.out; have := HWC.out; omega)
   have Hu2 : Hid (IntKind.i64.wrap ((Yt : Int) + (e : Int)) = (y1 : Int)) := hide (by rw [IntKind.wrap_i64]; have := HAT.out; have := HWC.out; have := HS16.out; have := hy1.out; omega)
   have Hu3 : Hid (IntKind.i64.wrap ((y1 : Int) * (c.W : Int)) = (y2 : Int)) := hide (by rw [← Int.natCast_mul, hy2.out, IntKind.wrap_i64]; have := Hb.out; omega)
   have Hu4 : Hid (IntKind.i64.wrap ((X : Int) * (c.t : Int)) = (Xt : Int)) := hide (by rw [← Int.natCast_mul, hXt.out, IntKind.wrap_i64]; have := HAT.out; have := HWC.out; omega)
   have Hu5 : Hid (IntKind.i64.wrap ((y2 : Int) + (Xt : Int)) = (y3 : Int)) := hide (by rw [IntKind.wrap_i64]; have := Hb.out; have := hy3.out; omega)
   have Hu6 : Hid (IntKind.i64.wrap ((y3 : Int) + (f : Int)) = (y4 : Int)) := hide (by rw [IntKind.wrap_i64]; have := Hb.out; have := hy4.out; omega)
   have Hu7 : Hid (IntKind.i64.wrap ((y4 : Int) * (c.C : Int)) = (y5 : Int)) := hide (by rw [← Int.natCast_mul, hy5.out, IntKind.wrap_i64]; have := Hb.out; omega)
   have Hu8 : Hid (IntKind.i64.wrap ((y5 : Int) + (O : Int)) = (j : Int)) := hide (by rw [IntKind.wrap_i64]; have := Hb.out; have := hj.out; omega)
   obtain ⟨ad, x, hAD, ex, cx⟩ := ri_at (HDA.out wr (HB0.out.trans (HB.out.mono HB0.out.size))) j (by rw [hna.out]; exact Hjn.out)
   have Hex : Hid (V (k0 + f) = x) := hide (by rw [← hV.out]; unfold Pl.v; rw [HOf.out, List.getD_eq_getElem?_getD, ex.out, Option.getD_some])
   rw [hAD] at ka2
   have hj0 : (0 : Int) ≤ (j : Int) := by omega
   have hj1 : (j : Int) < na := by have := Hjn.out; omega
   clear hAD ex
   go_wp2_with fail
   have o1 := Hu1.out
   have o2 := Hu2.out
   have o3 := Hu3.out
   have o4 := Hu4.out
   have o5 := Hu5.out
   have o6 := Hu6.out
   have o7 := Hu7.out
   have o8 := Hu8.out
   go_quiet (fail)
   clear o1 o2 o3 o4 o5 o6 o7 o8 Hu1 Hu2 Hu3 Hu4 Hu5 Hu6 Hu7 Hu8 ka0 ka2 ja1 jq0 jq1 cx hj0 hj1
   replace HB := hide (below_drewN HB.out nq)
   generalize wr.drewN nq = W5 at *
   have hf1 : ((f : Nat) : Int) + 1 ≤ 1000101 := by have := HS16.out; omega
   have hsl := Pl.add_le V 2147483648 (k0 + f) (fun k _ => by have := HVb.out k; omega)
   rw [HD2.out] at hsl
   have hxb := HVb.out (k0 + f)
   rw [Hex.out] at hxb
   obtain ⟨S3, hS3⟩ : ∃ x_, Hid (S2 + x = x_) := ⟨_, hide rfl⟩
   have Hws : Hid (wrap64 (S2 + x) = S3) := hide (by rw [← hS3.out]; have := Hkk.out; have h1 := HS16.out; have := Nat.mul_le_mul h1.2 h1.2; unfold wrap64; omega)
   have HD3 : Hid (Pl.add V (k0 + (f + 1)) = S3) := hide (by
    show Pl.add V (k0 + f) + V (k0 + f) = S3
    rw [HD2.out, Hex.out, hS3.out])
   clear hsl hxb
   by_cases hz : e = 0 ∧ f = 0
   case pos =>
    have i1 : ((e : Int) == 0) = true := by simp; exact hz.1
    have i2 : ((f : Int) == 0) = true := by simp; exact hz.2
    have HM3 : Hid (Pl.best V (k0 + (f + 1)) = x) := hide (by
     have hk : k0 = 0 := by rw [← hk0.out, hz.1, Nat.zero_mul]
     have h := Pl.best_one V
     rw [← Hex.out, hk, hz.2]
     exact h)
    clear hz
    have o1 := Hws.out
    go_wp2_with fail
    clear o1
    go_roundg (c.s - (f + 1))
    case measure => omega
    case rel => exact ⟨f + 1, S3, x, by omega, by go_num, (by first | rfl | exact congrArg (Value.int .i64) Hws.out), rfl, HD3, HM3, HB⟩
   case neg =>
   have hkn : k0 + f ≠ 0 := fun h => hz (by
    have h1 : k0 = 0 := by omega
    rw [← hk0.out] at h1
    rcases Nat.mul_eq_zero.1 h1 with h2 | h2
    ·exact ⟨h2, by omega⟩
    ·have := HS16.out; omega)
   have HM3 : Hid (Pl.best V (k0 + (f + 1)) = max M2 x) := hide (by
    have h := Pl.best_step V (k0 + f) hkn
    rw [HM2.out, Hex.out] at h
    exact h)
   have HI : Hid (((e : Int) == 0) = false ∨ (((e : Int) == 0) = true ∧ ((f : Int) == 0) = false)) := hide (by
    by_cases h : e = 0
    ·exact .inr ⟨by simp; exact h, by simp; omega⟩
    ·exact .inl (by simp; omega))
   clear hz hkn
   rcases HI.out with i1 | ⟨i1, i2⟩
   all_goals
    by_cases hg : M2 < x
    case pos =>
     have HM4 : Hid (Pl.best V (k0 + (f + 1)) = x) := hide (by rw [HM3.out]; omega)
     have o1 := Hws.out
     go_wp2_with fail
     clear o1
     go_roundg (c.s - (f + 1))
     case measure => omega
     case rel => exact ⟨f + 1, S3, x, by omega, by go_num, (by first | rfl | exact congrArg (Value.int .i64) Hws.out), rfl, HD3, HM4, HB⟩
    case neg =>
     have HM4 : Hid (Pl.best V (k0 + (f + 1)) = M2) := hide (by rw [HM3.out]; omega)
     have o1 := Hws.out
     go_wp2_with fail
     clear o1
     go_roundg (c.s - (f + 1))
     case measure => omega
     case rel => exact ⟨f + 1, S3, M2, by omega, by go_num, (by first | rfl | exact congrArg (Value.int .i64) Hws.out), rfl, HD3, HM4, HB⟩
set_option maxRecDepth 100000 in
set_option maxHeartbeats 4000000 in
theorem relem_pool14 (a : Ten) (d : Dsc) (A B : Option Addr) (qcap cap : Nat) (i v : Int) (w : World) (hR : Row w B ([a].flatMap Ten.vals))
  (hC : ∀ W, Below w.heap.size w W → Calls Tryz.prog 75 #[.bool false, .slice A 2 qcap, .int .i64 i, .agg (tcells a.P a.zs.length a.cap a.u a.D a.ds.length a.dcap), .agg (dcells d.P d.zs.length d.cap d.u)] W fun e w' => e = .returned (.int .i64 v) ∧ Below W.heap.size W w') :
  Calls Tryz.prog 42 #[.int .i64 14, .slice A 2 qcap, .int .i64 i, .slice B 1 cap, .agg (dcells d.P d.zs.length d.cap d.u)] w fun e w' => e = .returned (.int .i64 v) ∧ Below w.heap.size w w' := by
 obtain ⟨pr, hpr, hprl, r0, r1, r2⟩ := row_one hR
 subst hpr
 obtain ⟨W0, hW0⟩ : ∃ W, W = ((w.alloc (.cells #[.slice d.P d.zs.length d.cap, .bool d.u] 24)).alloc (.cells #[.slice a.P a.zs.length a.cap, .bool a.u, .slice a.D a.ds.length a.dcap] 26)) := ⟨_, rfl⟩
 have hbz : Below w.heap.size w (w.alloc (.cells #[.slice d.P d.zs.length d.cap, .bool d.u] 24)) := (Below.refl _ _).alloc (Nat.le_refl _) _
 have hbw : Below w.heap.size w W0 := by rw [hW0]; exact hbz.alloc (by simp) _
 have z0 : (w.alloc (.cells #[.slice d.P d.zs.length d.cap, .bool d.u] 24)).cell? pr = some (.slice a.P a.zs.length a.cap) := (hbz.cell hprl).trans r0
 have z1 : (w.alloc (.cells #[.slice d.P d.zs.length d.cap, .bool d.u] 24)).cell? ⟨pr.block, pr.off + 1, none⟩ = some (.bool a.u) := (hbz.cell (p := ⟨pr.block, pr.off + 1, none⟩) hprl).trans r1
 have z2 : (w.alloc (.cells #[.slice d.P d.zs.length d.cap, .bool d.u] 24)).cell? ⟨pr.block, pr.off + 2, none⟩ = some (.slice a.D a.ds.length a.dcap) := (hbz.cell (p := ⟨pr.block, pr.off + 2, none⟩) hprl).trans r2
 have HC := hide (hC W0 hbw)
 have HB0 := hide hbw
 have HW := hide hW0
 clear hR hC hW0 hbw hbz r0 r1 r2 hprl
 go_enter Tryz.func42, Tryz.ntmps42
 go_wp2_with fail
 rw [← HW.out]
 clear HW z0 z1 z2
 refine HC.out.mono ?_
 rintro e W4 ⟨rfl, hb⟩
 have HFin := hide (HB0.out.trans (hb.mono HB0.out.size))
 clear hb
 go_wp2_with fail
 go_ret
 exact ⟨rfl, HFin.out⟩
set_option maxRecDepth 100000 in
set_option maxHeartbeats 4000000 in
theorem relem_pool15 (a : Ten) (d : Dsc) (A B : Option Addr) (qcap cap : Nat) (i v : Int) (w : World) (hR : Row w B ([a].flatMap Ten.vals))
  (hC : ∀ W, Below w.heap.size w W → Calls Tryz.prog 75 #[.bool true, .slice A 2 qcap, .int .i64 i, .agg (tcells a.P a.zs.length a.cap a.u a.D a.ds.length a.dcap), .agg (dcells d.P d.zs.length d.cap d.u)] W fun e w' => e = .returned (.int .i64 v) ∧ Below W.heap.size W w') :
  Calls Tryz.prog 42 #[.int .i64 15, .slice A 2 qcap, .int .i64 i, .slice B 1 cap, .agg (dcells d.P d.zs.length d.cap d.u)] w fun e w' => e = .returned (.int .i64 v) ∧ Below w.heap.size w w' := by
 obtain ⟨pr, hpr, hprl, r0, r1, r2⟩ := row_one hR
 subst hpr
 obtain ⟨W0, hW0⟩ : ∃ W, W = ((w.alloc (.cells #[.slice d.P d.zs.length d.cap, .bool d.u] 24)).alloc (.cells #[.slice a.P a.zs.length a.cap, .bool a.u, .slice a.D a.ds.length a.dcap] 26)) := ⟨_, rfl⟩
 have hbz : Below w.heap.size w (w.alloc (.cells #[.slice d.P d.zs.length d.cap, .bool d.u] 24)) := (Below.refl _ _).alloc (Nat.le_refl _) _
 have hbw : Below w.heap.size w W0 := by rw [hW0]; exact hbz.alloc (by simp) _
 have z0 : (w.alloc (.cells #[.slice d.P d.zs.length d.cap, .bool d.u] 24)).cell? pr = some (.slice a.P a.zs.length a.cap) := (hbz.cell hprl).trans r0
 have z1 : (w.alloc (.cells #[.slice d.P d.zs.length d.cap, .bool d.u] 24)).cell? ⟨pr.block, pr.off + 1, none⟩ = some (.bool a.u) := (hbz.cell (p := ⟨pr.block, pr.off + 1, none⟩) hprl).trans r1
 have z2 : (w.alloc (.cells #[.slice d.P d.zs.length d.cap, .bool d.u] 24)).cell? ⟨pr.block, pr.off + 2, none⟩ = some (.slice a.D a.ds.length a.dcap) := (hbz.cell (p := ⟨pr.block, pr.off + 2, none⟩) hprl).trans r2
 have HC := hide (hC W0 hbw)
 have HB0 := hide hbw
 have HW := hide hW0
 clear hR hC hW0 hbw hbz r0 r1 r2 hprl
 go_enter Tryz.func42, Tryz.ntmps42
 go_wp2_with fail
 rw [← HW.out]
 clear HW z0 z1 z2
 refine HC.out.mono ?_
 rintro e W4 ⟨rfl, hb⟩
 have HFin := hide (HB0.out.trans (hb.mono HB0.out.size))
 clear hb
 go_wp2_with fail
 go_ret
 exact ⟨rfl, HFin.out⟩
end Go.Proofs.YtgdcfjmpjhlndaaGreatDoor
