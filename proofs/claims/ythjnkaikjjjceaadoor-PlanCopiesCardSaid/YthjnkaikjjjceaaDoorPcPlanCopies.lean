/-
  The law PlanCopies, walked. By an AI agent. No person has read it.
-/
import Derived.Test.YthjnkaikjjjceaaDoorPcPlnWf
import Derived.Test.YthjnkaikjjjceaaDoorPcPlnWe
import Derived.Test.YthjnkaikjjjceaaDoorPcPlnWa
import Derived.Test.YthjnkaikjjjceaaDoorPcPlnQ
import Derived.Test.YthjnkaikjjjceaaDoorPcBasN
namespace Go.Proofs.YthjnkaikjjjceaaDoor
open Go.RowKit
theorem Pn.Lies.below {w w' : World} {p : Pn} (h : p.Lies w) (hb : Below w.heap.size w w') : p.Lies w' :=
  ⟨h.V.below hb, fun v hv => (h.vs v hv).below hb, h.C.below hb, fun v hv => ⟨(h.cs v hv).1.below hb, (h.cs v hv).2.below hb⟩, h.L.below hb, fun v hv => (h.ls v hv).below hb, h.K.below hb, fun v hv => ⟨(h.is v hv).1.below hb, (h.is v hv).2.below hb⟩⟩
theorem same_not (p q : Pn) {w X : World} (hp : p.In X) (hq : q.In X) (hne : ¬ p.pl = q.pl) (hbX : Below w.heap.size w X) :
    (Calls Tryd.prog 14 #[.agg #[.int .i64 p.size, .slice p.V p.vs.length p.vc, .slice p.C p.cs.length p.cc, .slice p.L p.ls.length p.lc, .slice p.K p.is.length p.kc, .int .i64 p.inp, .int .i64 p.out], .agg #[.int .i64 q.size, .slice q.V q.vs.length q.vc, .slice q.C q.cs.length q.cc, .slice q.L q.ls.length q.lc, .slice q.K q.is.length q.kc, .int .i64 q.inp, .int .i64 q.out]] X fun e w' => e = .returned (.bool false) ∧ Below X.heap.size X w') ∧
    ∀ W, Below X.heap.size X W → Calls Tryd.prog 14 #[.agg #[.int .i64 q.size, .slice q.V q.vs.length q.vc, .slice q.C q.cs.length q.cc, .slice q.L q.ls.length q.lc, .slice q.K q.is.length q.kc, .int .i64 q.inp, .int .i64 q.out], .agg #[.int .i64 p.size, .slice p.V p.vs.length p.vc, .slice p.C p.cs.length p.cc, .slice p.L p.ls.length p.lc, .slice p.K p.is.length p.kc, .int .i64 p.inp, .int .i64 p.out]] W fun e w' => e = .returned (.bool false) ∧ Below w.heap.size w w' := by
  refine ⟨(psame_c p q X hp hq).mono ?_, fun W hW => (psame_c q p W (hq.below hW) (hp.below hW)).mono ?_⟩
  · rintro e w' ⟨rfl, hb⟩
    rw [decide_eq_false hne]
    exact ⟨rfl, hb⟩
  · rintro e w' ⟨rfl, hb⟩
    rw [decide_eq_false fun e => hne e.symm]
    have h := hbX.trans (hW.mono hbX.size)
    exact ⟨rfl, h.trans (hb.mono h.size)⟩
set_option maxRecDepth 100000 in
set_option maxHeartbeats 16000000 in
theorem plancopies_c (p : Pn) (what at0 : Int) (w : World) (hp : p.Lies w) (hsz : -9223372036854775808 ≤ p.size ∧ p.size ≤ 9223372036854775807) (ah am ar : Addr) (hE : E3 w ah am ar) :
    Calls Tryd.prog 5 #[.agg #[.int .i64 p.size, .slice p.V p.vs.length p.vc, .slice p.C p.cs.length p.cc, .slice p.L p.ls.length p.lc, .slice p.K p.is.length p.kc, .int .i64 p.inp, .int .i64 p.out], .int .i64 what, .int .i64 at0] w fun e w' => e = .returned (.bool true) ∧ Below w.heap.size w w' := by
  have HF := hide (fun (W : World) (hb : Below w.heap.size w W) => first14_c [ah, ar, ar, am, ar] ah am ar ar ar ⟨rfl, rfl, rfl, rfl, rfl⟩ W (E3.below hE hb))
  have HW := hide (fun (W : World) (hb : Below w.heap.size w W) => worldplan_c p W (hp.below hb))
  have HC := hide (fun (hf : p.few) (W : World) (hb : Below w.heap.size w W) => pclone_c p W ((hp.in_ hf).below hb))
  have HIN := hide (fun (hf : p.few) (W : World) (hb : Below w.heap.size w W) => (hp.in_ hf).below hb)
  have HSM := hide (fun (hf : p.few) (q : Pn) (W : World) (hb : Below w.heap.size w W) (hq : q.In W) (he : q.pl = p.pl) => psame_c p q W ((hp.in_ hf).below hb) hq)
  have HRS := hide (fun (hf : p.few) (q : Pn) (W : World) (hb : Below w.heap.size w W) (hq : q.In W) (he : q.pl = p.pl) => rsameplan_c p q W ((hp.in_ hf).below hb) hq he)
  have HNO := hide (fun (hf : p.few) (q : Pn) (X : World) (hb : Below w.heap.size w X) (hq : q.In X) (hne : ¬ p.pl = q.pl) => same_not p q ((hp.in_ hf).below hb) hq hne hb)
  have HSZ := hide hsz
  have HNV := hide (fun W : World => number_v what 4 (by omega) (by omega) 4 rfl W)
  have hk8 : numv what 4 < 4 := numv_lt what 4 (by omega)
  obtain ⟨kk, hkk⟩ : ∃ k, Hid (numv what 4 = k) := ⟨_, hide rfl⟩
  rw [hkk.out] at HNV hk8
  have HK8 := hide hk8
  obtain ⟨m1, hm1⟩ : ∃ n, Hid (p.vs.length = n) := ⟨_, hide rfl⟩
  obtain ⟨m2, hm2⟩ : ∃ n, Hid (p.cs.length = n) := ⟨_, hide rfl⟩
  obtain ⟨m3, hm3⟩ : ∃ n, Hid (p.ls.length = n) := ⟨_, hide rfl⟩
  obtain ⟨m4, hm4⟩ : ∃ n, Hid (p.is.length = n) := ⟨_, hide rfl⟩
  rw [hm1.out, hm2.out, hm3.out, hm4.out] at HW HC HSM HRS HNO ⊢
  obtain ⟨X0, hX0⟩ : ∃ X, Hid (w.alloc (.cells #[.int .i64 p.size, .slice p.V m1 p.vc, .slice p.C m2 p.cc, .slice p.L m3 p.lc, .slice p.K m4 p.kc, .int .i64 p.inp, .int .i64 p.out] 27) = X) := ⟨_, hide rfl⟩
  have HB0 : Hid (Below w.heap.size w X0) := hide (by rw [← hX0.out]; exact (Below.refl _ w).alloc (Nat.le_refl _) _)
  have HP0 : Hid (Has X0 w.heap.size 27 [.int .i64 p.size, .slice p.V m1 p.vc, .slice p.C m2 p.cc, .slice p.L m3 p.lc, .slice p.K m4 p.kc, .int .i64 p.inp, .int .i64 p.out]) := hide (by rw [← hX0.out]; exact Has.new w 27 [.int .i64 p.size, .slice p.V m1 p.vc, .slice p.C m2 p.cc, .slice p.L m3 p.lc, .slice p.K m4 p.kc, .int .i64 p.inp, .int .i64 p.out])
  have HF0 := hide (HF.out X0 HB0.out)
  clear hp hsz hE hkk hk8 HF
  go_enter Tryd.func5, Tryd.ntmps5
  go_wp2_with fail
  rw [hX0.out]
  refine HF0.out.mono ?_
  rintro e w1 ⟨rfl, hb⟩
  have HB1 := hide (HB0.out.trans (hb.mono HB0.out.size))
  have HP1 := hide (HP0.out.below hb HP0.out.lt)
  have HW1 := hide (HW.out w1 HB1.out)
  have y0 : w1.cell? ⟨w.heap.size, 0, none⟩ = some (.int .i64 p.size) := HP1.out.cell 0
  have y1 : w1.cell? ⟨w.heap.size, 1, none⟩ = some (.slice p.V m1 p.vc) := HP1.out.cell 1
  have y2 : w1.cell? ⟨w.heap.size, 2, none⟩ = some (.slice p.C m2 p.cc) := HP1.out.cell 2
  have y3 : w1.cell? ⟨w.heap.size, 3, none⟩ = some (.slice p.L m3 p.lc) := HP1.out.cell 3
  have y4 : w1.cell? ⟨w.heap.size, 4, none⟩ = some (.slice p.K m4 p.kc) := HP1.out.cell 4
  have y5 : w1.cell? ⟨w.heap.size, 5, none⟩ = some (.int .i64 p.inp) := HP1.out.cell 5
  have y6 : w1.cell? ⟨w.heap.size, 6, none⟩ = some (.int .i64 p.out) := HP1.out.cell 6
  clear HF0 HB0 HP0 hb HW hX0
  go_wp2_with fail
  refine HW1.out.mono ?_
  clear y0 y1 y2 y3 y4 y5 y6
  rintro e w2 ⟨⟨bf, rfl, hfew⟩, hb⟩
  have HFEW := hide hfew
  have HB2 := hide (HB1.out.trans (hb.mono HB1.out.size))
  have HP2 := hide (HP1.out.below hb HP1.out.lt)
  clear hb hfew HB1 HP1 HW1
  cases bf
  · go_wp2_with fail
    go_ret
    exact ⟨rfl, HB2.out⟩
  have HFW := hide (HFEW.out rfl)
  have HCL := hide (HC.out HFW.out w2 HB2.out)
  have y0 : w2.cell? ⟨w.heap.size, 0, none⟩ = some (.int .i64 p.size) := HP2.out.cell 0
  have y1 : w2.cell? ⟨w.heap.size, 1, none⟩ = some (.slice p.V m1 p.vc) := HP2.out.cell 1
  have y2 : w2.cell? ⟨w.heap.size, 2, none⟩ = some (.slice p.C m2 p.cc) := HP2.out.cell 2
  have y3 : w2.cell? ⟨w.heap.size, 3, none⟩ = some (.slice p.L m3 p.lc) := HP2.out.cell 3
  have y4 : w2.cell? ⟨w.heap.size, 4, none⟩ = some (.slice p.K m4 p.kc) := HP2.out.cell 4
  have y5 : w2.cell? ⟨w.heap.size, 5, none⟩ = some (.int .i64 p.inp) := HP2.out.cell 5
  have y6 : w2.cell? ⟨w.heap.size, 6, none⟩ = some (.int .i64 p.out) := HP2.out.cell 6
  clear HFEW HC
  go_wp2_with fail
  refine HCL.out.mono ?_
  clear y0 y1 y2 y3 y4 y5 y6
  rintro e w3 ⟨⟨q, rfl, hpl, hcl⟩, hb⟩
  have HPL := hide hpl
  have HB3 := hide (HB2.out.trans (hb.mono HB2.out.size))
  have HP3 := hide ((HP2.out.below hb HP2.out.lt).alloc (.cells #[.int .i64 q.size, .slice q.V q.vs.length q.vc, .slice q.C q.cs.length q.cc, .slice q.L q.ls.length q.lc, .slice q.K q.is.length q.kc, .int .i64 q.inp, .int .i64 q.out] 27))
  have HQ3 := hide (Has.new w3 27 [.int .i64 q.size, .slice q.V q.vs.length q.vc, .slice q.C q.cs.length q.cc, .slice q.L q.ls.length q.lc, .slice q.K q.is.length q.kc, .int .i64 q.inp, .int .i64 q.out])
  have HB3a := hide (HB3.out.alloc HB3.out.size (.cells #[.int .i64 q.size, .slice q.V q.vs.length q.vc, .slice q.C q.cs.length q.cc, .slice q.L q.ls.length q.lc, .slice q.K q.is.length q.kc, .int .i64 q.inp, .int .i64 q.out] 27))
  have HC3 := hide (hcl.grown (below_grown ((Below.refl w3.heap.size w3).alloc (Nat.le_refl _) (.cells #[.int .i64 q.size, .slice q.V q.vs.length q.vc, .slice q.C q.cs.length q.cc, .slice q.L q.ls.length q.lc, .slice q.K q.is.length q.kc, .int .i64 q.inp, .int .i64 q.out] 27))) (NotP.none _))
  have HPLT : Hid (w.heap.size < w3.heap.size) := hide ((HP2.out.below hb HP2.out.lt).lt)
  have HBASE : Hid (w.heap.size ≤ w2.heap.size) := hide HB2.out.size
  have HBS3 : Hid (w2.heap.size ≤ w3.heap.size) := hide hb.size
  have e1 : q.vs.length = p.vs.length := len_of_map (congrArg PlP.vs hpl)
  have e2 : q.cs.length = p.cs.length := len_of_map (congrArg PlP.cs hpl)
  have e3 : q.ls.length = p.ls.length := len_of_map (congrArg PlP.ls hpl)
  have e4 : q.is.length = p.is.length := len_of_map (congrArg PlP.is hpl)
  have HLN : Hid q.Lens := hide ⟨by have := HFW.out.lv; omega, by have := HFW.out.lc; omega, by have := HFW.out.ll; omega, by have := HFW.out.li; omega⟩
  have HL10 : Hid (∀ y ∈ q.is, y.gs.length ≤ 10) := hide (fun y hy => by
    obtain ⟨j, hj⟩ := List.mem_iff_getElem?.1 hy
    have h1 : (q.is.map Ins.pl)[j]? = some y.pl := by rw [List.getElem?_map, hj]; rfl
    rw [show q.is.map Ins.pl = p.is.map Ins.pl from congrArg PlP.is hpl, List.getElem?_map] at h1
    obtain ⟨x, hx, h2⟩ := Option.map_eq_some_iff.1 h1
    have h3 := (HFW.out.is x (List.mem_of_getElem? hx)).2
    have h4 : x.gs = y.gs := congrArg InP.gs h2
    rw [← h4]
    exact h3)
  have HZS : Hid (q.size = p.size) := hide (congrArg PlP.size hpl)
  have hqin := HC3.out.in_ HLN.out.v HLN.out.c HLN.out.l HLN.out.k
  have hs3 := HSM.out HFW.out q _ HB3a.out hqin hpl
  rw [decide_eq_true hpl.symm] at hs3
  have HR3 := hide (fun (W : World) (hb : Below (w3.alloc (.cells #[.int .i64 q.size, .slice q.V q.vs.length q.vc, .slice q.C q.cs.length q.cc, .slice q.L q.ls.length q.lc, .slice q.K q.is.length q.kc, .int .i64 q.inp, .int .i64 q.out] 27)).heap.size (w3.alloc (.cells #[.int .i64 q.size, .slice q.V q.vs.length q.vc, .slice q.C q.cs.length q.cc, .slice q.L q.ls.length q.lc, .slice q.K q.is.length q.kc, .int .i64 q.inp, .int .i64 q.out] 27)) W) => HRS.out HFW.out q W (HB3a.out.trans (hb.mono HB3a.out.size)) (hqin.below hb) hpl)
  obtain ⟨n1, hn1⟩ : ∃ n, Hid (q.vs.length = n) := ⟨_, hide rfl⟩
  obtain ⟨n2, hn2⟩ : ∃ n, Hid (q.cs.length = n) := ⟨_, hide rfl⟩
  obtain ⟨n3, hn3⟩ : ∃ n, Hid (q.ls.length = n) := ⟨_, hide rfl⟩
  obtain ⟨n4, hn4⟩ : ∃ n, Hid (q.is.length = n) := ⟨_, hide rfl⟩
  have HN4 : Hid (n4 ≤ 300) := hide (by have := HFW.out.li; rw [← hn4.out]; omega)
  have HN1 : Hid (n1 ≤ 140) := hide (by have := HFW.out.lv; rw [← hn1.out]; omega)
  have HN3 : Hid (n3 ≤ 10) := hide (by have := HFW.out.ll; rw [← hn3.out]; omega)
  rw [hn1.out, hn2.out, hn3.out, hn4.out] at HP3 HQ3 HB3a HC3 hs3 HR3 ⊢
  have HS3 := hide hs3
  obtain ⟨S2, hS2⟩ : ∃ S, Hid (w3.heap.size = S) := ⟨_, hide rfl⟩
  obtain ⟨X3, hX3⟩ : ∃ X, Hid (w3.alloc (.cells #[.int .i64 q.size, .slice q.V n1 q.vc, .slice q.C n2 q.cc, .slice q.L n3 q.lc, .slice q.K n4 q.kc, .int .i64 q.inp, .int .i64 q.out] 27) = X) := ⟨_, hide rfl⟩
  rw [hX3.out] at HP3 HQ3 HB3a HC3 HR3
  rw [hS2.out] at HQ3 HBS3 HPLT
  have HS3x : Hid (Calls Tryd.prog 14 #[.agg #[.int .i64 p.size, .slice p.V m1 p.vc, .slice p.C m2 p.cc, .slice p.L m3 p.lc, .slice p.K m4 p.kc, .int .i64 p.inp, .int .i64 p.out], .agg #[.int .i64 q.size, .slice q.V n1 q.vc, .slice q.C n2 q.cc, .slice q.L n3 q.lc, .slice q.K n4 q.kc, .int .i64 q.inp, .int .i64 q.out]] X3 fun e w' => e = .returned (.bool true) ∧ Below X3.heap.size X3 w') := hide (by
    rw [← hX3.out]
    exact hs3)
  have HP2c := HP2
  have y0 : w3.cell? ⟨w.heap.size, 0, none⟩ = some (.int .i64 p.size) := (HP2c.out.below hb HP2c.out.lt).cell 0
  have y1 : w3.cell? ⟨w.heap.size, 1, none⟩ = some (.slice p.V m1 p.vc) := (HP2c.out.below hb HP2c.out.lt).cell 1
  have y2 : w3.cell? ⟨w.heap.size, 2, none⟩ = some (.slice p.C m2 p.cc) := (HP2c.out.below hb HP2c.out.lt).cell 2
  have y3 : w3.cell? ⟨w.heap.size, 3, none⟩ = some (.slice p.L m3 p.lc) := (HP2c.out.below hb HP2c.out.lt).cell 3
  have y4 : w3.cell? ⟨w.heap.size, 4, none⟩ = some (.slice p.K m4 p.kc) := (HP2c.out.below hb HP2c.out.lt).cell 4
  have y5 : w3.cell? ⟨w.heap.size, 5, none⟩ = some (.int .i64 p.inp) := (HP2c.out.below hb HP2c.out.lt).cell 5
  have y6 : w3.cell? ⟨w.heap.size, 6, none⟩ = some (.int .i64 p.out) := (HP2c.out.below hb HP2c.out.lt).cell 6
  have hlt3 : w.heap.size < w3.heap.size := (HP2c.out.below hb HP2c.out.lt).lt
  clear hpl hcl hb HB2 HP2 HCL e1 e2 e3 e4 hqin hs3 HSM HRS HP2c HS3
  go_wp2_with fail
  clear y0 y1 y2 y3 y4 y5 y6 hlt3
  rw [hS2.out, hX3.out]
  refine HS3x.out.mono ?_
  rintro e w4 ⟨rfl, hb⟩
  have HR4 := hide (HR3.out w4 hb)
  have HB4 := hide (HB3a.out.trans (hb.mono HB3a.out.size))
  have HP4 := hide (HP3.out.below hb HP3.out.lt)
  have HQ4 := hide (HQ3.out.below hb HQ3.out.lt)
  have HC4 := hide (HC3.out.grown (below_grown hb) (NotP.none _))
  have y0 : w4.cell? ⟨w.heap.size, 0, none⟩ = some (.int .i64 p.size) := HP4.out.cell 0
  have y1 : w4.cell? ⟨w.heap.size, 1, none⟩ = some (.slice p.V m1 p.vc) := HP4.out.cell 1
  have y2 : w4.cell? ⟨w.heap.size, 2, none⟩ = some (.slice p.C m2 p.cc) := HP4.out.cell 2
  have y3 : w4.cell? ⟨w.heap.size, 3, none⟩ = some (.slice p.L m3 p.lc) := HP4.out.cell 3
  have y4 : w4.cell? ⟨w.heap.size, 4, none⟩ = some (.slice p.K m4 p.kc) := HP4.out.cell 4
  have y5 : w4.cell? ⟨w.heap.size, 5, none⟩ = some (.int .i64 p.inp) := HP4.out.cell 5
  have y6 : w4.cell? ⟨w.heap.size, 6, none⟩ = some (.int .i64 p.out) := HP4.out.cell 6
  have z0 : w4.cell? ⟨S2, 0, none⟩ = some (.int .i64 q.size) := HQ4.out.cell 0
  have z1 : w4.cell? ⟨S2, 1, none⟩ = some (.slice q.V n1 q.vc) := HQ4.out.cell 1
  have z2 : w4.cell? ⟨S2, 2, none⟩ = some (.slice q.C n2 q.cc) := HQ4.out.cell 2
  have z3 : w4.cell? ⟨S2, 3, none⟩ = some (.slice q.L n3 q.lc) := HQ4.out.cell 3
  have z4 : w4.cell? ⟨S2, 4, none⟩ = some (.slice q.K n4 q.kc) := HQ4.out.cell 4
  have z5 : w4.cell? ⟨S2, 5, none⟩ = some (.int .i64 q.inp) := HQ4.out.cell 5
  have z6 : w4.cell? ⟨S2, 6, none⟩ = some (.int .i64 q.out) := HQ4.out.cell 6
  clear hb HS3x HR3 HB3a HP3 HQ3 HC3 hX3 hS2 HB3
  go_wp2_with fail
  refine HR4.out.mono ?_
  clear y0 y1 y2 y3 y4 y5 y6 z0 z1 z2 z3 z4 z5 z6
  rintro e w5 ⟨rfl, hb⟩
  have HB5 := hide (HB4.out.trans (hb.mono HB4.out.size))
  have HP5 := hide (HP4.out.below hb HP4.out.lt)
  have HQ5 := hide (HQ4.out.below hb HQ4.out.lt)
  have HC5 := hide (HC4.out.grown (below_grown hb) (NotP.none _))
  clear hb HR4 HB4 HP4 HQ4 HC4
  go_wp2_with fail
  refine (HNV.out w5).mono ?_
  rintro e w6 ⟨rfl, hw6⟩
  obtain rfl : w5 = w6 := hw6.symm
  clear HNV
  have hcase : kk = 0 ∨ kk = 1 ∨ kk = 2 ∨ kk = 3 := by have := HK8.out; omega
  clear HK8
  rcases hcase with rfl | rfl | rfl | rfl
  · obtain ⟨x, hx⟩ : ∃ y, Hid (flipI q.size = y) := ⟨_, hide rfl⟩
    have hx1 : bits .xor .i64 q.size 1 = x := by rw [xor_one, hx.out]
    have hne : x ≠ p.size := by rw [← hx.out, HZS.out]; exact flip_ne p.size HSZ.out
    have HBX : Hid (Below w.heap.size w (w5.setCell ⟨S2, 0, none⟩ (.int .i64 x))) := hide (HB5.out.setCell (by have h1 := HBASE.out; have h2 := HBS3.out; show w.heap.size ≤ S2; omega) _)
    have hp1 := (HC5.out.pw HLN.out).grown (grown_cell w5 ⟨S2, 0, none⟩ (.int .i64 x)) (NotP.plan HQ5.out)
    have HPW : Hid (Pw w2.heap.size w2.heap.size (w5.setCell ⟨S2, 0, none⟩ (.int .i64 x)) { q with size := x }) := hide ⟨hp1.V, hp1.vs, hp1.C, hp1.cs, hp1.L, hp1.ls, hp1.K, hp1.is⟩
    have HT : Hid ((Calls Tryd.prog 14 #[.agg #[.int .i64 p.size, .slice p.V m1 p.vc, .slice p.C m2 p.cc, .slice p.L m3 p.lc, .slice p.K m4 p.kc, .int .i64 p.inp, .int .i64 p.out], .agg #[.int .i64 x, .slice q.V n1 q.vc, .slice q.C n2 q.cc, .slice q.L n3 q.lc, .slice q.K n4 q.kc, .int .i64 q.inp, .int .i64 q.out]] (w5.setCell ⟨S2, 0, none⟩ (.int .i64 x)) fun e w' => e = .returned (.bool false) ∧ Below (w5.setCell ⟨S2, 0, none⟩ (.int .i64 x)).heap.size (w5.setCell ⟨S2, 0, none⟩ (.int .i64 x)) w') ∧ ∀ W9, Below (w5.setCell ⟨S2, 0, none⟩ (.int .i64 x)).heap.size (w5.setCell ⟨S2, 0, none⟩ (.int .i64 x)) W9 → Calls Tryd.prog 14 #[.agg #[.int .i64 x, .slice q.V n1 q.vc, .slice q.C n2 q.cc, .slice q.L n3 q.lc, .slice q.K n4 q.kc, .int .i64 q.inp, .int .i64 q.out], .agg #[.int .i64 p.size, .slice p.V m1 p.vc, .slice p.C m2 p.cc, .slice p.L m3 p.lc, .slice p.K m4 p.kc, .int .i64 p.inp, .int .i64 p.out]] W9 fun e w' => e = .returned (.bool false) ∧ Below w.heap.size w w') := hide (by
      have h := HNO.out HFW.out { q with size := x } (w5.setCell ⟨S2, 0, none⟩ (.int .i64 x)) HBX.out (HPW.out.in_ HLN.out.v HLN.out.c HLN.out.l HLN.out.k) (pl_size x hne)
      dsimp only at h
      rw [hn1.out, hn2.out, hn3.out, hn4.out] at h
      exact h)
    have HT1 := hide HT.out.1
    have HT2 := hide HT.out.2
    have HPX : Hid (Has (w5.setCell ⟨S2, 0, none⟩ (.int .i64 x)) w.heap.size 27 [.int .i64 p.size, .slice p.V m1 p.vc, .slice p.C m2 p.cc, .slice p.L m3 p.lc, .slice p.K m4 p.kc, .int .i64 p.inp, .int .i64 p.out]) := hide (HP5.out.far (by have h1 := HBASE.out; have h2 := HBS3.out; have h3 := HPLT.out; show w.heap.size ≠ S2; omega) _)
    have HQX : Hid (Has (w5.setCell ⟨S2, 0, none⟩ (.int .i64 x)) S2 27 [.int .i64 x, .slice q.V n1 q.vc, .slice q.C n2 q.cc, .slice q.L n3 q.lc, .slice q.K n4 q.kc, .int .i64 q.inp, .int .i64 q.out]) := hide (HQ5.out.set_ 0 _)
    have q0 := HQ5.out.cell 0
    have f0 := HQ5.out.frozen 0
    have y0 : (w5.setCell ⟨S2, 0, none⟩ (.int .i64 x)).cell? ⟨w.heap.size, 0, none⟩ = some (.int .i64 p.size) := HPX.out.cell 0
    have y1 : (w5.setCell ⟨S2, 0, none⟩ (.int .i64 x)).cell? ⟨w.heap.size, 1, none⟩ = some (.slice p.V m1 p.vc) := HPX.out.cell 1
    have y2 : (w5.setCell ⟨S2, 0, none⟩ (.int .i64 x)).cell? ⟨w.heap.size, 2, none⟩ = some (.slice p.C m2 p.cc) := HPX.out.cell 2
    have y3 : (w5.setCell ⟨S2, 0, none⟩ (.int .i64 x)).cell? ⟨w.heap.size, 3, none⟩ = some (.slice p.L m3 p.lc) := HPX.out.cell 3
    have y4 : (w5.setCell ⟨S2, 0, none⟩ (.int .i64 x)).cell? ⟨w.heap.size, 4, none⟩ = some (.slice p.K m4 p.kc) := HPX.out.cell 4
    have y5 : (w5.setCell ⟨S2, 0, none⟩ (.int .i64 x)).cell? ⟨w.heap.size, 5, none⟩ = some (.int .i64 p.inp) := HPX.out.cell 5
    have y6 : (w5.setCell ⟨S2, 0, none⟩ (.int .i64 x)).cell? ⟨w.heap.size, 6, none⟩ = some (.int .i64 p.out) := HPX.out.cell 6
    have z0 : (w5.setCell ⟨S2, 0, none⟩ (.int .i64 x)).cell? ⟨S2, 0, none⟩ = some (.int .i64 x) := HQX.out.cell 0
    have z1 : (w5.setCell ⟨S2, 0, none⟩ (.int .i64 x)).cell? ⟨S2, 1, none⟩ = some (.slice q.V n1 q.vc) := HQX.out.cell 1
    have z2 : (w5.setCell ⟨S2, 0, none⟩ (.int .i64 x)).cell? ⟨S2, 2, none⟩ = some (.slice q.C n2 q.cc) := HQX.out.cell 2
    have z3 : (w5.setCell ⟨S2, 0, none⟩ (.int .i64 x)).cell? ⟨S2, 3, none⟩ = some (.slice q.L n3 q.lc) := HQX.out.cell 3
    have z4 : (w5.setCell ⟨S2, 0, none⟩ (.int .i64 x)).cell? ⟨S2, 4, none⟩ = some (.slice q.K n4 q.kc) := HQX.out.cell 4
    have z5 : (w5.setCell ⟨S2, 0, none⟩ (.int .i64 x)).cell? ⟨S2, 5, none⟩ = some (.int .i64 q.inp) := HQX.out.cell 5
    have z6 : (w5.setCell ⟨S2, 0, none⟩ (.int .i64 x)).cell? ⟨S2, 6, none⟩ = some (.int .i64 q.out) := HQX.out.cell 6
    have c0 : w5.cell? ⟨w.heap.size, 0, none⟩ = some (.int .i64 p.size) := HP5.out.cell 0
    have c1 : w5.cell? ⟨w.heap.size, 1, none⟩ = some (.slice p.V m1 p.vc) := HP5.out.cell 1
    have c2 : w5.cell? ⟨w.heap.size, 2, none⟩ = some (.slice p.C m2 p.cc) := HP5.out.cell 2
    have c3 : w5.cell? ⟨w.heap.size, 3, none⟩ = some (.slice p.L m3 p.lc) := HP5.out.cell 3
    have c4 : w5.cell? ⟨w.heap.size, 4, none⟩ = some (.slice p.K m4 p.kc) := HP5.out.cell 4
    have c5 : w5.cell? ⟨w.heap.size, 5, none⟩ = some (.int .i64 p.inp) := HP5.out.cell 5
    have c6 : w5.cell? ⟨w.heap.size, 6, none⟩ = some (.int .i64 p.out) := HP5.out.cell 6
    have d1 : w5.cell? ⟨S2, 1, none⟩ = some (.slice q.V n1 q.vc) := HQ5.out.cell 1
    have d2 : w5.cell? ⟨S2, 2, none⟩ = some (.slice q.C n2 q.cc) := HQ5.out.cell 2
    have d3 : w5.cell? ⟨S2, 3, none⟩ = some (.slice q.L n3 q.lc) := HQ5.out.cell 3
    have d4 : w5.cell? ⟨S2, 4, none⟩ = some (.slice q.K n4 q.kc) := HQ5.out.cell 4
    have d5 : w5.cell? ⟨S2, 5, none⟩ = some (.int .i64 q.inp) := HQ5.out.cell 5
    have d6 : w5.cell? ⟨S2, 6, none⟩ = some (.int .i64 q.out) := HQ5.out.cell 6
    simp only [List.getElem?_cons_zero] at q0
    have hlS := HQ5.out.lt
    clear hp1 HPW HT hne HBX HC5 HP5 HQ5 HB5 HNO HIN
    go_wp2_with fail
    clear y0 y1 y2 y3 y4 y5 y6 z0 z1 z2 z3 z4 z5 z6 c0 c1 c2 c3 c4 c5 c6 d1 d2 d3 d4 d5 d6 q0 f0 hx1 hlS
    refine HT1.out.mono ?_
    rintro e w7 ⟨rfl, hb⟩
    have HT3 := hide (HT2.out w7 hb)
    have y0 : w7.cell? ⟨w.heap.size, 0, none⟩ = some (.int .i64 p.size) := (HPX.out.below hb HPX.out.lt).cell 0
    have y1 : w7.cell? ⟨w.heap.size, 1, none⟩ = some (.slice p.V m1 p.vc) := (HPX.out.below hb HPX.out.lt).cell 1
    have y2 : w7.cell? ⟨w.heap.size, 2, none⟩ = some (.slice p.C m2 p.cc) := (HPX.out.below hb HPX.out.lt).cell 2
    have y3 : w7.cell? ⟨w.heap.size, 3, none⟩ = some (.slice p.L m3 p.lc) := (HPX.out.below hb HPX.out.lt).cell 3
    have y4 : w7.cell? ⟨w.heap.size, 4, none⟩ = some (.slice p.K m4 p.kc) := (HPX.out.below hb HPX.out.lt).cell 4
    have y5 : w7.cell? ⟨w.heap.size, 5, none⟩ = some (.int .i64 p.inp) := (HPX.out.below hb HPX.out.lt).cell 5
    have y6 : w7.cell? ⟨w.heap.size, 6, none⟩ = some (.int .i64 p.out) := (HPX.out.below hb HPX.out.lt).cell 6
    have z0 : w7.cell? ⟨S2, 0, none⟩ = some (.int .i64 x) := (HQX.out.below hb HQX.out.lt).cell 0
    have z1 : w7.cell? ⟨S2, 1, none⟩ = some (.slice q.V n1 q.vc) := (HQX.out.below hb HQX.out.lt).cell 1
    have z2 : w7.cell? ⟨S2, 2, none⟩ = some (.slice q.C n2 q.cc) := (HQX.out.below hb HQX.out.lt).cell 2
    have z3 : w7.cell? ⟨S2, 3, none⟩ = some (.slice q.L n3 q.lc) := (HQX.out.below hb HQX.out.lt).cell 3
    have z4 : w7.cell? ⟨S2, 4, none⟩ = some (.slice q.K n4 q.kc) := (HQX.out.below hb HQX.out.lt).cell 4
    have z5 : w7.cell? ⟨S2, 5, none⟩ = some (.int .i64 q.inp) := (HQX.out.below hb HQX.out.lt).cell 5
    have z6 : w7.cell? ⟨S2, 6, none⟩ = some (.int .i64 q.out) := (HQX.out.below hb HQX.out.lt).cell 6
    clear hb HT1 HT2 HPX HQX
    go_wp2_with fail
    refine HT3.out.mono ?_
    rintro e w8 ⟨rfl, hb⟩
    have HBE := hide hb
    clear hb HT3 y0 y1 y2 y3 y4 y5 y6 z0 z1 z2 z3 z4 z5 z6
    go_wp2_with fail
    go_ret
    exact ⟨rfl, HBE.out⟩
  · obtain ⟨g, eg, hg0, hg1⟩ := HC5.out.K
    have EG := hide eg
    have HG := hide hg1
    have HG0 := hide hg0
    have hcc : q.kc = n4 := by rw [HC5.out.kc, hn4.out]
    have HQ5b : Hid (Has w5 S2 27 [.int .i64 q.size, .slice q.V n1 q.vc, .slice q.C n2 q.cc, .slice q.L n3 q.lc, .slice (some ⟨g, 0, none⟩) n4 n4, .int .i64 q.inp, .int .i64 q.out]) := hide (by
      have h := HQ5.out
      rw [eg, hcc] at h
      exact h)
    have HCC := hide hcc
    clear eg hg0 hg1 hcc HQ5
    have d4 : w5.cell? ⟨S2, 4, none⟩ = some (.slice (some ⟨g, 0, none⟩) n4 n4) := HQ5b.out.cell 4
    by_cases hz : n4 = 0
    · subst hz
      clear HNO HC5 HG HG0 HP5 HQ5b
      go_wp2_with fail
      go_ret
      exact ⟨rfl, HB5.out⟩
    have hpos : 0 < n4 := by omega
    have hnz : ¬ (n4 : Int) = 0 := by omega
    have hnzb : ((n4 : Int) == 0) = false := by rw [beq_eq_false_iff_ne]; exact hnz
    have HNN := hide (fun W : World => number_v at0 n4 hpos (by have := HN4.out; omega) n4 rfl W)
    have hkl := numv_lt at0 n4 hpos
    obtain ⟨k, hk⟩ : ∃ k, Hid (numv at0 n4 = k) := ⟨_, hide rfl⟩
    rw [hk.out] at HNN hkl
    have hkl2 : (k : Int) < n4 := by omega
    obtain ⟨y, hy⟩ : ∃ y, q.is[k]? = some y := ⟨_, List.getElem?_eq_getElem (by rw [hn4.out]; exact hkl)⟩
    have HY := hide hy
    clear hk hy hz hpos
    have HSD : Hid (w5.drew.cell? ⟨S2, 4, none⟩ = some (.slice (some ⟨g, 0, none⟩) n4 n4)) := hide d4
    go_wp2_with fail
    go_region_held3 (fun W => W.cell? ⟨S2, 4, none⟩ = some (.slice (some ⟨g, 0, none⟩) n4 n4))
      (first | with_reducible exact HSD.out)
      (first | (go_at_call 13; (with_reducible refine (HNN.out _).mono ?_); rintro e W6 ⟨rfl, hw⟩; obtain rfl := hw))
    have HB5d := hide HB5.out.drew
    have HP5d := hide (HP5.out.drewN 1)
    have HQ5d := hide (HQ5b.out.drewN 1)
    have HC5d := hide (HC5.out.grown (below_grown ((Below.refl w5.heap.size w5).drew)) (NotP.none _))
    have HGd := hide (HG.out.drewN 1)
    obtain ⟨W, hW⟩ : ∃ W, Hid (w5.drew = W) := ⟨_, hide rfl⟩
    have HB5d : Hid (Below w.heap.size w w5.drew) := HB5d
    have HP5d : Hid (Has w5.drew w.heap.size 27 [.int .i64 p.size, .slice p.V m1 p.vc, .slice p.C m2 p.cc, .slice p.L m3 p.lc, .slice p.K m4 p.kc, .int .i64 p.inp, .int .i64 p.out]) := HP5d
    have HQ5d : Hid (Has w5.drew S2 27 [.int .i64 q.size, .slice q.V n1 q.vc, .slice q.C n2 q.cc, .slice q.L n3 q.lc, .slice (some ⟨g, 0, none⟩) n4 n4, .int .i64 q.inp, .int .i64 q.out]) := HQ5d
    have HC5d : Hid (Pn.Cl w2.heap.size w5.drew q) := HC5d
    have HGd : Hid (Has w5.drew g 48 (q.is.flatMap Ins.vals)) := HGd
    rw [hW.out] at HB5d HP5d HQ5d HC5d HGd ⊢
    clear hW HSD HNN d4 HB5 HP5 HQ5b HC5 HG hnz hnzb
    obtain ⟨m, hm⟩ : ∃ n, Hid (y.gs.length = n) := ⟨_, hide rfl⟩
    have hym := List.mem_of_getElem? HY.out
    have hown := (HC5d.out.is y hym).own
    have HM10 : Hid (m ≤ 10) := hide (by rw [← hm.out]; exact HL10.out y hym)
    have HCA := hide (HC5d.out.grown (below_grown ((Below.refl W.heap.size W).alloc (Nat.le_refl _) (.cells #[.int .i64 1] 3))) (NotP.none _))
    have HBA := hide (HB5d.out.alloc HB5d.out.size (.cells #[.int .i64 1] 3))
    have HPA := hide (HP5d.out.alloc (.cells #[.int .i64 1] 3))
    have HQA := hide (HQ5d.out.alloc (.cells #[.int .i64 1] 3))
    have HGA := hide (HGd.out.alloc (.cells #[.int .i64 1] 3))
    have hownA := hown.alloc (.cells #[.int .i64 1] 3)
    rw [hm.out] at hownA
    have HOA := hide hownA
    have HNR := hide (new_ri W 3 [1] (fun y hy => by rw [List.mem_singleton.1 hy]; omega))
    have hn3x := hide (show m + 1 ≤ 1000000000000 by have := HM10.out; omega)
    have hsA : Hid (w2.heap.size ≤ (W.alloc (.cells #[.int .i64 1] 3)).heap.size) := hide (by have h1 := HGA.out.lt; have h2 := HG0.out; omega)
    have o3 : W.cell? ⟨g, k * 6 + 3, none⟩ = some (.slice y.G m y.gc) := by rw [← hm.out, HGd.out.cell, flat_at Ins.vals 6 q.is (fun _ _ => rfl) k y HY.out 3 (by decide)]; rfl
    have hlg := HGd.out.lt
    clear hown hownA hym HC5d HB5d HP5d HQ5d HGd
    go_wp2_with (at_builtin; refine wpList_append_is rfl (.tmp 66) (.tmp 67) rfl w2.heap.size (.slice y.G m y.gc) m (i64s y.gs) rfl HOA.out (some ⟨W.heap.size, 0, none⟩) 1 1 [1] rfl (hide rfl) HNR.out hn3x.out hsA.out ?_)
    intro v4 W4 i1 i2 i3
    clear o3 hlg
    have i1' : W4.ownsRow w2.heap.size 3 1 v4 (y.gs.length + 1) (i64s (y.gs ++ [1])) := by rw [hm.out]; simpa [i64s] using i1
    have i2' : World.grownBy (W.alloc (.cells #[.int .i64 1] 3)) W4 (Value.slice y.G y.gs.length y.gc).ownBlock := by rw [hm.out]; exact i2
    obtain ⟨G, gc, hv4, hpw⟩ := HCA.out.more HLN.out EG.out HY.out i2' i1' (HL10.out y (List.mem_of_getElem? HY.out))
    subst hv4
    have nA : ∀ t cs b, t ≠ 3 → Has (W.alloc (.cells #[.int .i64 1] 3)) b t cs → some b ≠ (Value.slice y.G m y.gc).ownBlock := fun t cs b ht hh e => NotT.own HOA.out ht _ e.symm _ hh
    have HP4 := hide (HPA.out.grown i2 (nA _ _ _ (by decide) HPA.out))
    have HQ4 := hide (HQA.out.grown i2 (nA _ _ _ (by decide) HQA.out))
    have HG4 := hide (HGA.out.grown i2 (nA _ _ _ (by decide) HGA.out))
    have HB4 := hide (elm_grown HBA.out (own_lower HOA.out HBASE.out) HBA.out.size i2)
    rw [hm.out] at hpw ⊢
    have HPWR := hide hpw
    clear i1 i1' i2 i2' i3 nA hpw HCA HBA HPA HQA HGA HOA HNR hn3x hsA
    have HBX : Hid (Below w.heap.size w (W4.setCell ⟨g, k * 6 + 3, none⟩ (.slice G (m + 1) gc))) := hide (HB4.out.setCell (by have h1 := HBASE.out; have h2 := HG0.out; show w.heap.size ≤ g; omega) _)
    have hgn : g ≠ w.heap.size := by intro e; have h1 := HG4.out; have h2 := HP4.out; rw [e] at h1; unfold Has at h1 h2; rw [h1] at h2; injection h2 with h2; injection h2 with _ h3; revert h3; decide
    have hgn2 : g ≠ S2 := by intro e; have h1 := HG4.out; have h2 := HQ4.out; rw [e] at h1; unfold Has at h1 h2; rw [h1] at h2; injection h2 with h2; injection h2 with _ h3; revert h3; decide
    have HPW : Hid (Pw w2.heap.size w2.heap.size (W4.setCell ⟨g, k * 6 + 3, none⟩ (.slice G (m + 1) gc)) { q with is := q.is.set k ⟨y.op, y.dst, y.I, y.is, y.ic, G, y.gs ++ [1], gc, y.fr, y.to⟩ }) := hide HPWR.out
    have HT : Hid ((Calls Tryd.prog 14 #[.agg #[.int .i64 p.size, .slice p.V m1 p.vc, .slice p.C m2 p.cc, .slice p.L m3 p.lc, .slice p.K m4 p.kc, .int .i64 p.inp, .int .i64 p.out], .agg #[.int .i64 q.size, .slice q.V n1 q.vc, .slice q.C n2 q.cc, .slice q.L n3 q.lc, .slice (some ⟨g, 0, none⟩) n4 n4, .int .i64 q.inp, .int .i64 q.out]] (W4.setCell ⟨g, k * 6 + 3, none⟩ (.slice G (m + 1) gc)) fun e w' => e = .returned (.bool false) ∧ Below (W4.setCell ⟨g, k * 6 + 3, none⟩ (.slice G (m + 1) gc)).heap.size (W4.setCell ⟨g, k * 6 + 3, none⟩ (.slice G (m + 1) gc)) w') ∧ ∀ W9, Below (W4.setCell ⟨g, k * 6 + 3, none⟩ (.slice G (m + 1) gc)).heap.size (W4.setCell ⟨g, k * 6 + 3, none⟩ (.slice G (m + 1) gc)) W9 → Calls Tryd.prog 14 #[.agg #[.int .i64 q.size, .slice q.V n1 q.vc, .slice q.C n2 q.cc, .slice q.L n3 q.lc, .slice (some ⟨g, 0, none⟩) n4 n4, .int .i64 q.inp, .int .i64 q.out], .agg #[.int .i64 p.size, .slice p.V m1 p.vc, .slice p.C m2 p.cc, .slice p.L m3 p.lc, .slice p.K m4 p.kc, .int .i64 p.inp, .int .i64 p.out]] W9 fun e w' => e = .returned (.bool false) ∧ Below w.heap.size w w') := hide (by
      have h := HNO.out HFW.out { q with is := q.is.set k ⟨y.op, y.dst, y.I, y.is, y.ic, G, y.gs ++ [1], gc, y.fr, y.to⟩ } (W4.setCell ⟨g, k * 6 + 3, none⟩ (.slice G (m + 1) gc)) HBX.out (HPW.out.in_ HLN.out.v HLN.out.c HLN.out.l (by show (q.is.set k _).length ≤ 1000000; rw [List.length_set]; exact HLN.out.k)) (pl_arg HPL.out HY.out G gc)
      dsimp only at h
      rw [List.length_set, hn1.out, hn2.out, hn3.out, hn4.out, EG.out, HCC.out] at h
      exact h)
    have HT1 := hide HT.out.1
    have HT2 := hide HT.out.2
    have HPX : Hid (Has (W4.setCell ⟨g, k * 6 + 3, none⟩ (.slice G (m + 1) gc)) w.heap.size 27 [.int .i64 p.size, .slice p.V m1 p.vc, .slice p.C m2 p.cc, .slice p.L m3 p.lc, .slice p.K m4 p.kc, .int .i64 p.inp, .int .i64 p.out]) := hide (HP4.out.far hgn.symm _)
    have HQX : Hid (Has (W4.setCell ⟨g, k * 6 + 3, none⟩ (.slice G (m + 1) gc)) S2 27 [.int .i64 q.size, .slice q.V n1 q.vc, .slice q.C n2 q.cc, .slice q.L n3 q.lc, .slice (some ⟨g, 0, none⟩) n4 n4, .int .i64 q.inp, .int .i64 q.out]) := hide (HQ4.out.far hgn2.symm _)
    have o2 : W4.cell? ⟨g, k * 6 + 3, none⟩ = some (.slice y.G m y.gc) := by rw [← hm.out, HG4.out.cell, flat_at Ins.vals 6 q.is (fun _ _ => rfl) k y HY.out 3 (by decide)]; rfl
    have f2 := HG4.out.frozen (k * 6 + 3)
    have y0 : (W4.setCell ⟨g, k * 6 + 3, none⟩ (.slice G (m + 1) gc)).cell? ⟨w.heap.size, 0, none⟩ = some (.int .i64 p.size) := HPX.out.cell 0
    have y1 : (W4.setCell ⟨g, k * 6 + 3, none⟩ (.slice G (m + 1) gc)).cell? ⟨w.heap.size, 1, none⟩ = some (.slice p.V m1 p.vc) := HPX.out.cell 1
    have y2 : (W4.setCell ⟨g, k * 6 + 3, none⟩ (.slice G (m + 1) gc)).cell? ⟨w.heap.size, 2, none⟩ = some (.slice p.C m2 p.cc) := HPX.out.cell 2
    have y3 : (W4.setCell ⟨g, k * 6 + 3, none⟩ (.slice G (m + 1) gc)).cell? ⟨w.heap.size, 3, none⟩ = some (.slice p.L m3 p.lc) := HPX.out.cell 3
    have y4 : (W4.setCell ⟨g, k * 6 + 3, none⟩ (.slice G (m + 1) gc)).cell? ⟨w.heap.size, 4, none⟩ = some (.slice p.K m4 p.kc) := HPX.out.cell 4
    have y5 : (W4.setCell ⟨g, k * 6 + 3, none⟩ (.slice G (m + 1) gc)).cell? ⟨w.heap.size, 5, none⟩ = some (.int .i64 p.inp) := HPX.out.cell 5
    have y6 : (W4.setCell ⟨g, k * 6 + 3, none⟩ (.slice G (m + 1) gc)).cell? ⟨w.heap.size, 6, none⟩ = some (.int .i64 p.out) := HPX.out.cell 6
    have z0 : (W4.setCell ⟨g, k * 6 + 3, none⟩ (.slice G (m + 1) gc)).cell? ⟨S2, 0, none⟩ = some (.int .i64 q.size) := HQX.out.cell 0
    have z1 : (W4.setCell ⟨g, k * 6 + 3, none⟩ (.slice G (m + 1) gc)).cell? ⟨S2, 1, none⟩ = some (.slice q.V n1 q.vc) := HQX.out.cell 1
    have z2 : (W4.setCell ⟨g, k * 6 + 3, none⟩ (.slice G (m + 1) gc)).cell? ⟨S2, 2, none⟩ = some (.slice q.C n2 q.cc) := HQX.out.cell 2
    have z3 : (W4.setCell ⟨g, k * 6 + 3, none⟩ (.slice G (m + 1) gc)).cell? ⟨S2, 3, none⟩ = some (.slice q.L n3 q.lc) := HQX.out.cell 3
    have z4 : (W4.setCell ⟨g, k * 6 + 3, none⟩ (.slice G (m + 1) gc)).cell? ⟨S2, 4, none⟩ = some (.slice (some ⟨g, 0, none⟩) n4 n4) := HQX.out.cell 4
    have z5 : (W4.setCell ⟨g, k * 6 + 3, none⟩ (.slice G (m + 1) gc)).cell? ⟨S2, 5, none⟩ = some (.int .i64 q.inp) := HQX.out.cell 5
    have z6 : (W4.setCell ⟨g, k * 6 + 3, none⟩ (.slice G (m + 1) gc)).cell? ⟨S2, 6, none⟩ = some (.int .i64 q.out) := HQX.out.cell 6
    have c0 : W4.cell? ⟨w.heap.size, 0, none⟩ = some (.int .i64 p.size) := HP4.out.cell 0
    have c1 : W4.cell? ⟨w.heap.size, 1, none⟩ = some (.slice p.V m1 p.vc) := HP4.out.cell 1
    have c2 : W4.cell? ⟨w.heap.size, 2, none⟩ = some (.slice p.C m2 p.cc) := HP4.out.cell 2
    have c3 : W4.cell? ⟨w.heap.size, 3, none⟩ = some (.slice p.L m3 p.lc) := HP4.out.cell 3
    have c4 : W4.cell? ⟨w.heap.size, 4, none⟩ = some (.slice p.K m4 p.kc) := HP4.out.cell 4
    have c5 : W4.cell? ⟨w.heap.size, 5, none⟩ = some (.int .i64 p.inp) := HP4.out.cell 5
    have c6 : W4.cell? ⟨w.heap.size, 6, none⟩ = some (.int .i64 p.out) := HP4.out.cell 6
    have d0 : W4.cell? ⟨S2, 0, none⟩ = some (.int .i64 q.size) := HQ4.out.cell 0
    have d1 : W4.cell? ⟨S2, 1, none⟩ = some (.slice q.V n1 q.vc) := HQ4.out.cell 1
    have d2 : W4.cell? ⟨S2, 2, none⟩ = some (.slice q.C n2 q.cc) := HQ4.out.cell 2
    have d3 : W4.cell? ⟨S2, 3, none⟩ = some (.slice q.L n3 q.lc) := HQ4.out.cell 3
    have d4 : W4.cell? ⟨S2, 4, none⟩ = some (.slice (some ⟨g, 0, none⟩) n4 n4) := HQ4.out.cell 4
    have d5 : W4.cell? ⟨S2, 5, none⟩ = some (.int .i64 q.inp) := HQ4.out.cell 5
    have d6 : W4.cell? ⟨S2, 6, none⟩ = some (.int .i64 q.out) := HQ4.out.cell 6
    have hlg := HG4.out.lt
    clear HPW HT HBX HB4 HNO HIN HG4 hkl hkl2 HP4 HQ4 HPWR
    go_wp2_with fail
    clear y0 y1 y2 y3 y4 y5 y6 z0 z1 z2 z3 z4 z5 z6 c0 c1 c2 c3 c4 c5 c6 d0 d1 d2 d3 d4 d5 d6 o2 f2 hlg hgn hgn2
    refine HT1.out.mono ?_
    rintro e w7 ⟨rfl, hb⟩
    have HT3 := hide (HT2.out w7 hb)
    have y0 : w7.cell? ⟨w.heap.size, 0, none⟩ = some (.int .i64 p.size) := (HPX.out.below hb HPX.out.lt).cell 0
    have y1 : w7.cell? ⟨w.heap.size, 1, none⟩ = some (.slice p.V m1 p.vc) := (HPX.out.below hb HPX.out.lt).cell 1
    have y2 : w7.cell? ⟨w.heap.size, 2, none⟩ = some (.slice p.C m2 p.cc) := (HPX.out.below hb HPX.out.lt).cell 2
    have y3 : w7.cell? ⟨w.heap.size, 3, none⟩ = some (.slice p.L m3 p.lc) := (HPX.out.below hb HPX.out.lt).cell 3
    have y4 : w7.cell? ⟨w.heap.size, 4, none⟩ = some (.slice p.K m4 p.kc) := (HPX.out.below hb HPX.out.lt).cell 4
    have y5 : w7.cell? ⟨w.heap.size, 5, none⟩ = some (.int .i64 p.inp) := (HPX.out.below hb HPX.out.lt).cell 5
    have y6 : w7.cell? ⟨w.heap.size, 6, none⟩ = some (.int .i64 p.out) := (HPX.out.below hb HPX.out.lt).cell 6
    have z0 : w7.cell? ⟨S2, 0, none⟩ = some (.int .i64 q.size) := (HQX.out.below hb HQX.out.lt).cell 0
    have z1 : w7.cell? ⟨S2, 1, none⟩ = some (.slice q.V n1 q.vc) := (HQX.out.below hb HQX.out.lt).cell 1
    have z2 : w7.cell? ⟨S2, 2, none⟩ = some (.slice q.C n2 q.cc) := (HQX.out.below hb HQX.out.lt).cell 2
    have z3 : w7.cell? ⟨S2, 3, none⟩ = some (.slice q.L n3 q.lc) := (HQX.out.below hb HQX.out.lt).cell 3
    have z4 : w7.cell? ⟨S2, 4, none⟩ = some (.slice (some ⟨g, 0, none⟩) n4 n4) := (HQX.out.below hb HQX.out.lt).cell 4
    have z5 : w7.cell? ⟨S2, 5, none⟩ = some (.int .i64 q.inp) := (HQX.out.below hb HQX.out.lt).cell 5
    have z6 : w7.cell? ⟨S2, 6, none⟩ = some (.int .i64 q.out) := (HQX.out.below hb HQX.out.lt).cell 6
    clear hb HT1 HT2 HPX HQX
    go_wp2_with fail
    refine HT3.out.mono ?_
    rintro e w8 ⟨rfl, hb⟩
    have HBE := hide hb
    clear hb HT3 y0 y1 y2 y3 y4 y5 y6 z0 z1 z2 z3 z4 z5 z6
    go_wp2_with fail
    go_ret
    exact ⟨rfl, HBE.out⟩
  · obtain ⟨g, eg, hg0, hg1⟩ := HC5.out.V
    have EG := hide eg
    have HG := hide hg1
    have HG0 := hide hg0
    have hcc : q.vc = n1 := by rw [HC5.out.vc, hn1.out]
    have HQ5b : Hid (Has w5 S2 27 [.int .i64 q.size, .slice (some ⟨g, 0, none⟩) n1 n1, .slice q.C n2 q.cc, .slice q.L n3 q.lc, .slice q.K n4 q.kc, .int .i64 q.inp, .int .i64 q.out]) := hide (by
      have h := HQ5.out
      rw [eg, hcc] at h
      exact h)
    have HCC := hide hcc
    clear eg hg0 hg1 hcc HQ5
    have d1 : w5.cell? ⟨S2, 1, none⟩ = some (.slice (some ⟨g, 0, none⟩) n1 n1) := HQ5b.out.cell 1
    by_cases hz : n1 = 0
    · subst hz
      clear HNO HC5 HG HG0 HP5 HQ5b
      go_wp2_with fail
      go_ret
      exact ⟨rfl, HB5.out⟩
    have hpos : 0 < n1 := by omega
    have hnz : ¬ (n1 : Int) = 0 := by omega
    have hnzb : ((n1 : Int) == 0) = false := by rw [beq_eq_false_iff_ne]; exact hnz
    have HNN := hide (fun W : World => number_v at0 n1 hpos (by have := HN1.out; omega) n1 rfl W)
    have hkl := numv_lt at0 n1 hpos
    obtain ⟨k, hk⟩ : ∃ k, Hid (numv at0 n1 = k) := ⟨_, hide rfl⟩
    rw [hk.out] at HNN hkl
    have hkl2 : (k : Int) < n1 := by omega
    obtain ⟨y, hy⟩ : ∃ y, q.vs[k]? = some y := ⟨_, List.getElem?_eq_getElem (by rw [hn1.out]; exact hkl)⟩
    have HY := hide hy
    clear hk hy hz hpos
    have HSD : Hid (w5.drew.cell? ⟨S2, 1, none⟩ = some (.slice (some ⟨g, 0, none⟩) n1 n1)) := hide d1
    go_wp2_with fail
    go_region_held3 (fun W => W.cell? ⟨S2, 1, none⟩ = some (.slice (some ⟨g, 0, none⟩) n1 n1))
      (first | with_reducible exact HSD.out)
      (first | (go_at_call 13; (with_reducible refine (HNN.out _).mono ?_); rintro e W6 ⟨rfl, hw⟩; obtain rfl := hw))
    have HB5d := hide HB5.out.drew
    have HP5d := hide (HP5.out.drewN 1)
    have HQ5d := hide (HQ5b.out.drewN 1)
    have HC5d := hide (HC5.out.grown (below_grown ((Below.refl w5.heap.size w5).drew)) (NotP.none _))
    have HGd := hide (HG.out.drewN 1)
    obtain ⟨W, hW⟩ : ∃ W, Hid (w5.drew = W) := ⟨_, hide rfl⟩
    have HB5d : Hid (Below w.heap.size w w5.drew) := HB5d
    have HP5d : Hid (Has w5.drew w.heap.size 27 [.int .i64 p.size, .slice p.V m1 p.vc, .slice p.C m2 p.cc, .slice p.L m3 p.lc, .slice p.K m4 p.kc, .int .i64 p.inp, .int .i64 p.out]) := HP5d
    have HQ5d : Hid (Has w5.drew S2 27 [.int .i64 q.size, .slice (some ⟨g, 0, none⟩) n1 n1, .slice q.C n2 q.cc, .slice q.L n3 q.lc, .slice q.K n4 q.kc, .int .i64 q.inp, .int .i64 q.out]) := HQ5d
    have HC5d : Hid (Pn.Cl w2.heap.size w5.drew q) := HC5d
    have HGd : Hid (Has w5.drew g 61 (q.vs.flatMap Vw.vals)) := HGd
    rw [hW.out] at HB5d HP5d HQ5d HC5d HGd ⊢
    clear hW HSD HNN d1 HB5 HP5 HQ5b HC5 HG hnz hnzb
    have HBX : Hid (Below w.heap.size w (W.setCell ⟨g, k * 3 + 2, none⟩ (.bool (!y.d.u)))) := hide (HB5d.out.setCell (by have h1 := HBASE.out; have h2 := HG0.out; show w.heap.size ≤ g; omega) _)
    have hgn : g ≠ w.heap.size := by intro e; have h1 := HGd.out; have h2 := HP5d.out; rw [e] at h1; unfold Has at h1 h2; rw [h1] at h2; injection h2 with h2; injection h2 with _ h3; revert h3; decide
    have hgn2 : g ≠ S2 := by intro e; have h1 := HGd.out; have h2 := HQ5d.out; rw [e] at h1; unfold Has at h1 h2; rw [h1] at h2; injection h2 with h2; injection h2 with _ h3; revert h3; decide
    have HPW : Hid (Pw w2.heap.size w2.heap.size (W.setCell ⟨g, k * 3 + 2, none⟩ (.bool (!y.d.u))) { q with vs := q.vs.set k ⟨y.off, ⟨y.d.P, y.d.zs, y.d.cap, !y.d.u⟩⟩ }) := hide (HC5d.out.turned HLN.out EG.out HY.out (!y.d.u))
    have HT : Hid ((Calls Tryd.prog 14 #[.agg #[.int .i64 p.size, .slice p.V m1 p.vc, .slice p.C m2 p.cc, .slice p.L m3 p.lc, .slice p.K m4 p.kc, .int .i64 p.inp, .int .i64 p.out], .agg #[.int .i64 q.size, .slice (some ⟨g, 0, none⟩) n1 n1, .slice q.C n2 q.cc, .slice q.L n3 q.lc, .slice q.K n4 q.kc, .int .i64 q.inp, .int .i64 q.out]] (W.setCell ⟨g, k * 3 + 2, none⟩ (.bool (!y.d.u))) fun e w' => e = .returned (.bool false) ∧ Below (W.setCell ⟨g, k * 3 + 2, none⟩ (.bool (!y.d.u))).heap.size (W.setCell ⟨g, k * 3 + 2, none⟩ (.bool (!y.d.u))) w') ∧ ∀ W9, Below (W.setCell ⟨g, k * 3 + 2, none⟩ (.bool (!y.d.u))).heap.size (W.setCell ⟨g, k * 3 + 2, none⟩ (.bool (!y.d.u))) W9 → Calls Tryd.prog 14 #[.agg #[.int .i64 q.size, .slice (some ⟨g, 0, none⟩) n1 n1, .slice q.C n2 q.cc, .slice q.L n3 q.lc, .slice q.K n4 q.kc, .int .i64 q.inp, .int .i64 q.out], .agg #[.int .i64 p.size, .slice p.V m1 p.vc, .slice p.C m2 p.cc, .slice p.L m3 p.lc, .slice p.K m4 p.kc, .int .i64 p.inp, .int .i64 p.out]] W9 fun e w' => e = .returned (.bool false) ∧ Below w.heap.size w w') := hide (by
      have h := HNO.out HFW.out { q with vs := q.vs.set k ⟨y.off, ⟨y.d.P, y.d.zs, y.d.cap, !y.d.u⟩⟩ } (W.setCell ⟨g, k * 3 + 2, none⟩ (.bool (!y.d.u))) HBX.out (HPW.out.in_ (by show (q.vs.set k _).length ≤ 1000000; rw [List.length_set]; exact HLN.out.v) HLN.out.c HLN.out.l HLN.out.k) (pl_view HPL.out HY.out)
      dsimp only at h
      rw [List.length_set, hn1.out, hn2.out, hn3.out, hn4.out, EG.out, HCC.out] at h
      exact h)
    have HT1 := hide HT.out.1
    have HT2 := hide HT.out.2
    have HPX : Hid (Has (W.setCell ⟨g, k * 3 + 2, none⟩ (.bool (!y.d.u))) w.heap.size 27 [.int .i64 p.size, .slice p.V m1 p.vc, .slice p.C m2 p.cc, .slice p.L m3 p.lc, .slice p.K m4 p.kc, .int .i64 p.inp, .int .i64 p.out]) := hide (HP5d.out.far hgn.symm _)
    have HQX : Hid (Has (W.setCell ⟨g, k * 3 + 2, none⟩ (.bool (!y.d.u))) S2 27 [.int .i64 q.size, .slice (some ⟨g, 0, none⟩) n1 n1, .slice q.C n2 q.cc, .slice q.L n3 q.lc, .slice q.K n4 q.kc, .int .i64 q.inp, .int .i64 q.out]) := hide (HQ5d.out.far hgn2.symm _)
    have o2 : W.cell? ⟨g, k * 3 + 2, none⟩ = some (.bool y.d.u) := by rw [HGd.out.cell, flat_at Vw.vals 3 q.vs (fun _ _ => rfl) k y HY.out 2 (by decide)]; rfl
    have f2 := HGd.out.frozen (k * 3 + 2)
    have y0 : (W.setCell ⟨g, k * 3 + 2, none⟩ (.bool (!y.d.u))).cell? ⟨w.heap.size, 0, none⟩ = some (.int .i64 p.size) := HPX.out.cell 0
    have y1 : (W.setCell ⟨g, k * 3 + 2, none⟩ (.bool (!y.d.u))).cell? ⟨w.heap.size, 1, none⟩ = some (.slice p.V m1 p.vc) := HPX.out.cell 1
    have y2 : (W.setCell ⟨g, k * 3 + 2, none⟩ (.bool (!y.d.u))).cell? ⟨w.heap.size, 2, none⟩ = some (.slice p.C m2 p.cc) := HPX.out.cell 2
    have y3 : (W.setCell ⟨g, k * 3 + 2, none⟩ (.bool (!y.d.u))).cell? ⟨w.heap.size, 3, none⟩ = some (.slice p.L m3 p.lc) := HPX.out.cell 3
    have y4 : (W.setCell ⟨g, k * 3 + 2, none⟩ (.bool (!y.d.u))).cell? ⟨w.heap.size, 4, none⟩ = some (.slice p.K m4 p.kc) := HPX.out.cell 4
    have y5 : (W.setCell ⟨g, k * 3 + 2, none⟩ (.bool (!y.d.u))).cell? ⟨w.heap.size, 5, none⟩ = some (.int .i64 p.inp) := HPX.out.cell 5
    have y6 : (W.setCell ⟨g, k * 3 + 2, none⟩ (.bool (!y.d.u))).cell? ⟨w.heap.size, 6, none⟩ = some (.int .i64 p.out) := HPX.out.cell 6
    have z0 : (W.setCell ⟨g, k * 3 + 2, none⟩ (.bool (!y.d.u))).cell? ⟨S2, 0, none⟩ = some (.int .i64 q.size) := HQX.out.cell 0
    have z1 : (W.setCell ⟨g, k * 3 + 2, none⟩ (.bool (!y.d.u))).cell? ⟨S2, 1, none⟩ = some (.slice (some ⟨g, 0, none⟩) n1 n1) := HQX.out.cell 1
    have z2 : (W.setCell ⟨g, k * 3 + 2, none⟩ (.bool (!y.d.u))).cell? ⟨S2, 2, none⟩ = some (.slice q.C n2 q.cc) := HQX.out.cell 2
    have z3 : (W.setCell ⟨g, k * 3 + 2, none⟩ (.bool (!y.d.u))).cell? ⟨S2, 3, none⟩ = some (.slice q.L n3 q.lc) := HQX.out.cell 3
    have z4 : (W.setCell ⟨g, k * 3 + 2, none⟩ (.bool (!y.d.u))).cell? ⟨S2, 4, none⟩ = some (.slice q.K n4 q.kc) := HQX.out.cell 4
    have z5 : (W.setCell ⟨g, k * 3 + 2, none⟩ (.bool (!y.d.u))).cell? ⟨S2, 5, none⟩ = some (.int .i64 q.inp) := HQX.out.cell 5
    have z6 : (W.setCell ⟨g, k * 3 + 2, none⟩ (.bool (!y.d.u))).cell? ⟨S2, 6, none⟩ = some (.int .i64 q.out) := HQX.out.cell 6
    have c0 : W.cell? ⟨w.heap.size, 0, none⟩ = some (.int .i64 p.size) := HP5d.out.cell 0
    have c1 : W.cell? ⟨w.heap.size, 1, none⟩ = some (.slice p.V m1 p.vc) := HP5d.out.cell 1
    have c2 : W.cell? ⟨w.heap.size, 2, none⟩ = some (.slice p.C m2 p.cc) := HP5d.out.cell 2
    have c3 : W.cell? ⟨w.heap.size, 3, none⟩ = some (.slice p.L m3 p.lc) := HP5d.out.cell 3
    have c4 : W.cell? ⟨w.heap.size, 4, none⟩ = some (.slice p.K m4 p.kc) := HP5d.out.cell 4
    have c5 : W.cell? ⟨w.heap.size, 5, none⟩ = some (.int .i64 p.inp) := HP5d.out.cell 5
    have c6 : W.cell? ⟨w.heap.size, 6, none⟩ = some (.int .i64 p.out) := HP5d.out.cell 6
    have d0 : W.cell? ⟨S2, 0, none⟩ = some (.int .i64 q.size) := HQ5d.out.cell 0
    have d1 : W.cell? ⟨S2, 1, none⟩ = some (.slice (some ⟨g, 0, none⟩) n1 n1) := HQ5d.out.cell 1
    have d2 : W.cell? ⟨S2, 2, none⟩ = some (.slice q.C n2 q.cc) := HQ5d.out.cell 2
    have d3 : W.cell? ⟨S2, 3, none⟩ = some (.slice q.L n3 q.lc) := HQ5d.out.cell 3
    have d4 : W.cell? ⟨S2, 4, none⟩ = some (.slice q.K n4 q.kc) := HQ5d.out.cell 4
    have d5 : W.cell? ⟨S2, 5, none⟩ = some (.int .i64 q.inp) := HQ5d.out.cell 5
    have d6 : W.cell? ⟨S2, 6, none⟩ = some (.int .i64 q.out) := HQ5d.out.cell 6
    have hlg := HGd.out.lt
    clear HPW HT HBX HC5d HB5d HNO HIN HGd hkl hkl2 HP5d HQ5d
    go_wp2_with fail
    clear y0 y1 y2 y3 y4 y5 y6 z0 z1 z2 z3 z4 z5 z6 c0 c1 c2 c3 c4 c5 c6 d0 d1 d2 d3 d4 d5 d6 o2 f2 hlg hgn hgn2
    refine HT1.out.mono ?_
    rintro e w7 ⟨rfl, hb⟩
    have HT3 := hide (HT2.out w7 hb)
    have y0 : w7.cell? ⟨w.heap.size, 0, none⟩ = some (.int .i64 p.size) := (HPX.out.below hb HPX.out.lt).cell 0
    have y1 : w7.cell? ⟨w.heap.size, 1, none⟩ = some (.slice p.V m1 p.vc) := (HPX.out.below hb HPX.out.lt).cell 1
    have y2 : w7.cell? ⟨w.heap.size, 2, none⟩ = some (.slice p.C m2 p.cc) := (HPX.out.below hb HPX.out.lt).cell 2
    have y3 : w7.cell? ⟨w.heap.size, 3, none⟩ = some (.slice p.L m3 p.lc) := (HPX.out.below hb HPX.out.lt).cell 3
    have y4 : w7.cell? ⟨w.heap.size, 4, none⟩ = some (.slice p.K m4 p.kc) := (HPX.out.below hb HPX.out.lt).cell 4
    have y5 : w7.cell? ⟨w.heap.size, 5, none⟩ = some (.int .i64 p.inp) := (HPX.out.below hb HPX.out.lt).cell 5
    have y6 : w7.cell? ⟨w.heap.size, 6, none⟩ = some (.int .i64 p.out) := (HPX.out.below hb HPX.out.lt).cell 6
    have z0 : w7.cell? ⟨S2, 0, none⟩ = some (.int .i64 q.size) := (HQX.out.below hb HQX.out.lt).cell 0
    have z1 : w7.cell? ⟨S2, 1, none⟩ = some (.slice (some ⟨g, 0, none⟩) n1 n1) := (HQX.out.below hb HQX.out.lt).cell 1
    have z2 : w7.cell? ⟨S2, 2, none⟩ = some (.slice q.C n2 q.cc) := (HQX.out.below hb HQX.out.lt).cell 2
    have z3 : w7.cell? ⟨S2, 3, none⟩ = some (.slice q.L n3 q.lc) := (HQX.out.below hb HQX.out.lt).cell 3
    have z4 : w7.cell? ⟨S2, 4, none⟩ = some (.slice q.K n4 q.kc) := (HQX.out.below hb HQX.out.lt).cell 4
    have z5 : w7.cell? ⟨S2, 5, none⟩ = some (.int .i64 q.inp) := (HQX.out.below hb HQX.out.lt).cell 5
    have z6 : w7.cell? ⟨S2, 6, none⟩ = some (.int .i64 q.out) := (HQX.out.below hb HQX.out.lt).cell 6
    clear hb HT1 HT2 HPX HQX
    go_wp2_with fail
    refine HT3.out.mono ?_
    rintro e w8 ⟨rfl, hb⟩
    have HBE := hide hb
    clear hb HT3 y0 y1 y2 y3 y4 y5 y6 z0 z1 z2 z3 z4 z5 z6
    go_wp2_with fail
    go_ret
    exact ⟨rfl, HBE.out⟩
  · obtain ⟨i0, hi0, hz0, hz1, hz2⟩ := desc_info
    have HI0 := hide hi0
    have HZ0 := hide hz0
    have HZ1 := hide hz1
    have HZ2 := hide hz2
    have HU := hide uds_desc
    clear hi0 hz0 hz1 hz2
    have HCA := hide (HC5.out.grown (below_grown ((Below.refl w5.heap.size w5).alloc (Nat.le_refl _) (.cells Dsc.zero.vals.toArray 59))) (NotP.none _))
    have HBA := hide (HB5.out.alloc HB5.out.size (.cells Dsc.zero.vals.toArray 59))
    have HPA := hide (HP5.out.alloc (.cells Dsc.zero.vals.toArray 59))
    have HQA := hide (HQ5.out.alloc (.cells Dsc.zero.vals.toArray 59))
    have hownA := (HCA.out.pw HLN.out).L
    rw [hn3.out] at hownA
    have HOA := hide hownA
    have hnw := hide (new_cells w5 59 Dsc.zero.vals)
    have h1w := hide (Dsc.one Dsc.zero)
    have hsA : Hid (w2.heap.size ≤ (w5.alloc (.cells Dsc.zero.vals.toArray 59)).heap.size) := hide (by have h1 := HQA.out.lt; have h2 := HBS3.out; omega)
    have d3 : w5.cell? ⟨S2, 3, none⟩ = some (.slice q.L n3 q.lc) := HQ5.out.cell 3
    have hlS := HQ5.out.lt
    have hm1 : Hid (n3 + 1 ≤ maxLen) := hide (by have := HN3.out; unfold maxLen; omega)
    have hm2 : Hid ((n3 + 1) * 32 ≤ 140737488355328) := hide (by have := HN3.out; omega)
    clear hownA HC5 HB5 HP5 HQ5
    go_wp2_with (at_builtin; refine wpList_append_own_at _ rfl _ _ 24 rfl w2.heap.size 59 i0 (.agg #[.slice none 0 0, .bool false]) 2 32 HU.out HI0.out HZ0.out HZ1.out HZ2.out rfl (by decide) _ n3 _ rfl HOA.out ⟨w5.heap.size, 0, none⟩ 1 1 Dsc.zero.vals rfl rfl hnw.out h1w.out hm1.out hm2.out hsA.out ?_)
    intro v4 W4 i1 i2 i3 i4
    clear d3 hlS
    have i1' : W4.ownsRow w2.heap.size 59 2 v4 (q.ls.length + 1) (q.ls.flatMap Dsc.vals ++ Dsc.zero.vals) := by rw [hn3.out]; exact i1
    have i2' : World.grownBy (w5.alloc (.cells Dsc.zero.vals.toArray 59)) W4 (Value.slice q.L q.ls.length q.lc).ownBlock := by rw [hn3.out]; exact i2
    obtain ⟨L, lc, hv4, hpw⟩ := HCA.out.weight HLN.out i2' i1'
    subst hv4
    have nA : ∀ t cs b, t ≠ 59 → Has (w5.alloc (.cells Dsc.zero.vals.toArray 59)) b t cs → some b ≠ (Value.slice q.L n3 q.lc).ownBlock := fun t cs b ht hh e => NotT.own HOA.out ht _ e.symm _ hh
    have HP4 := hide (HPA.out.grown i2 (nA _ _ _ (by decide) HPA.out))
    have HQ4 := hide (HQA.out.grown i2 (nA _ _ _ (by decide) HQA.out))
    have HB4 := hide (elm_grown HBA.out (own_lower HOA.out HBASE.out) HBA.out.size i2)
    have hp1 := hpw.grown (grown_cell W4 ⟨S2, 3, none⟩ (.slice L (n3 + 1) lc)) (NotP.plan HQ4.out)
    rw [hn3.out]
    have HPWR := hide hp1
    clear i1 i1' i2 i2' i3 i4 nA hpw hp1 HCA HBA HPA HQA HOA hnw h1w hsA hm1 hm2 HI0 HZ0 HZ1 HZ2 HU
    have HBX : Hid (Below w.heap.size w (W4.setCell ⟨S2, 3, none⟩ (.slice L (n3 + 1) lc))) := hide (HB4.out.setCell (by have h1 := HBASE.out; have h2 := HBS3.out; show w.heap.size ≤ S2; omega) _)
    have HPW : Hid (Pw w2.heap.size w2.heap.size (W4.setCell ⟨S2, 3, none⟩ (.slice L (n3 + 1) lc)) { q with L := L, ls := q.ls ++ [Dsc.zero], lc := lc }) := hide HPWR.out
    have HT : Hid ((Calls Tryd.prog 14 #[.agg #[.int .i64 p.size, .slice p.V m1 p.vc, .slice p.C m2 p.cc, .slice p.L m3 p.lc, .slice p.K m4 p.kc, .int .i64 p.inp, .int .i64 p.out], .agg #[.int .i64 q.size, .slice q.V n1 q.vc, .slice q.C n2 q.cc, .slice L (n3 + 1) lc, .slice q.K n4 q.kc, .int .i64 q.inp, .int .i64 q.out]] (W4.setCell ⟨S2, 3, none⟩ (.slice L (n3 + 1) lc)) fun e w' => e = .returned (.bool false) ∧ Below (W4.setCell ⟨S2, 3, none⟩ (.slice L (n3 + 1) lc)).heap.size (W4.setCell ⟨S2, 3, none⟩ (.slice L (n3 + 1) lc)) w') ∧ ∀ W9, Below (W4.setCell ⟨S2, 3, none⟩ (.slice L (n3 + 1) lc)).heap.size (W4.setCell ⟨S2, 3, none⟩ (.slice L (n3 + 1) lc)) W9 → Calls Tryd.prog 14 #[.agg #[.int .i64 q.size, .slice q.V n1 q.vc, .slice q.C n2 q.cc, .slice L (n3 + 1) lc, .slice q.K n4 q.kc, .int .i64 q.inp, .int .i64 q.out], .agg #[.int .i64 p.size, .slice p.V m1 p.vc, .slice p.C m2 p.cc, .slice p.L m3 p.lc, .slice p.K m4 p.kc, .int .i64 p.inp, .int .i64 p.out]] W9 fun e w' => e = .returned (.bool false) ∧ Below w.heap.size w w') := hide (by
      have h := HNO.out HFW.out { q with L := L, ls := q.ls ++ [Dsc.zero], lc := lc } (W4.setCell ⟨S2, 3, none⟩ (.slice L (n3 + 1) lc)) HBX.out (HPW.out.in_ HLN.out.v HLN.out.c (by show (q.ls ++ [Dsc.zero]).length ≤ 1000000; rw [List.length_append, List.length_singleton, hn3.out]; have := HN3.out; omega) HLN.out.k) (pl_weight HPL.out L lc)
      dsimp only at h
      rw [List.length_append, List.length_singleton, hn1.out, hn2.out, hn3.out, hn4.out] at h
      exact h)
    have HT1 := hide HT.out.1
    have HT2 := hide HT.out.2
    have HPX : Hid (Has (W4.setCell ⟨S2, 3, none⟩ (.slice L (n3 + 1) lc)) w.heap.size 27 [.int .i64 p.size, .slice p.V m1 p.vc, .slice p.C m2 p.cc, .slice p.L m3 p.lc, .slice p.K m4 p.kc, .int .i64 p.inp, .int .i64 p.out]) := hide (HP4.out.far (by have h1 := HBASE.out; have h2 := HBS3.out; have h3 := HPLT.out; show w.heap.size ≠ S2; omega) _)
    have HQX : Hid (Has (W4.setCell ⟨S2, 3, none⟩ (.slice L (n3 + 1) lc)) S2 27 [.int .i64 q.size, .slice q.V n1 q.vc, .slice q.C n2 q.cc, .slice L (n3 + 1) lc, .slice q.K n4 q.kc, .int .i64 q.inp, .int .i64 q.out]) := hide (HQ4.out.set_ 3 _)
    have q3 := HQ4.out.cell 3
    have f3 := HQ4.out.frozen 3
    have y0 : (W4.setCell ⟨S2, 3, none⟩ (.slice L (n3 + 1) lc)).cell? ⟨w.heap.size, 0, none⟩ = some (.int .i64 p.size) := HPX.out.cell 0
    have y1 : (W4.setCell ⟨S2, 3, none⟩ (.slice L (n3 + 1) lc)).cell? ⟨w.heap.size, 1, none⟩ = some (.slice p.V m1 p.vc) := HPX.out.cell 1
    have y2 : (W4.setCell ⟨S2, 3, none⟩ (.slice L (n3 + 1) lc)).cell? ⟨w.heap.size, 2, none⟩ = some (.slice p.C m2 p.cc) := HPX.out.cell 2
    have y3 : (W4.setCell ⟨S2, 3, none⟩ (.slice L (n3 + 1) lc)).cell? ⟨w.heap.size, 3, none⟩ = some (.slice p.L m3 p.lc) := HPX.out.cell 3
    have y4 : (W4.setCell ⟨S2, 3, none⟩ (.slice L (n3 + 1) lc)).cell? ⟨w.heap.size, 4, none⟩ = some (.slice p.K m4 p.kc) := HPX.out.cell 4
    have y5 : (W4.setCell ⟨S2, 3, none⟩ (.slice L (n3 + 1) lc)).cell? ⟨w.heap.size, 5, none⟩ = some (.int .i64 p.inp) := HPX.out.cell 5
    have y6 : (W4.setCell ⟨S2, 3, none⟩ (.slice L (n3 + 1) lc)).cell? ⟨w.heap.size, 6, none⟩ = some (.int .i64 p.out) := HPX.out.cell 6
    have z0 : (W4.setCell ⟨S2, 3, none⟩ (.slice L (n3 + 1) lc)).cell? ⟨S2, 0, none⟩ = some (.int .i64 q.size) := HQX.out.cell 0
    have z1 : (W4.setCell ⟨S2, 3, none⟩ (.slice L (n3 + 1) lc)).cell? ⟨S2, 1, none⟩ = some (.slice q.V n1 q.vc) := HQX.out.cell 1
    have z2 : (W4.setCell ⟨S2, 3, none⟩ (.slice L (n3 + 1) lc)).cell? ⟨S2, 2, none⟩ = some (.slice q.C n2 q.cc) := HQX.out.cell 2
    have z3 : (W4.setCell ⟨S2, 3, none⟩ (.slice L (n3 + 1) lc)).cell? ⟨S2, 3, none⟩ = some (.slice L (n3 + 1) lc) := HQX.out.cell 3
    have z4 : (W4.setCell ⟨S2, 3, none⟩ (.slice L (n3 + 1) lc)).cell? ⟨S2, 4, none⟩ = some (.slice q.K n4 q.kc) := HQX.out.cell 4
    have z5 : (W4.setCell ⟨S2, 3, none⟩ (.slice L (n3 + 1) lc)).cell? ⟨S2, 5, none⟩ = some (.int .i64 q.inp) := HQX.out.cell 5
    have z6 : (W4.setCell ⟨S2, 3, none⟩ (.slice L (n3 + 1) lc)).cell? ⟨S2, 6, none⟩ = some (.int .i64 q.out) := HQX.out.cell 6
    have c0 : W4.cell? ⟨w.heap.size, 0, none⟩ = some (.int .i64 p.size) := HP4.out.cell 0
    have c1 : W4.cell? ⟨w.heap.size, 1, none⟩ = some (.slice p.V m1 p.vc) := HP4.out.cell 1
    have c2 : W4.cell? ⟨w.heap.size, 2, none⟩ = some (.slice p.C m2 p.cc) := HP4.out.cell 2
    have c3 : W4.cell? ⟨w.heap.size, 3, none⟩ = some (.slice p.L m3 p.lc) := HP4.out.cell 3
    have c4 : W4.cell? ⟨w.heap.size, 4, none⟩ = some (.slice p.K m4 p.kc) := HP4.out.cell 4
    have c5 : W4.cell? ⟨w.heap.size, 5, none⟩ = some (.int .i64 p.inp) := HP4.out.cell 5
    have c6 : W4.cell? ⟨w.heap.size, 6, none⟩ = some (.int .i64 p.out) := HP4.out.cell 6
    have d0 : W4.cell? ⟨S2, 0, none⟩ = some (.int .i64 q.size) := HQ4.out.cell 0
    have d1 : W4.cell? ⟨S2, 1, none⟩ = some (.slice q.V n1 q.vc) := HQ4.out.cell 1
    have d2 : W4.cell? ⟨S2, 2, none⟩ = some (.slice q.C n2 q.cc) := HQ4.out.cell 2
    have d4 : W4.cell? ⟨S2, 4, none⟩ = some (.slice q.K n4 q.kc) := HQ4.out.cell 4
    have d5 : W4.cell? ⟨S2, 5, none⟩ = some (.int .i64 q.inp) := HQ4.out.cell 5
    have d6 : W4.cell? ⟨S2, 6, none⟩ = some (.int .i64 q.out) := HQ4.out.cell 6
    simp only [List.getElem?_cons_zero, List.getElem?_cons_succ] at q3
    have hlS := HQ4.out.lt
    clear HPW HT HBX HB4 HNO HIN HP4 HQ4 HPWR
    go_wp2_with fail
    clear y0 y1 y2 y3 y4 y5 y6 z0 z1 z2 z3 z4 z5 z6 c0 c1 c2 c3 c4 c5 c6 d0 d1 d2 d4 d5 d6 q3 f3 hlS
    refine HT1.out.mono ?_
    rintro e w7 ⟨rfl, hb⟩
    have HT3 := hide (HT2.out w7 hb)
    have y0 : w7.cell? ⟨w.heap.size, 0, none⟩ = some (.int .i64 p.size) := (HPX.out.below hb HPX.out.lt).cell 0
    have y1 : w7.cell? ⟨w.heap.size, 1, none⟩ = some (.slice p.V m1 p.vc) := (HPX.out.below hb HPX.out.lt).cell 1
    have y2 : w7.cell? ⟨w.heap.size, 2, none⟩ = some (.slice p.C m2 p.cc) := (HPX.out.below hb HPX.out.lt).cell 2
    have y3 : w7.cell? ⟨w.heap.size, 3, none⟩ = some (.slice p.L m3 p.lc) := (HPX.out.below hb HPX.out.lt).cell 3
    have y4 : w7.cell? ⟨w.heap.size, 4, none⟩ = some (.slice p.K m4 p.kc) := (HPX.out.below hb HPX.out.lt).cell 4
    have y5 : w7.cell? ⟨w.heap.size, 5, none⟩ = some (.int .i64 p.inp) := (HPX.out.below hb HPX.out.lt).cell 5
    have y6 : w7.cell? ⟨w.heap.size, 6, none⟩ = some (.int .i64 p.out) := (HPX.out.below hb HPX.out.lt).cell 6
    have z0 : w7.cell? ⟨S2, 0, none⟩ = some (.int .i64 q.size) := (HQX.out.below hb HQX.out.lt).cell 0
    have z1 : w7.cell? ⟨S2, 1, none⟩ = some (.slice q.V n1 q.vc) := (HQX.out.below hb HQX.out.lt).cell 1
    have z2 : w7.cell? ⟨S2, 2, none⟩ = some (.slice q.C n2 q.cc) := (HQX.out.below hb HQX.out.lt).cell 2
    have z3 : w7.cell? ⟨S2, 3, none⟩ = some (.slice L (n3 + 1) lc) := (HQX.out.below hb HQX.out.lt).cell 3
    have z4 : w7.cell? ⟨S2, 4, none⟩ = some (.slice q.K n4 q.kc) := (HQX.out.below hb HQX.out.lt).cell 4
    have z5 : w7.cell? ⟨S2, 5, none⟩ = some (.int .i64 q.inp) := (HQX.out.below hb HQX.out.lt).cell 5
    have z6 : w7.cell? ⟨S2, 6, none⟩ = some (.int .i64 q.out) := (HQX.out.below hb HQX.out.lt).cell 6
    clear hb HT1 HT2 HPX HQX
    go_wp2_with fail
    refine HT3.out.mono ?_
    rintro e w8 ⟨rfl, hb⟩
    have HBE := hide hb
    clear hb HT3 y0 y1 y2 y3 y4 y5 y6 z0 z1 z2 z3 z4 z5 z6
    go_wp2_with fail
    go_ret
    exact ⟨rfl, HBE.out⟩
end Go.Proofs.YthjnkaikjjjceaaDoor
