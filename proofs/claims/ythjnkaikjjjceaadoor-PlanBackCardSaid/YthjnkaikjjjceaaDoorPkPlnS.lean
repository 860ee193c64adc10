/-
  plan.Same, walked. By an AI agent. No person has read it.
-/
import Derived.Test.YthjnkaikjjjceaaDoorPkPlnR
import Derived.Test.YthjnkaikjjjceaaDoorPkPlnL
namespace Go.Proofs.YthjnkaikjjjceaaDoor
open Go.RowKit
set_option maxRecDepth 100000 in
set_option maxHeartbeats 8000000 in
theorem psame_c (p q : Pn) (w : World) (hp : p.In w) (hq : q.In w) :
    Calls Tryd.prog 14 #[.agg #[.int .i64 p.size, .slice p.V p.vs.length p.vc, .slice p.C p.cs.length p.cc, .slice p.L p.ls.length p.lc, .slice p.K p.is.length p.kc, .int .i64 p.inp, .int .i64 p.out], .agg #[.int .i64 q.size, .slice q.V q.vs.length q.vc, .slice q.C q.cs.length q.cc, .slice q.L q.ls.length q.lc, .slice q.K q.is.length q.kc, .int .i64 q.inp, .int .i64 q.out]] w fun e w' => e = .returned (.bool (decide (p.pl = q.pl))) ∧ Below w.heap.size w w' := by
  have hb0 : Below w.heap.size w ((w.alloc (.cells #[.int .i64 p.size, .slice p.V p.vs.length p.vc, .slice p.C p.cs.length p.cc, .slice p.L p.ls.length p.lc, .slice p.K p.is.length p.kc, .int .i64 p.inp, .int .i64 p.out] 27)).alloc (.cells #[.int .i64 q.size, .slice q.V q.vs.length q.vc, .slice q.C q.cs.length q.cc, .slice q.L q.ls.length q.lc, .slice q.K q.is.length q.kc, .int .i64 q.inp, .int .i64 q.out] 27)) := ((Below.refl w.heap.size w).alloc (Nat.le_refl _) _).alloc (by simp) _
  have H1 := hide (equal_vw p.vs q.vs p.V q.V p.vc q.vc ((w.alloc (.cells #[.int .i64 p.size, .slice p.V p.vs.length p.vc, .slice p.C p.cs.length p.cc, .slice p.L p.ls.length p.lc, .slice p.K p.is.length p.kc, .int .i64 p.inp, .int .i64 p.out] 27)).alloc (.cells #[.int .i64 q.size, .slice q.V q.vs.length q.vc, .slice q.C q.cs.length q.cc, .slice q.L q.ls.length q.lc, .slice q.K q.is.length q.kc, .int .i64 q.inp, .int .i64 q.out] 27)) (hp.V.below hb0) (hq.V.below hb0) (fun x hx => (hp.vs x hx).below hb0) (fun x hx => (hq.vs x hx).below hb0) hp.lv hq.lv)
  have H2 := hide (fun (W : World) (hb : Below w.heap.size w W) => equal_ten p.cs q.cs p.C q.C p.cc q.cc W (hp.C.below hb) (hq.C.below hb) (fun x hx => (hp.cs x hx).below hb) (fun x hx => (hq.cs x hx).below hb) hp.lc hq.lc)
  have H3 := hide (fun (W : World) (hb : Below w.heap.size w W) => equal_dsc p.ls q.ls p.L q.L p.lc q.lc W (hp.L.below hb) (hq.L.below hb) (fun x hx => (hp.ls x hx).below hb) (fun x hx => (hq.ls x hx).below hb) hp.ll hq.ll)
  have H4 := hide (fun (W : World) (hb : Below w.heap.size w W) => equal_ins p.is q.is p.K q.K p.kc q.kc W (hp.K.below hb) (hq.K.below hb) (fun x hx => (hp.is x hx).below hb) (fun x hx => (hq.is x hx).below hb) hp.li hq.li)
  have hrx : Has ((w.alloc (.cells #[.int .i64 p.size, .slice p.V p.vs.length p.vc, .slice p.C p.cs.length p.cc, .slice p.L p.ls.length p.lc, .slice p.K p.is.length p.kc, .int .i64 p.inp, .int .i64 p.out] 27)).alloc (.cells #[.int .i64 q.size, .slice q.V q.vs.length q.vc, .slice q.C q.cs.length q.cc, .slice q.L q.ls.length q.lc, .slice q.K q.is.length q.kc, .int .i64 q.inp, .int .i64 q.out] 27)) w.heap.size 27 [.int .i64 p.size, .slice p.V p.vs.length p.vc, .slice p.C p.cs.length p.cc, .slice p.L p.ls.length p.lc, .slice p.K p.is.length p.kc, .int .i64 p.inp, .int .i64 p.out] := (plan_box p w).alloc _
  have hry : Has ((w.alloc (.cells #[.int .i64 p.size, .slice p.V p.vs.length p.vc, .slice p.C p.cs.length p.cc, .slice p.L p.ls.length p.lc, .slice p.K p.is.length p.kc, .int .i64 p.inp, .int .i64 p.out] 27)).alloc (.cells #[.int .i64 q.size, .slice q.V q.vs.length q.vc, .slice q.C q.cs.length q.cc, .slice q.L q.ls.length q.lc, .slice q.K q.is.length q.kc, .int .i64 q.inp, .int .i64 q.out] 27)) (w.heap.size + 1) 27 [.int .i64 q.size, .slice q.V q.vs.length q.vc, .slice q.C q.cs.length q.cc, .slice q.L q.ls.length q.lc, .slice q.K q.is.length q.kc, .int .i64 q.inp, .int .i64 q.out] := by
    have h := plan_box q (w.alloc (.cells #[.int .i64 p.size, .slice p.V p.vs.length p.vc, .slice p.C p.cs.length p.cc, .slice p.L p.ls.length p.lc, .slice p.K p.is.length p.kc, .int .i64 p.inp, .int .i64 p.out] 27))
    have e : (w.alloc (.cells #[.int .i64 p.size, .slice p.V p.vs.length p.vc, .slice p.C p.cs.length p.cc, .slice p.L p.ls.length p.lc, .slice p.K p.is.length p.kc, .int .i64 p.inp, .int .i64 p.out] 27)).heap.size = w.heap.size + 1 := by simp
    rw [e] at h
    exact h
  have HB := hide hb0
  have HQ : Hid (p.size = q.size → p.inp = q.inp → p.out = q.out → decide (p.pl = q.pl) = (decide (p.vs.map Vw.pl = q.vs.map Vw.pl) && (decide (p.cs.map Ten.pl = q.cs.map Ten.pl) && (decide (p.ls.map Dsc.pl = q.ls.map Dsc.pl) && decide (p.is.map Ins.pl = q.is.map Ins.pl))))) := hide (by
    intro h1 h2 h3
    unfold Pn.pl
    rw [Bool.eq_iff_iff]
    simp [h1, h2, h3])
  have HN : Hid (p.pl ≠ q.pl → decide (p.pl = q.pl) = false) := hide (fun h => decide_eq_false h)
  obtain ⟨D, hD⟩ : ∃ D, Hid (decide (p.pl = q.pl) = D) := ⟨_, hide rfl⟩
  obtain ⟨S1, hS1⟩ : ∃ D, Hid (decide (p.vs.map Vw.pl = q.vs.map Vw.pl) = D) := ⟨_, hide rfl⟩
  obtain ⟨S2, hS2⟩ : ∃ D, Hid (decide (p.cs.map Ten.pl = q.cs.map Ten.pl) = D) := ⟨_, hide rfl⟩
  obtain ⟨S3, hS3⟩ : ∃ D, Hid (decide (p.ls.map Dsc.pl = q.ls.map Dsc.pl) = D) := ⟨_, hide rfl⟩
  obtain ⟨S4, hS4⟩ : ∃ D, Hid (decide (p.is.map Ins.pl = q.is.map Ins.pl) = D) := ⟨_, hide rfl⟩
  rw [hD.out] at HQ HN ⊢
  rw [hS1.out, hS2.out, hS3.out, hS4.out] at HQ
  rw [hS1.out] at H1
  rw [hS2.out] at H2
  rw [hS3.out] at H3
  rw [hS4.out] at H4
  obtain ⟨p1, hp1⟩ : ∃ n, Hid (p.vs.length = n) := ⟨_, hide rfl⟩
  obtain ⟨p2, hp2⟩ : ∃ n, Hid (p.cs.length = n) := ⟨_, hide rfl⟩
  obtain ⟨p3, hp3⟩ : ∃ n, Hid (p.ls.length = n) := ⟨_, hide rfl⟩
  obtain ⟨p4, hp4⟩ : ∃ n, Hid (p.is.length = n) := ⟨_, hide rfl⟩
  obtain ⟨q1, hq1⟩ : ∃ n, Hid (q.vs.length = n) := ⟨_, hide rfl⟩
  obtain ⟨q2, hq2⟩ : ∃ n, Hid (q.cs.length = n) := ⟨_, hide rfl⟩
  obtain ⟨q3, hq3⟩ : ∃ n, Hid (q.ls.length = n) := ⟨_, hide rfl⟩
  obtain ⟨q4, hq4⟩ : ∃ n, Hid (q.is.length = n) := ⟨_, hide rfl⟩
  rw [hp1.out, hp2.out, hp3.out, hp4.out, hq1.out, hq2.out, hq3.out, hq4.out] at H1 HB hrx hry ⊢
  rw [hp2.out, hq2.out] at H2
  rw [hp3.out, hq3.out] at H3
  rw [hp4.out, hq4.out] at H4
  have HRX := hide hrx
  have HRY := hide hry
  clear hp hq hb0 hD hS1 hS2 hS3 hS4 hrx hry
  by_cases hsize : p.size = q.size
  case neg =>
    have hq := HN.out fun e => hsize (congrArg PlP.size e)
    subst hq
    have hoq : (p.size == q.size) = false := by rw [beq_eq_false_iff_ne]; exact hsize
    go_enter Tryd.func14, Tryd.ntmps14
    go_wp2_with fail
    go_ret
    exact ⟨rfl, HB.out⟩
  have qsize : (p.size == q.size) = true := by rw [hsize]; exact beq_self_eq_true _
  have Gsize := hide hsize
  clear hsize
  by_cases hinp : p.inp = q.inp
  case neg =>
    have hq := HN.out fun e => hinp (congrArg PlP.inp e)
    subst hq
    have hoq : (p.inp == q.inp) = false := by rw [beq_eq_false_iff_ne]; exact hinp
    go_enter Tryd.func14, Tryd.ntmps14
    go_wp2_with fail
    go_ret
    exact ⟨rfl, HB.out⟩
  have qinp : (p.inp == q.inp) = true := by rw [hinp]; exact beq_self_eq_true _
  have Ginp := hide hinp
  clear hinp
  by_cases hout : p.out = q.out
  case neg =>
    have hq := HN.out fun e => hout (congrArg PlP.out e)
    subst hq
    have hoq : (p.out == q.out) = false := by rw [beq_eq_false_iff_ne]; exact hout
    go_enter Tryd.func14, Tryd.ntmps14
    go_wp2_with fail
    go_ret
    exact ⟨rfl, HB.out⟩
  have qout : (p.out == q.out) = true := by rw [hout]; exact beq_self_eq_true _
  have Gout := hide hout
  clear hout
  have hq := HQ.out Gsize.out Ginp.out Gout.out
  subst hq
  clear HQ HN
  go_enter Tryd.func14, Tryd.ntmps14
  go_wp2_with fail
  refine H1.out.mono ?_
  rintro e w1 ⟨rfl, hb⟩
  have hbw := HB.out.trans (hb.mono HB.out.size)
  have HB1 := hide hbw
  have rx := HRX.out.below hb HRX.out.lt
  have ry := HRY.out.below hb HRY.out.lt
  have RX1 := hide rx
  have RY1 := hide ry
  have c2 : w1.cell? ⟨w.heap.size, 2, none⟩ = some (.slice p.C p2 p.cc) := rx.cell 2
  have d2 : w1.cell? ⟨w.heap.size + 1, 2, none⟩ = some (.slice q.C q2 q.cc) := ry.cell 2
  have E2 := hide (H2.out w1 hbw)
  clear rx ry
  clear hb hbw
  cases S1
  case false =>
    go_wp2_with fail
    go_ret
    exact ⟨by simp, HB1.out⟩
  case true =>
  go_wp2_with fail
  refine E2.out.mono ?_
  clear c2 d2
  rintro e w2 ⟨rfl, hb⟩
  have hbw := HB1.out.trans (hb.mono HB1.out.size)
  have HB2 := hide hbw
  have rx := RX1.out.below hb RX1.out.lt
  have ry := RY1.out.below hb RY1.out.lt
  have RX2 := hide rx
  have RY2 := hide ry
  have c3 : w2.cell? ⟨w.heap.size, 3, none⟩ = some (.slice p.L p3 p.lc) := rx.cell 3
  have d3 : w2.cell? ⟨w.heap.size + 1, 3, none⟩ = some (.slice q.L q3 q.lc) := ry.cell 3
  have E3 := hide (H3.out w2 hbw)
  clear rx ry
  clear hb hbw
  cases S2
  case false =>
    go_wp2_with fail
    go_ret
    exact ⟨by simp, HB2.out⟩
  case true =>
  go_wp2_with fail
  refine E3.out.mono ?_
  clear c3 d3
  rintro e w3 ⟨rfl, hb⟩
  have hbw := HB2.out.trans (hb.mono HB2.out.size)
  have HB3 := hide hbw
  have rx := RX2.out.below hb RX2.out.lt
  have ry := RY2.out.below hb RY2.out.lt
  have RX3 := hide rx
  have RY3 := hide ry
  have c4 : w3.cell? ⟨w.heap.size, 4, none⟩ = some (.slice p.K p4 p.kc) := rx.cell 4
  have d4 : w3.cell? ⟨w.heap.size + 1, 4, none⟩ = some (.slice q.K q4 q.kc) := ry.cell 4
  have E4 := hide (H4.out w3 hbw)
  clear rx ry
  clear hb hbw
  cases S3
  case false =>
    go_wp2_with fail
    go_ret
    exact ⟨by simp, HB3.out⟩
  case true =>
  go_wp2_with fail
  refine E4.out.mono ?_
  clear c4 d4
  rintro e w4 ⟨rfl, hb⟩
  have hbw := HB3.out.trans (hb.mono HB3.out.size)
  have HB4 := hide hbw
  clear hb hbw
  cases S4
  case false =>
    go_wp2_with fail
    go_ret
    exact ⟨by simp, HB4.out⟩
  case true =>
  go_wp2_with fail
  go_ret
  exact ⟨by simp, HB4.out⟩
end Go.Proofs.YthjnkaikjjjceaaDoor
