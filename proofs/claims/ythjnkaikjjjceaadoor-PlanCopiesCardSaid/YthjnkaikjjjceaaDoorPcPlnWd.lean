/-
  plan.Clone, walked. By an AI agent. No person has read it.
-/
import Derived.Test.YthjnkaikjjjceaaDoorPcPlnWc
namespace Go.Proofs.YthjnkaikjjjceaaDoor
open Go.RowKit
/-- A plan that was cloned: all its blocks are its own. -/
structure Pn.Cl (base : Nat) (w : World) (q : Pn) : Prop where
  V : ∃ g, q.V = some ⟨g, 0, none⟩ ∧ base ≤ g ∧ Has w g 61 (q.vs.flatMap Vw.vals)
  vs : ∀ y ∈ q.vs, Vw.Io base w y
  vc : q.vc = q.vs.length
  C : ∃ g, q.C = some ⟨g, 0, none⟩ ∧ base ≤ g ∧ Has w g 70 (q.cs.flatMap Ten.vals)
  cs : ∀ y ∈ q.cs, Ten.Io base w y
  cc : q.cc = q.cs.length
  L : ∃ g, q.L = some ⟨g, 0, none⟩ ∧ base ≤ g ∧ Has w g 59 (q.ls.flatMap Dsc.vals)
  ls : ∀ y ∈ q.ls, Dsc.Io base w y
  lc : q.lc = q.ls.length
  K : ∃ g, q.K = some ⟨g, 0, none⟩ ∧ base ≤ g ∧ Has w g 48 (q.is.flatMap Ins.vals)
  is : ∀ y ∈ q.is, Ins.Ck base w y
  kc : q.kc = q.is.length
  ap : InsApart q.is
  off : ∀ y ∈ q.is, (∀ v ∈ q.vs, RowOff (.slice y.G y.gs.length y.gc) v.d.P v.d.zs) ∧ (∀ t ∈ q.cs, RowOff (.slice y.G y.gs.length y.gc) t.P t.zs ∧ RowOff (.slice y.G y.gs.length y.gc) t.D t.ds) ∧ (∀ d ∈ q.ls, RowOff (.slice y.G y.gs.length y.gc) d.P d.zs)
theorem Pn.Cl.grown {base : Nat} {w w' : World} {row : Option Nat} {q : Pn} (h : q.Cl base w) (hg : w.grownBy w' row) (hr : NotP w row) : q.Cl base w' :=
  ⟨by obtain ⟨g, e, h1, h2⟩ := h.V; exact ⟨g, e, h1, h2.grown hg fun e => hr.v g e.symm _ h2⟩, fun y hy => Vw.Io.grown (h.vs y hy) hg hr.i, h.vc, by obtain ⟨g, e, h1, h2⟩ := h.C; exact ⟨g, e, h1, h2.grown hg fun e => hr.t g e.symm _ h2⟩, fun y hy => Ten.Io.grown (h.cs y hy) hg hr.i, h.cc, by obtain ⟨g, e, h1, h2⟩ := h.L; exact ⟨g, e, h1, h2.grown hg fun e => hr.d g e.symm _ h2⟩, fun y hy => Dsc.Io.grown (h.ls y hy) hg hr.i, h.lc, by obtain ⟨g, e, h1, h2⟩ := h.K; exact ⟨g, e, h1, h2.grown hg fun e => hr.n g e.symm _ h2⟩, fun y hy => Ins.Ck.grown (h.is y hy) hg hr.i, h.kc, h.ap, h.off⟩
theorem Pn.Cl.in_ {base : Nat} {w : World} {q : Pn} (h : q.Cl base w) (h1 : q.vs.length ≤ 1000000) (h2 : q.cs.length ≤ 1000000) (h3 : q.ls.length ≤ 1000000) (h4 : q.is.length ≤ 1000000) : q.In w := by
  obtain ⟨g1, e1, -, r1⟩ := h.V
  obtain ⟨g2, e2, -, r2⟩ := h.C
  obtain ⟨g3, e3, -, r3⟩ := h.L
  obtain ⟨g4, e4, -, r4⟩ := h.K
  exact ⟨by rw [e1]; exact r1.row, fun v hv => (h.vs v hv).in_, by rw [e2]; exact r2.row, fun v hv => (h.cs v hv).in_, by rw [e3]; exact r3.row, fun v hv => (h.ls v hv).in_, by rw [e4]; exact r4.row, fun v hv => (h.is v hv).io.in_, h1, h2, h3, h4⟩
theorem len_of_map {α β γ : Type} {f : α → γ} {g : β → γ} {l : List α} {m : List β} (h : l.map f = m.map g) : l.length = m.length := by
  have := congrArg List.length h
  rwa [List.length_map, List.length_map] at this
theorem Pn.made (p : Pn) {base : Nat} {W : World} {g1 g2 g3 g4 : Nat} {y1 : List Vw} {y2 : List Ten} {y3 : List Dsc} {y4 : List Ins}
    (h1 : base ≤ g1) (r1 : Has W g1 61 (y1.flatMap Vw.vals)) (p1 : y1.map Vw.pl = p.vs.map Vw.pl) (i1 : ∀ y ∈ y1, Vw.Io base W y)
    (h2 : base ≤ g2) (r2 : Has W g2 70 (y2.flatMap Ten.vals)) (p2 : y2.map Ten.pl = p.cs.map Ten.pl) (i2 : ∀ y ∈ y2, Ten.Io base W y)
    (h3 : base ≤ g3) (r3 : Has W g3 59 (y3.flatMap Dsc.vals)) (p3 : y3.map Dsc.pl = p.ls.map Dsc.pl) (i3 : ∀ y ∈ y3, Dsc.Io base W y)
    (h4 : base ≤ g4) (r4 : Has W g4 48 (y4.flatMap Ins.vals)) (p4 : y4.map Ins.pl = p.is.map Ins.pl) (i4 : ∀ y ∈ y4, Ins.Ck base W y)
    (ap : InsApart y4) (off : ∀ y ∈ y4, (∀ v ∈ y1, RowOff (.slice y.G y.gs.length y.gc) v.d.P v.d.zs) ∧ (∀ t ∈ y2, RowOff (.slice y.G y.gs.length y.gc) t.P t.zs ∧ RowOff (.slice y.G y.gs.length y.gc) t.D t.ds) ∧ (∀ d ∈ y3, RowOff (.slice y.G y.gs.length y.gc) d.P d.zs))
    : ∃ q : Pn, (#[.int .i64 p.size, .slice (some ⟨g1, 0, none⟩) p.vs.length p.vs.length, .slice (some ⟨g2, 0, none⟩) p.cs.length p.cs.length, .slice (some ⟨g3, 0, none⟩) p.ls.length p.ls.length, .slice (some ⟨g4, 0, none⟩) p.is.length p.is.length, .int .i64 p.inp, .int .i64 p.out] : Array Value) = #[.int .i64 q.size, .slice q.V q.vs.length q.vc, .slice q.C q.cs.length q.cc, .slice q.L q.ls.length q.lc, .slice q.K q.is.length q.kc, .int .i64 q.inp, .int .i64 q.out] ∧ q.pl = p.pl ∧ q.Cl base W := by
  refine ⟨⟨p.size, some ⟨g1, 0, none⟩, y1, y1.length, some ⟨g2, 0, none⟩, y2, y2.length, some ⟨g3, 0, none⟩, y3, y3.length, some ⟨g4, 0, none⟩, y4, y4.length, p.inp, p.out⟩, ?_, ?_, ⟨⟨g1, rfl, h1, r1⟩, i1, rfl, ⟨g2, rfl, h2, r2⟩, i2, rfl, ⟨g3, rfl, h3, r3⟩, i3, rfl, ⟨g4, rfl, h4, r4⟩, i4, rfl, ap, off⟩⟩
  · dsimp only
    rw [len_of_map p1, len_of_map p2, len_of_map p3, len_of_map p4]
  · unfold Pn.pl
    dsimp only
    rw [p1, p2, p3, p4]
def CloneIs (w w' : World) (p : Pn) (e : Ending) : Prop := ∃ q : Pn, e = .returned (.agg #[.int .i64 q.size, .slice q.V q.vs.length q.vc, .slice q.C q.cs.length q.cc, .slice q.L q.ls.length q.lc, .slice q.K q.is.length q.kc, .int .i64 q.inp, .int .i64 q.out]) ∧ q.pl = p.pl ∧ q.Cl w.heap.size w'
theorem seven_held {W : World} {g : Nat} {t : TypeId} {a b c d e f h : Value} (H : Has W g t [a, b, c, d, e, f, h]) : W.cell? ⟨g, 0, none⟩ = some a ∧ W.cell? ⟨g, 1, none⟩ = some b ∧ W.cell? ⟨g, 2, none⟩ = some c ∧ W.cell? ⟨g, 3, none⟩ = some d ∧ W.cell? ⟨g, 4, none⟩ = some e ∧ W.cell? ⟨g, 5, none⟩ = some f ∧ W.cell? ⟨g, 6, none⟩ = some h := ⟨H.cell 0, H.cell 1, H.cell 2, H.cell 3, H.cell 4, H.cell 5, H.cell 6⟩
theorem seven_put {w W : World} {b base : Nat} {t : TypeId} {x0 x1 x2 x3 x4 x5 x6 : Value} (hz : Has W b t [x0, x1, x2, x3, x4, x5, x6]) (hB : Below base w W) (hb : base ≤ b) (v0 v1 v2 v3 v4 v5 v6 : Value) :
    (W.frozen? ⟨b, 0, none⟩ = false ∧ W.frozen? ⟨b, 1, none⟩ = false ∧ W.frozen? ⟨b, 2, none⟩ = false ∧ W.frozen? ⟨b, 3, none⟩ = false ∧ W.frozen? ⟨b, 4, none⟩ = false ∧ W.frozen? ⟨b, 5, none⟩ = false ∧ W.frozen? ⟨b, 6, none⟩ = false) ∧
    Hid (Has (World.setCell (World.setCell (World.setCell (World.setCell (World.setCell (World.setCell (World.setCell W ⟨b, 0, none⟩ v0) ⟨b, 1, none⟩ v1) ⟨b, 2, none⟩ v2) ⟨b, 3, none⟩ v3) ⟨b, 4, none⟩ v4) ⟨b, 5, none⟩ v5) ⟨b, 6, none⟩ v6) b t [v0, v1, v2, v3, v4, v5, v6]) ∧ Hid (Below base w (World.setCell (World.setCell (World.setCell (World.setCell (World.setCell (World.setCell (World.setCell W ⟨b, 0, none⟩ v0) ⟨b, 1, none⟩ v1) ⟨b, 2, none⟩ v2) ⟨b, 3, none⟩ v3) ⟨b, 4, none⟩ v4) ⟨b, 5, none⟩ v5) ⟨b, 6, none⟩ v6)) ∧ W.grownBy (World.setCell (World.setCell (World.setCell (World.setCell (World.setCell (World.setCell (World.setCell W ⟨b, 0, none⟩ v0) ⟨b, 1, none⟩ v1) ⟨b, 2, none⟩ v2) ⟨b, 3, none⟩ v3) ⟨b, 4, none⟩ v4) ⟨b, 5, none⟩ v5) ⟨b, 6, none⟩ v6) (some b) :=
  ⟨⟨hz.frozen 0, hz.frozen 1, hz.frozen 2, hz.frozen 3, hz.frozen 4, hz.frozen 5, hz.frozen 6⟩, hide (((((((hz.set_ 0 v0).set_ 1 v1).set_ 2 v2).set_ 3 v3).set_ 4 v4).set_ 5 v5).set_ 6 v6), hide (((((((hB.setCell (p := ⟨b, 0, none⟩) hb v0).setCell (p := ⟨b, 1, none⟩) hb v1).setCell (p := ⟨b, 2, none⟩) hb v2).setCell (p := ⟨b, 3, none⟩) hb v3).setCell (p := ⟨b, 4, none⟩) hb v4).setCell (p := ⟨b, 5, none⟩) hb v5).setCell (p := ⟨b, 6, none⟩) hb v6), (((((((grown_cell _ ⟨b, 0, none⟩ v0).trans (grown_cell _ ⟨b, 1, none⟩ v1)).trans (grown_cell _ ⟨b, 2, none⟩ v2)).trans (grown_cell _ ⟨b, 3, none⟩ v3)).trans (grown_cell _ ⟨b, 4, none⟩ v4)).trans (grown_cell _ ⟨b, 5, none⟩ v5)).trans (grown_cell _ ⟨b, 6, none⟩ v6))⟩
set_option maxRecDepth 100000 in
set_option maxHeartbeats 8000000 in
theorem pclone_c (p : Pn) (w : World) (hp : p.In w) :
    Calls Tryd.prog 22 #[.agg #[.int .i64 p.size, .slice p.V p.vs.length p.vc, .slice p.C p.cs.length p.cc, .slice p.L p.ls.length p.lc, .slice p.K p.is.length p.kc, .int .i64 p.inp, .int .i64 p.out]] w fun e w' => CloneIs w w' p e ∧ Below w.heap.size w w' := by
  obtain ⟨hb0, hT, hZ⟩ := box_two w 27 27 [.int .i64 p.size, .slice p.V p.vs.length p.vc, .slice p.C p.cs.length p.cc, .slice p.L p.ls.length p.lc, .slice p.K p.is.length p.kc, .int .i64 p.inp, .int .i64 p.out] [.int .i64 0, .slice none 0 0, .slice none 0 0, .slice none 0 0, .slice none 0 0, .int .i64 0, .int .i64 0]
  have H1 := hide (fun (W : World) (hb : Below w.heap.size w W) => each_vw p.vs p.V p.vc W (hp.V.below hb) (fun x hx => (hp.vs x hx).below hb) hp.lv)
  have H2 := hide (fun (W : World) (hb : Below w.heap.size w W) => each_ten p.cs p.C p.cc W (hp.C.below hb) (fun x hx => (hp.cs x hx).below hb) hp.lc)
  have H3 := hide (fun (W : World) (hb : Below w.heap.size w W) => each_dsc p.ls p.L p.lc W (hp.L.below hb) (fun x hx => (hp.ls x hx).below hb) hp.ll)
  have H4 := hide (fun (W : World) (hb : Below w.heap.size w W) => each_ins p.is p.K p.kc W (hp.K.below hb) (fun x hx => (hp.is x hx).below hb) hp.li)
  have HFIN : Hid (∀ (W W' : World) (g1 g2 g3 g4 : Nat) (y1 : List Vw) (y2 : List Ten) (y3 : List Dsc) (y4 : List Ins), W.grownBy W' (some (w.heap.size + 1)) → NotP W (some (w.heap.size + 1)) → w.heap.size ≤ g1 → Has W g1 61 (y1.flatMap Vw.vals) → y1.map Vw.pl = p.vs.map Vw.pl → (∀ y ∈ y1, Vw.Io w.heap.size W y) → w.heap.size ≤ g2 → Has W g2 70 (y2.flatMap Ten.vals) → y2.map Ten.pl = p.cs.map Ten.pl → (∀ y ∈ y2, Ten.Io w.heap.size W y) → w.heap.size ≤ g3 → Has W g3 59 (y3.flatMap Dsc.vals) → y3.map Dsc.pl = p.ls.map Dsc.pl → (∀ y ∈ y3, Dsc.Io w.heap.size W y) → w.heap.size ≤ g4 → Has W g4 48 (y4.flatMap Ins.vals) → y4.map Ins.pl = p.is.map Ins.pl → (∀ y ∈ y4, Ins.Ck w.heap.size W y) → InsApart y4 → (∀ y ∈ y4, (∀ v ∈ y1, RowOff (.slice y.G y.gs.length y.gc) v.d.P v.d.zs) ∧ (∀ t ∈ y2, RowOff (.slice y.G y.gs.length y.gc) t.P t.zs ∧ RowOff (.slice y.G y.gs.length y.gc) t.D t.ds) ∧ (∀ d ∈ y3, RowOff (.slice y.G y.gs.length y.gc) d.P d.zs)) → CloneIs w W' p (.returned (.agg #[.int .i64 p.size, .slice (some ⟨g1, 0, none⟩) p.vs.length p.vs.length, .slice (some ⟨g2, 0, none⟩) p.cs.length p.cs.length, .slice (some ⟨g3, 0, none⟩) p.ls.length p.ls.length, .slice (some ⟨g4, 0, none⟩) p.is.length p.is.length, .int .i64 p.inp, .int .i64 p.out]))) := hide (fun W W' g1 g2 g3 g4 y1 y2 y3 y4 hg hn a1 a2 a3 a4 b1 b2 b3 b4 c1 c2 c3 c4 d1 d2 d3 d4 e1 e2 => by
    obtain ⟨q, e, hpl, hcl⟩ := Pn.made p a1 a2 a3 a4 b1 b2 b3 b4 c1 c2 c3 c4 d1 d2 d3 d4 e1 e2
    exact ⟨q, by rw [e], hpl, hcl.grown hg hn⟩)
  obtain ⟨nv, hnv⟩ : ∃ n, Hid (p.vs.length = n) := ⟨_, hide rfl⟩
  obtain ⟨nc, hnc⟩ : ∃ n, Hid (p.cs.length = n) := ⟨_, hide rfl⟩
  obtain ⟨nl, hnl⟩ : ∃ n, Hid (p.ls.length = n) := ⟨_, hide rfl⟩
  obtain ⟨nk, hnk⟩ : ∃ n, Hid (p.is.length = n) := ⟨_, hide rfl⟩
  have E1 : Hid (∀ W xs e, EachVw W xs p.vs e → EachVw W xs p.vs e) := hide fun _ _ _ h => h
  unfold EachVw at H1
  unfold EachTen at H2
  unfold EachDsc at H3
  unfold EachIns at H4
  rw [hnv.out] at H1
  rw [hnc.out] at H2
  rw [hnl.out] at H3
  rw [hnk.out] at H4
  rw [hnv.out, hnc.out, hnl.out, hnk.out] at HFIN hb0 hT hZ ⊢
  have HB0 := hide hb0
  have HT0 := hide hT
  have HZ0 := hide hZ
  have hS0 := seven_held hT
  clear hb0 hT hZ hp E1
  go_enter Tryd.func22, Tryd.ntmps22
  go_wp2_with fail
  go_region_held3 (fun W => W.cell? ⟨w.heap.size, 0, none⟩ = some (.int .i64 p.size) ∧ W.cell? ⟨w.heap.size, 1, none⟩ = some (.slice p.V nv p.vc) ∧ W.cell? ⟨w.heap.size, 2, none⟩ = some (.slice p.C nc p.cc) ∧ W.cell? ⟨w.heap.size, 3, none⟩ = some (.slice p.L nl p.lc) ∧ W.cell? ⟨w.heap.size, 4, none⟩ = some (.slice p.K nk p.kc) ∧ W.cell? ⟨w.heap.size, 5, none⟩ = some (.int .i64 p.inp) ∧ W.cell? ⟨w.heap.size, 6, none⟩ = some (.int .i64 p.out))
    (first | with_reducible exact hS0 | with_reducible exact hS1 | with_reducible exact hS2 | with_reducible exact hS3 | with_reducible exact hS4 | with_reducible exact hS9.out)
    (first
      | (go_at_call 58; (with_reducible refine (H1.out _ HB0.out).mono ?_); rintro e W1 ⟨⟨g1, y1, rfl, hg1, r1, p1, i1⟩, hb1⟩; have ht1 := Has.below HT0.out hb1 (Has.lt HT0.out); have hz1 := Has.below HZ0.out hb1 (Has.lt HZ0.out); have hB1 := Below.trans HB0.out (hb1.mono (Below.size HB0.out)); have hS1 := seven_held ht1)
      | (go_at_call 60; (with_reducible refine (H2.out _ hB1).mono ?_); rintro e W2 ⟨⟨g2, y2, rfl, hg2, r2, p2, i2⟩, hb2⟩; have ht2 := Has.below ht1 hb2 (Has.lt ht1); have hz2 := Has.below hz1 hb2 (Has.lt hz1); have hB2 := Below.trans hB1 (hb2.mono (Below.size hB1)); have hS2 := seven_held ht2)
      | (go_at_call 62; (with_reducible refine (H3.out _ hB2).mono ?_); rintro e W3 ⟨⟨g3, y3, rfl, hg3, r3, p3, i3⟩, hb3⟩; have ht3 := Has.below ht2 hb3 (Has.lt ht2); have hz3 := Has.below hz2 hb3 (Has.lt hz2); have hB3 := Below.trans hB2 (hb3.mono (Below.size hB2)); have hS3 := seven_held ht3)
      | (go_at_call 64; (with_reducible refine (H4.out _ hB3).mono ?_); rintro e W4 ⟨⟨g4, y4, rfl, hg4, r4, p4, i4, ap4⟩, hb4⟩; have ht4 := Has.below ht3 hb4 (Has.lt ht3); have hz4 := Has.below hz3 hb4 (Has.lt hz3); have hB4 := Below.trans hB3 (hb4.mono (Below.size hB3)); have hS4 := seven_held ht4; have hb24 := hb3.trans (hb4.mono hb3.size); have hb14 := hb2.trans (hb24.mono hb2.size); obtain ⟨⟨f0, f1, f2, f3, f4, f5, f6⟩, HO, HOB, hgr⟩ := seven_put hz4 hB4 (Nat.le_add_right _ 1) (.int .i64 p.size) (.slice (some ⟨g1, 0, none⟩) nv nv) (.slice (some ⟨g2, 0, none⟩) nc nc) (.slice (some ⟨g3, 0, none⟩) nl nl) (.slice (some ⟨g4, 0, none⟩) nk nk) (.int .i64 p.inp) (.int .i64 p.out); obtain ⟨d0, d1, d2, d3, d4, d5, d6⟩ := seven_held hz4; have hS9 := hide (seven_held (ht4.grown hgr (by simp))); have HQ := hide (HFIN.out _ _ _ _ _ _ _ _ _ _ hgr (NotP.plan hz4) (Nat.le_trans HB0.out.size hg1) (r1.below hb14 r1.lt) p1 (fun y hy => (Vw.Io.grown (Vw.Io.less (i1 y hy) HB0.out.size) (below_grown hb14) (NotT.none _ _))) (Nat.le_trans hB1.size hg2) (r2.below hb24 r2.lt) p2 (fun y hy => (Ten.Io.grown (Ten.Io.less (i2 y hy) hB1.size) (below_grown hb24) (NotT.none _ _))) (Nat.le_trans hB2.size hg3) (r3.below hb4 r3.lt) p3 (fun y hy => (Dsc.Io.grown (Dsc.Io.less (i3 y hy) hB2.size) (below_grown hb4) (NotT.none _ _))) (Nat.le_trans hB3.size hg4) r4 p4 (fun y hy => Ins.Ck.less (i4 y hy) hB3.size) ap4 (fun y hy => ⟨fun v hv => row_off1 (i1 v hv).1 (i4 y hy).own (Nat.le_trans hb2.size hb3.size), fun t ht => ⟨row_off1 (i2 t ht).1 (i4 y hy).own hb3.size, row_off1 (i2 t ht).2.1 (i4 y hy).own hb3.size⟩, fun d hd => row_off1 (i3 d hd).1 (i4 y hy).own (Nat.le_refl _)⟩))))
  go_wp2_with fail
  refine bodyPost_ret (results_cell_row rfl _ _ (w.heap.size + 1) 27 #[.int .i64 p.size, .slice (some ⟨g1, 0, none⟩) nv nv, .slice (some ⟨g2, 0, none⟩) nc nc, .slice (some ⟨g3, 0, none⟩) nl nl, .slice (some ⟨g4, 0, none⟩) nk nk, .int .i64 p.inp, .int .i64 p.out] (0, 0) _ rfl HO.out Tryd.underlying27 rfl (by kernel_rfl)) rfl ?_
  exact ⟨HQ.out, HOB.out⟩
end Go.Proofs.YthjnkaikjjjceaaDoor
