/-
  The law MatSays, walked. By an AI agent. No person has read it.
-/
import Derived.Test.YtkehdgjdieemkaaDoorRefI
namespace Go.Proofs.YtkehdgjdieemkaaDoor
open Go.RowKit

theorem E3.of {w : World} {es : List Addr} (h : Ez w es) : ∃ ah am ar, es[0]? = some ah ∧ es[1]? = some ar ∧ es[3]? = some am ∧ E3 w ah am ar := by
  obtain ⟨ah, hh⟩ : ∃ a, es[0]? = some a := ⟨_, List.getElem?_eq_getElem (by rw [h.1]; decide)⟩
  obtain ⟨ar, hr⟩ : ∃ a, es[1]? = some a := ⟨_, List.getElem?_eq_getElem (by rw [h.1]; decide)⟩
  obtain ⟨am, hm⟩ : ∃ a, es[3]? = some a := ⟨_, List.getElem?_eq_getElem (by rw [h.1]; decide)⟩
  exact ⟨ah, am, ar, hh, hr, hm, h.2.2 0 _ ah rfl hh, h.2.2 3 _ am rfl hm, h.2.2 1 _ ar rfl hr⟩
theorem Mat.tor (a : Ten) : Cel.or [a] (Mat.tcode a.look) (Rf.tzs a.look) [] = (if Cel.fault [a] (Mat.tcode a.look) = (0, none) then Mat.tzs a else []) ∧ Cel.or [a] (Mat.tcode a.look) (Rf.tu a.look) false = (if Cel.fault [a] (Mat.tcode a.look) = (0, none) then a.u else false) := by
  unfold Cel.or
  by_cases h : Cel.fault [a] (Mat.tcode a.look) = (0, none)
  · rw [if_pos h, if_pos h, if_pos h, if_pos h]
    unfold Rf.tzs Rf.tu
    rw [if_pos (Cel.fine h).2, if_pos (Cel.fine h).2]
    exact ⟨rfl, rfl⟩
  · rw [if_neg h, if_neg h, if_neg h, if_neg h]
    exact ⟨rfl, rfl⟩
/-- The cells that the closing region reads. -/
abbrev MsS (p0 p1 p2 p3 p4 p5 p6 p7 p8 p9 p10 p11 p12 p13 p14 p15 p16 p17 p18 p19 p20 p21 p22 p23 p24 p25 p26 p27 : Addr) (v0 v1 v2 v3 v4 v5 v6 v7 v8 v9 v10 v11 v12 v13 v14 v15 v16 v17 v18 v19 v20 v21 v22 v23 v24 v25 v26 v27 : Value) (W : World) : Prop := W.cell? p0 = some v0 ∧ W.cell? p1 = some v1 ∧ W.cell? p2 = some v2 ∧ W.cell? p3 = some v3 ∧ W.cell? p4 = some v4 ∧ W.cell? p5 = some v5 ∧ W.cell? p6 = some v6 ∧ W.cell? p7 = some v7 ∧ W.cell? p8 = some v8 ∧ W.cell? p9 = some v9 ∧ W.cell? p10 = some v10 ∧ W.cell? p11 = some v11 ∧ W.cell? p12 = some v12 ∧ W.cell? p13 = some v13 ∧ W.cell? p14 = some v14 ∧ W.cell? p15 = some v15 ∧ W.cell? p16 = some v16 ∧ W.cell? p17 = some v17 ∧ W.cell? p18 = some v18 ∧ W.cell? p19 = some v19 ∧ W.cell? p20 = some v20 ∧ W.cell? p21 = some v21 ∧ W.cell? p22 = some v22 ∧ W.cell? p23 = some v23 ∧ W.cell? p24 = some v24 ∧ W.cell? p25 = some v25 ∧ W.cell? p26 = some v26 ∧ W.cell? p27 = some v27
theorem MsS.keep {p0 p1 p2 p3 p4 p5 p6 p7 p8 p9 p10 p11 p12 p13 p14 p15 p16 p17 p18 p19 p20 p21 p22 p23 p24 p25 p26 p27 : Addr} {v0 v1 v2 v3 v4 v5 v6 v7 v8 v9 v10 v11 v12 v13 v14 v15 v16 v17 v18 v19 v20 v21 v22 v23 v24 v25 v26 v27 : Value} {W W' : World} (h : MsS p0 p1 p2 p3 p4 p5 p6 p7 p8 p9 p10 p11 p12 p13 p14 p15 p16 p17 p18 p19 p20 p21 p22 p23 p24 p25 p26 p27 v0 v1 v2 v3 v4 v5 v6 v7 v8 v9 v10 v11 v12 v13 v14 v15 v16 v17 v18 v19 v20 v21 v22 v23 v24 v25 v26 v27 W) (hB : Below W.heap.size W W') : MsS p0 p1 p2 p3 p4 p5 p6 p7 p8 p9 p10 p11 p12 p13 p14 p15 p16 p17 p18 p19 p20 p21 p22 p23 p24 p25 p26 p27 v0 v1 v2 v3 v4 v5 v6 v7 v8 v9 v10 v11 v12 v13 v14 v15 v16 v17 v18 v19 v20 v21 v22 v23 v24 v25 v26 v27 W' := by
  obtain ⟨h0, h1, h2, h3, h4, h5, h6, h7, h8, h9, h10, h11, h12, h13, h14, h15, h16, h17, h18, h19, h20, h21, h22, h23, h24, h25, h26, h27⟩ := h
  exact ⟨ten_kept h0 hB, ten_kept h1 hB, ten_kept h2 hB, ten_kept h3 hB, ten_kept h4 hB, ten_kept h5 hB, ten_kept h6 hB, ten_kept h7 hB, ten_kept h8 hB, ten_kept h9 hB, ten_kept h10 hB, ten_kept h11 hB, ten_kept h12 hB, ten_kept h13 hB, ten_kept h14 hB, ten_kept h15 hB, ten_kept h16 hB, ten_kept h17 hB, ten_kept h18 hB, ten_kept h19 hB, ten_kept h20 hB, ten_kept h21 hB, ten_kept h22 hB, ten_kept h23 hB, ten_kept h24 hB, ten_kept h25 hB, ten_kept h26 hB, ten_kept h27 hB⟩
theorem MsS.drew {p0 p1 p2 p3 p4 p5 p6 p7 p8 p9 p10 p11 p12 p13 p14 p15 p16 p17 p18 p19 p20 p21 p22 p23 p24 p25 p26 p27 : Addr} {v0 v1 v2 v3 v4 v5 v6 v7 v8 v9 v10 v11 v12 v13 v14 v15 v16 v17 v18 v19 v20 v21 v22 v23 v24 v25 v26 v27 : Value} {W : World} (h : MsS p0 p1 p2 p3 p4 p5 p6 p7 p8 p9 p10 p11 p12 p13 p14 p15 p16 p17 p18 p19 p20 p21 p22 p23 p24 p25 p26 p27 v0 v1 v2 v3 v4 v5 v6 v7 v8 v9 v10 v11 v12 v13 v14 v15 v16 v17 v18 v19 v20 v21 v22 v23 v24 v25 v26 v27 W) : MsS p0 p1 p2 p3 p4 p5 p6 p7 p8 p9 p10 p11 p12 p13 p14 p15 p16 p17 p18 p19 p20 p21 p22 p23 p24 p25 p26 p27 v0 v1 v2 v3 v4 v5 v6 v7 v8 v9 v10 v11 v12 v13 v14 v15 v16 v17 v18 v19 v20 v21 v22 v23 v24 v25 v26 v27 W.drew := h
set_option maxRecDepth 100000 in
set_option maxHeartbeats 4000000 in

theorem matsays_c (es : List Addr) (a b : Ten) (za zb i : Int) (w : World) (hra : Ri w a.P a.zs) (hda : Ri w a.D a.ds) (hrb : Ri w b.P b.zs) (hdb : Ri w b.D b.ds) (hzz : ∀ q ∈ [za, zb], (Lit.int .i64 q).wf = true) (hi : -9223372036854775808 ≤ i ∧ i ≤ 9223372036854775807) (hZ : Ez w es) :
    Calls Tryd.prog 3 #[.agg (tcells a.P a.zs.length a.cap a.u a.D a.ds.length a.dcap), .agg (tcells b.P b.zs.length b.cap b.u b.D b.ds.length b.dcap), .int .i64 za, .int .i64 zb, .int .i64 i] w fun e w' => e = .returned (.bool true) ∧ Below w.heap.size w w' := by
  obtain ⟨ah, am, ar, hah, har, ham, hE⟩ := E3.of hZ
  have HE := hide (fun W (hb : Below w.heap.size w W) => hE.below hb)
  have HEZ := hide (fun W (hb : Below w.heap.size w W) => hZ.below hb)
  have HAH := hide hah
  have HAR := hide har
  have HAM := hide ham
  have HZZ := hide hzz
  have HI := hide hi
  obtain ⟨sa, hsa⟩ : ∃ q_, Hid ((decide (a.zs.length ≤ 8) && decide (a.ds.length ≤ 300)) = q_) := ⟨_, hide rfl⟩
  obtain ⟨sb, hsb⟩ : ∃ q_, Hid ((decide (b.zs.length ≤ 8) && decide (b.ds.length ≤ 300)) = q_) := ⟨_, hide rfl⟩
  have WA := hide (fun W => worldtensor_c a.P a.D a.zs.length a.cap a.ds.length a.dcap a.u W)
  have WB := hide (fun W => worldtensor_c b.P b.D b.zs.length b.cap b.ds.length b.dcap b.u W)
  rw [hsa.out] at WA
  rw [hsb.out] at WB
  have IA : Hid (sa = true → ∀ W, Below w.heap.size w W → a.In W) := hide fun h W hb => by
    rw [← hsa.out] at h
    simp at h
    exact ⟨hra.below hb, hda.below hb, by omega, by omega⟩
  have IB : Hid (sb = true → ∀ W, Below w.heap.size w W → b.In W) := hide fun h W hb => by
    rw [← hsb.out] at h
    simp at h
    exact ⟨hrb.below hb, hdb.below hb, by omega, by omega⟩
  clear hra hda hrb hdb hzz hi hZ hE hah har ham hsa hsb

  go_enter Tryd.func3, Tryd.ntmps3
  obtain ⟨wa, hwa⟩ : ∃ W, W = w.alloc (.cells #[.slice a.P a.zs.length a.cap, .bool a.u, .slice a.D a.ds.length a.dcap] 26) := ⟨_, rfl⟩
  have hbA : Below w.heap.size w wa := by rw [hwa]; exact (Below.refl _ _).alloc (Nat.le_refl _) _
  have Ba : Hid (Has wa w.heap.size 26 [.slice a.P a.zs.length a.cap, .bool a.u, .slice a.D a.ds.length a.dcap]) := hide (by rw [hwa]; exact Has.new _ _ _)
  have Hwa := hide hwa
  clear hwa hbA
  have HB : Hid (Below w.heap.size w wa) := hide (by rw [Hwa.out]; exact (Below.refl _ _).alloc (Nat.le_refl _) _)
  obtain ⟨wb, hwb⟩ : ∃ W, W = wa.alloc (.cells #[.slice b.P b.zs.length b.cap, .bool b.u, .slice b.D b.ds.length b.dcap] 26) := ⟨_, rfl⟩
  have hbA : Below wa.heap.size wa wb := by rw [hwb]; exact (Below.refl _ _).alloc (Nat.le_refl _) _
  have Bb : Hid (Has wb (w.heap.size + 1) 26 [.slice b.P b.zs.length b.cap, .bool b.u, .slice b.D b.ds.length b.dcap]) := hide (by rw [hwb]; exact box_at _ _ _ _ (by rw [Hwa.out]; simp))
  replace Ba := hide (Ba.out.below hbA Ba.out.lt)
  replace HB := hide (HB.out.trans (hbA.mono HB.out.size))
  have Hwb := hide hwb
  clear hwb hbA
  go_wp2_with fail
  rw [← Hwa.out]
  rw [← Hwb.out]
  clear Hwa Hwb
  refine (first8_c ah am ar _ (HE.out _ HB.out)).mono ?_
  rintro e w1 ⟨rfl, hb⟩
  replace Ba := hide (Ba.out.below hb Ba.out.lt)
  replace HB := hide (HB.out.trans (hb.mono HB.out.size))
  replace Bb := hide (Bb.out.below hb Bb.out.lt)
  clear hb
  have c_Ba0 := Ba.out.cell 0
  have c_Ba1 := Ba.out.cell 1
  have c_Ba2 := Ba.out.cell 2
  go_wp2_with fail
  clear c_Ba0 c_Ba1 c_Ba2
  refine (WA.out _).mono ?_
  rintro e w2 ⟨rfl, hb⟩
  replace Ba := hide (Ba.out.below hb Ba.out.lt)
  replace HB := hide (HB.out.trans (hb.mono HB.out.size))
  replace Bb := hide (Bb.out.below hb Bb.out.lt)
  clear hb
  cases sa
  case false =>
    go_wp2_with fail
    go_ret
    exact ⟨rfl, HB.out⟩
  case true =>
  replace IA := hide (IA.out rfl)
  have c_Bb0 := Bb.out.cell 0
  have c_Bb1 := Bb.out.cell 1
  have c_Bb2 := Bb.out.cell 2
  go_wp2_with fail
  clear c_Bb0 c_Bb1 c_Bb2
  refine (WB.out _).mono ?_
  rintro e w3 ⟨rfl, hb⟩
  replace Ba := hide (Ba.out.below hb Ba.out.lt)
  replace HB := hide (HB.out.trans (hb.mono HB.out.size))
  replace Bb := hide (Bb.out.below hb Bb.out.lt)
  clear hb
  cases sb
  case false =>
    go_wp2_with fail
    go_ret
    exact ⟨rfl, HB.out⟩
  case true =>
  replace IB := hide (IB.out rfl)
  have c_Ba0 := Ba.out.cell 0
  have c_Ba1 := Ba.out.cell 1
  have c_Ba2 := Ba.out.cell 2
  have c_Bb0 := Bb.out.cell 0
  have c_Bb1 := Bb.out.cell 1
  have c_Bb2 := Bb.out.cell 2
  go_wp2_with fail
  clear c_Ba0 c_Ba1 c_Ba2 c_Bb0 c_Bb1 c_Bb2
  refine (mul_c a b za zb ah am ar _ (IA.out _ HB.out) (IB.out _ HB.out) HZZ.out (HE.out _ HB.out)).mono ?_
  rintro e w4 ⟨⟨t, x, rfl, ht, -, htz, htu, htd, hx, -⟩, hb⟩
  replace Ba := hide (Ba.out.below hb Ba.out.lt)
  replace HB := hide (HB.out.trans (hb.mono HB.out.size))
  replace Bb := hide (Bb.out.below hb Bb.out.lt)
  clear hb
  have Zt := hide htz
  have Ut := hide htu
  have Dt := hide htd
  have Tt := hide ht
  have Xt := hide hx
  clear htz htu htd ht hx
  have c_Ba0 := Ba.out.cell 0
  have c_Ba1 := Ba.out.cell 1
  have c_Ba2 := Ba.out.cell 2
  have l_Ba := Ba.out.lt
  have c_Bb0 := Bb.out.cell 0
  have c_Bb1 := Bb.out.cell 1
  have c_Bb2 := Bb.out.cell 2
  have l_Bb := Bb.out.lt
  obtain ⟨w4b, hw4b⟩ : ∃ W, W = w4.alloc (.cells #[.slice t.P t.zs.length t.cap, .bool t.u, .slice t.D t.ds.length t.dcap] 26) := ⟨_, rfl⟩
  have hbA : Below w4.heap.size w4 w4b := by rw [hw4b]; exact (Below.refl _ _).alloc (Nat.le_refl _) _
  have Bt : Hid (Has w4b w4.heap.size 26 [.slice t.P t.zs.length t.cap, .bool t.u, .slice t.D t.ds.length t.dcap]) := hide (by rw [hw4b]; exact Has.new _ _ _)
  replace Ba := hide (Ba.out.below hbA Ba.out.lt)
  replace HB := hide (HB.out.trans (hbA.mono HB.out.size))
  replace Bb := hide (Bb.out.below hbA Bb.out.lt)
  replace Tt := hide (Tt.out.below hbA)
  replace Xt := hide (Xt.out.down hbA)
  have Hw4b := hide hw4b
  clear hw4b hbA
  obtain ⟨w4c, hw4c⟩ : ∃ W, W = w4b.alloc (.cells #[.int .i64 za, .int .i64 zb] 3) := ⟨_, rfl⟩
  have hbA : Below w4b.heap.size w4b w4c := by rw [hw4c]; exact (Below.refl _ _).alloc (Nat.le_refl _) _
  have SQ : Hid (Has w4c (w4.heap.size + 1) 3 [.int .i64 za, .int .i64 zb]) := hide (by rw [hw4c]; exact box_at _ _ _ _ (by rw [Hw4b.out]; simp))
  replace Ba := hide (Ba.out.below hbA Ba.out.lt)
  replace HB := hide (HB.out.trans (hbA.mono HB.out.size))
  replace Bb := hide (Bb.out.below hbA Bb.out.lt)
  replace Tt := hide (Tt.out.below hbA)
  replace Xt := hide (Xt.out.down hbA)
  replace Bt := hide (Bt.out.below hbA Bt.out.lt)
  have Hw4c := hide hw4c
  clear hw4c hbA
  obtain ⟨w5, hw5⟩ : ∃ W, W = w4c.alloc (.cells #[.slice a.P a.zs.length a.cap, .bool a.u, .slice a.D a.ds.length a.dcap, .slice b.P b.zs.length b.cap, .bool b.u, .slice b.D b.ds.length b.dcap] 26) := ⟨_, rfl⟩
  have hbA : Below w4c.heap.size w4c w5 := by rw [hw5]; exact (Below.refl _ _).alloc (Nat.le_refl _) _
  have ST : Hid (Has w5 (w4.heap.size + 2) 26 [.slice a.P a.zs.length a.cap, .bool a.u, .slice a.D a.ds.length a.dcap, .slice b.P b.zs.length b.cap, .bool b.u, .slice b.D b.ds.length b.dcap]) := hide (by rw [hw5]; exact box_at _ _ _ _ (by rw [Hw4c.out, Hw4b.out]; simp))
  replace Ba := hide (Ba.out.below hbA Ba.out.lt)
  replace HB := hide (HB.out.trans (hbA.mono HB.out.size))
  replace Bb := hide (Bb.out.below hbA Bb.out.lt)
  replace Tt := hide (Tt.out.below hbA)
  replace Xt := hide (Xt.out.down hbA)
  replace Bt := hide (Bt.out.below hbA Bt.out.lt)
  replace SQ := hide (SQ.out.below hbA SQ.out.lt)
  have Hw5 := hide hw5
  clear hw5 hbA
  go_wp2_with fail
  rw [← Hw4b.out]
  rw [← Hw4c.out]
  rw [← Hw5.out]
  clear Hw4b Hw4c Hw5 c_Ba0 c_Ba1 c_Ba2 l_Ba c_Bb0 c_Bb1 c_Bb2 l_Bb
  obtain ⟨pp, pi, hfv⟩ := fval_is (Cel.fault [a, b] (Mat.code za zb a.look b.look))
  obtain ⟨kc, hkc⟩ : ∃ q_, Hid ((Cel.fault [a, b] (Mat.code za zb a.look b.look)).1 = q_) := ⟨_, hide rfl⟩
  rw [hkc.out] at hfv
  have HFV := hide hfv
  have HAP := rapply_mat za zb a b (some ⟨(w4.heap.size + 1), 0, none⟩) (some ⟨(w4.heap.size + 2), 0, none⟩) 2 2 _ (SQ.out.ri (zs := [za, zb]) HZZ.out) (show Row _ _ ([a, b].flatMap Ten.vals) from ST.out.row) (IA.out _ HB.out) (IB.out _ HB.out)
  unfold RTenE at HAP
  rw [hfv] at HAP
  replace HAP := hide HAP
  clear hfv
  refine (HAP.out).mono ?_
  rintro e w6 ⟨⟨s, rfl, hs, hsz, hsu, hsd⟩, hb⟩
  replace Ba := hide (Ba.out.below hb Ba.out.lt)
  replace HB := hide (HB.out.trans (hb.mono HB.out.size))
  replace Bb := hide (Bb.out.below hb Bb.out.lt)
  replace Tt := hide (Tt.out.below hb)
  replace Xt := hide (Xt.out.down hb)
  replace Bt := hide (Bt.out.below hb Bt.out.lt)
  replace SQ := hide (SQ.out.below hb SQ.out.lt)
  replace ST := hide (ST.out.below hb ST.out.lt)
  clear hb
  have Zs := hide hsz
  have Us := hide hsu
  have Ds := hide hsd
  have Ts := hide hs
  clear hsz hsu hsd hs HAP SQ ST
  have c_Ba0 := Ba.out.cell 0
  have c_Ba1 := Ba.out.cell 1
  have l_Ba := Ba.out.lt
  have c_Bb0 := Bb.out.cell 0
  have c_Bb1 := Bb.out.cell 1
  have l_Bb := Bb.out.lt
  obtain ⟨w6b, hw6b⟩ : ∃ W, W = w6.alloc (.cells #[.slice s.P s.zs.length s.cap, .bool s.u, .slice s.D s.ds.length s.dcap] 26) := ⟨_, rfl⟩
  have hbA : Below w6.heap.size w6 w6b := by rw [hw6b]; exact (Below.refl _ _).alloc (Nat.le_refl _) _
  have Bs : Hid (Has w6b w6.heap.size 26 [.slice s.P s.zs.length s.cap, .bool s.u, .slice s.D s.ds.length s.dcap]) := hide (by rw [hw6b]; exact Has.new _ _ _)
  replace Ba := hide (Ba.out.below hbA Ba.out.lt)
  replace HB := hide (HB.out.trans (hbA.mono HB.out.size))
  replace Bb := hide (Bb.out.below hbA Bb.out.lt)
  replace Tt := hide (Tt.out.below hbA)
  replace Xt := hide (Xt.out.down hbA)
  replace Bt := hide (Bt.out.below hbA Bt.out.lt)
  replace Ts := hide (Ts.out.below hbA)
  have Hw6b := hide hw6b
  clear hw6b hbA
  obtain ⟨w6c, hw6c⟩ : ∃ W, W = w6b.alloc (.cells #[.int .i64 kc, .bool pp, .int .i64 pi] 34) := ⟨_, rfl⟩
  have hbA : Below w6b.heap.size w6b w6c := by rw [hw6c]; exact (Below.refl _ _).alloc (Nat.le_refl _) _
  have Bf : Hid (Has w6c (w6.heap.size + 1) 34 [.int .i64 kc, .bool pp, .int .i64 pi]) := hide (by rw [hw6c]; exact box_at _ _ _ _ (by rw [Hw6b.out]; simp))
  replace Ba := hide (Ba.out.below hbA Ba.out.lt)
  replace HB := hide (HB.out.trans (hbA.mono HB.out.size))
  replace Bb := hide (Bb.out.below hbA Bb.out.lt)
  replace Tt := hide (Tt.out.below hbA)
  replace Xt := hide (Xt.out.down hbA)
  replace Bt := hide (Bt.out.below hbA Bt.out.lt)
  replace Ts := hide (Ts.out.below hbA)
  replace Bs := hide (Bs.out.below hbA Bs.out.lt)
  have Hw6c := hide hw6c
  clear hw6c hbA
  go_wp2_with fail
  rw [← Hw6b.out]
  rw [← Hw6c.out]
  clear Hw6b Hw6c c_Ba0 c_Ba1 l_Ba c_Bb0 c_Bb1 l_Bb
  refine (mresult_c za zb a.look b.look ah am ar _ (IA.out _ HB.out).look (IB.out _ HB.out).look (HE.out _ HB.out)).mono ?_
  rintro e w7 ⟨⟨d, rfl, hd, -, hdz, hdu⟩, hb⟩
  replace Ba := hide (Ba.out.below hb Ba.out.lt)
  replace HB := hide (HB.out.trans (hb.mono HB.out.size))
  replace Bb := hide (Bb.out.below hb Bb.out.lt)
  replace Tt := hide (Tt.out.below hb)
  replace Xt := hide (Xt.out.down hb)
  replace Bt := hide (Bt.out.below hb Bt.out.lt)
  replace Ts := hide (Ts.out.below hb)
  replace Bs := hide (Bs.out.below hb Bs.out.lt)
  replace Bf := hide (Bf.out.below hb Bf.out.lt)
  clear hb
  have Zd := hide hdz
  have Ud := hide hdu
  have Td := hide hd
  clear hdz hdu hd
  have c_Ba0 := Ba.out.cell 0
  have c_Ba1 := Ba.out.cell 1
  have l_Ba := Ba.out.lt
  have c_Bb0 := Bb.out.cell 0
  have c_Bb1 := Bb.out.cell 1
  have l_Bb := Bb.out.lt
  obtain ⟨w7b, hw7b⟩ : ∃ W, W = w7.alloc (.cells #[.slice d.P d.zs.length d.cap, .bool d.u] 24) := ⟨_, rfl⟩
  have hbA : Below w7.heap.size w7 w7b := by rw [hw7b]; exact (Below.refl _ _).alloc (Nat.le_refl _) _
  have Bd : Hid (Has w7b w7.heap.size 24 [.slice d.P d.zs.length d.cap, .bool d.u]) := hide (by rw [hw7b]; exact Has.new _ _ _)
  replace Ba := hide (Ba.out.below hbA Ba.out.lt)
  replace HB := hide (HB.out.trans (hbA.mono HB.out.size))
  replace Bb := hide (Bb.out.below hbA Bb.out.lt)
  replace Tt := hide (Tt.out.below hbA)
  replace Xt := hide (Xt.out.down hbA)
  replace Bt := hide (Bt.out.below hbA Bt.out.lt)
  replace Ts := hide (Ts.out.below hbA)
  replace Bs := hide (Bs.out.below hbA Bs.out.lt)
  replace Bf := hide (Bf.out.below hbA Bf.out.lt)
  replace Td := hide (Td.out.below hbA)
  have Hw7b := hide hw7b
  clear hw7b hbA
  go_wp2_with fail
  rw [← Hw7b.out]
  clear Hw7b c_Ba0 c_Ba1 l_Ba c_Bb0 c_Bb1 l_Bb
  refine (rmat_c za zb a.look b.look _ (IA.out _ HB.out).look (IB.out _ HB.out).look).mono ?_
  rintro e w8 ⟨⟨y, rfl, hy, -, hyz, hyu⟩, hb⟩
  replace Ba := hide (Ba.out.below hb Ba.out.lt)
  replace HB := hide (HB.out.trans (hb.mono HB.out.size))
  replace Bb := hide (Bb.out.below hb Bb.out.lt)
  replace Tt := hide (Tt.out.below hb)
  replace Xt := hide (Xt.out.down hb)
  replace Bt := hide (Bt.out.below hb Bt.out.lt)
  replace Ts := hide (Ts.out.below hb)
  replace Bs := hide (Bs.out.below hb Bs.out.lt)
  replace Bf := hide (Bf.out.below hb Bf.out.lt)
  replace Td := hide (Td.out.below hb)
  replace Bd := hide (Bd.out.below hb Bd.out.lt)
  clear hb
  have Zy := hide hyz
  have Uy := hide hyu
  have Ty := hide hy
  clear hyz hyu hy
  have c_Ba0 := Ba.out.cell 0
  have c_Ba1 := Ba.out.cell 1
  have c_Ba2 := Ba.out.cell 2
  have l_Ba := Ba.out.lt
  obtain ⟨w8b, hw8b⟩ : ∃ W, W = w8.alloc (.cells #[.slice y.P y.zs.length y.cap, .bool y.u] 24) := ⟨_, rfl⟩
  have hbA : Below w8.heap.size w8 w8b := by rw [hw8b]; exact (Below.refl _ _).alloc (Nat.le_refl _) _
  have By : Hid (Has w8b w8.heap.size 24 [.slice y.P y.zs.length y.cap, .bool y.u]) := hide (by rw [hw8b]; exact Has.new _ _ _)
  replace Ba := hide (Ba.out.below hbA Ba.out.lt)
  replace HB := hide (HB.out.trans (hbA.mono HB.out.size))
  replace Bb := hide (Bb.out.below hbA Bb.out.lt)
  replace Tt := hide (Tt.out.below hbA)
  replace Xt := hide (Xt.out.down hbA)
  replace Bt := hide (Bt.out.below hbA Bt.out.lt)
  replace Ts := hide (Ts.out.below hbA)
  replace Bs := hide (Bs.out.below hbA Bs.out.lt)
  replace Bf := hide (Bf.out.below hbA Bf.out.lt)
  replace Td := hide (Td.out.below hbA)
  replace Bd := hide (Bd.out.below hbA Bd.out.lt)
  replace Ty := hide (Ty.out.below hbA)
  have Hw8b := hide hw8b
  clear hw8b hbA
  go_wp2_with fail
  rw [← Hw8b.out]
  clear Hw8b c_Ba0 c_Ba1 c_Ba2 l_Ba
  refine (mturn_c a ah am ar _ (IA.out _ HB.out) (HE.out _ HB.out)).mono ?_
  rintro e w9 ⟨⟨u, xu, rfl, hu, -, huz, huu, hud, hxu, -⟩, hb⟩
  replace Ba := hide (Ba.out.below hb Ba.out.lt)
  replace HB := hide (HB.out.trans (hb.mono HB.out.size))
  replace Bb := hide (Bb.out.below hb Bb.out.lt)
  replace Tt := hide (Tt.out.below hb)
  replace Xt := hide (Xt.out.down hb)
  replace Bt := hide (Bt.out.below hb Bt.out.lt)
  replace Ts := hide (Ts.out.below hb)
  replace Bs := hide (Bs.out.below hb Bs.out.lt)
  replace Bf := hide (Bf.out.below hb Bf.out.lt)
  replace Td := hide (Td.out.below hb)
  replace Bd := hide (Bd.out.below hb Bd.out.lt)
  replace Ty := hide (Ty.out.below hb)
  replace By := hide (By.out.below hb By.out.lt)
  clear hb
  have Zu := hide huz
  have Uu := hide huu
  have Du := hide hud
  have Tu := hide hu
  have Xu := hide hxu
  clear huz huu hud hu hxu
  have c_Ba0 := Ba.out.cell 0
  have c_Ba1 := Ba.out.cell 1
  have c_Ba2 := Ba.out.cell 2
  have l_Ba := Ba.out.lt
  obtain ⟨w9b, hw9b⟩ : ∃ W, W = w9.alloc (.cells #[.slice u.P u.zs.length u.cap, .bool u.u, .slice u.D u.ds.length u.dcap] 26) := ⟨_, rfl⟩
  have hbA : Below w9.heap.size w9 w9b := by rw [hw9b]; exact (Below.refl _ _).alloc (Nat.le_refl _) _
  have Bu : Hid (Has w9b w9.heap.size 26 [.slice u.P u.zs.length u.cap, .bool u.u, .slice u.D u.ds.length u.dcap]) := hide (by rw [hw9b]; exact Has.new _ _ _)
  replace Ba := hide (Ba.out.below hbA Ba.out.lt)
  replace HB := hide (HB.out.trans (hbA.mono HB.out.size))
  replace Bb := hide (Bb.out.below hbA Bb.out.lt)
  replace Tt := hide (Tt.out.below hbA)
  replace Xt := hide (Xt.out.down hbA)
  replace Bt := hide (Bt.out.below hbA Bt.out.lt)
  replace Ts := hide (Ts.out.below hbA)
  replace Bs := hide (Bs.out.below hbA Bs.out.lt)
  replace Bf := hide (Bf.out.below hbA Bf.out.lt)
  replace Td := hide (Td.out.below hbA)
  replace Bd := hide (Bd.out.below hbA Bd.out.lt)
  replace Ty := hide (Ty.out.below hbA)
  replace By := hide (By.out.below hbA By.out.lt)
  replace Tu := hide (Tu.out.below hbA)
  replace Xu := hide (Xu.out.down hbA)
  have Hw9b := hide hw9b
  clear hw9b hbA
  obtain ⟨w9c, hw9c⟩ : ∃ W, W = w9b.alloc (.cells #[.slice a.P a.zs.length a.cap, .bool a.u, .slice a.D a.ds.length a.dcap] 26) := ⟨_, rfl⟩
  have hbA : Below w9b.heap.size w9b w9c := by rw [hw9c]; exact (Below.refl _ _).alloc (Nat.le_refl _) _
  have ST : Hid (Has w9c (w9.heap.size + 1) 26 [.slice a.P a.zs.length a.cap, .bool a.u, .slice a.D a.ds.length a.dcap]) := hide (by rw [hw9c]; exact box_at _ _ _ _ (by rw [Hw9b.out]; simp))
  replace Ba := hide (Ba.out.below hbA Ba.out.lt)
  replace HB := hide (HB.out.trans (hbA.mono HB.out.size))
  replace Bb := hide (Bb.out.below hbA Bb.out.lt)
  replace Tt := hide (Tt.out.below hbA)
  replace Xt := hide (Xt.out.down hbA)
  replace Bt := hide (Bt.out.below hbA Bt.out.lt)
  replace Ts := hide (Ts.out.below hbA)
  replace Bs := hide (Bs.out.below hbA Bs.out.lt)
  replace Bf := hide (Bf.out.below hbA Bf.out.lt)
  replace Td := hide (Td.out.below hbA)
  replace Bd := hide (Bd.out.below hbA Bd.out.lt)
  replace Ty := hide (Ty.out.below hbA)
  replace By := hide (By.out.below hbA By.out.lt)
  replace Tu := hide (Tu.out.below hbA)
  replace Xu := hide (Xu.out.down hbA)
  replace Bu := hide (Bu.out.below hbA Bu.out.lt)
  have Hw9c := hide hw9c
  clear hw9c hbA
  go_wp2_with fail
  rw [← Hw9b.out]
  rw [← Hw9c.out]
  clear Hw9b Hw9c c_Ba0 c_Ba1 c_Ba2 l_Ba
  obtain ⟨qp, qi, hfv⟩ := fval_is (Cel.fault [a] (Mat.tcode a.look))
  obtain ⟨kt, hkt⟩ : ∃ q_, Hid ((Cel.fault [a] (Mat.tcode a.look)).1 = q_) := ⟨_, hide rfl⟩
  rw [hkt.out] at hfv
  have HGV := hide hfv
  have HAP := rapply_turn a none (some ⟨(w9.heap.size + 1), 0, none⟩) 0 1 _ (show Row _ _ ([a].flatMap Ten.vals) from ST.out.row) (IA.out _ HB.out)
  unfold RTenE at HAP
  rw [hfv] at HAP
  replace HAP := hide HAP
  clear hfv
  refine (HAP.out).mono ?_
  rintro e w10 ⟨⟨z, rfl, hz, hzz, hzu, hzd⟩, hb⟩
  replace Ba := hide (Ba.out.below hb Ba.out.lt)
  replace HB := hide (HB.out.trans (hb.mono HB.out.size))
  replace Bb := hide (Bb.out.below hb Bb.out.lt)
  replace Tt := hide (Tt.out.below hb)
  replace Xt := hide (Xt.out.down hb)
  replace Bt := hide (Bt.out.below hb Bt.out.lt)
  replace Ts := hide (Ts.out.below hb)
  replace Bs := hide (Bs.out.below hb Bs.out.lt)
  replace Bf := hide (Bf.out.below hb Bf.out.lt)
  replace Td := hide (Td.out.below hb)
  replace Bd := hide (Bd.out.below hb Bd.out.lt)
  replace Ty := hide (Ty.out.below hb)
  replace By := hide (By.out.below hb By.out.lt)
  replace Tu := hide (Tu.out.below hb)
  replace Xu := hide (Xu.out.down hb)
  replace Bu := hide (Bu.out.below hb Bu.out.lt)
  replace ST := hide (ST.out.below hb ST.out.lt)
  clear hb
  have Zz := hide hzz
  have Uz := hide hzu
  have Dz := hide hzd
  have Tz := hide hz
  clear hzz hzu hzd hz HAP ST
  obtain ⟨w10b, hw10b⟩ : ∃ W, W = w10.alloc (.cells #[.slice z.P z.zs.length z.cap, .bool z.u, .slice z.D z.ds.length z.dcap] 26) := ⟨_, rfl⟩
  have hbA : Below w10.heap.size w10 w10b := by rw [hw10b]; exact (Below.refl _ _).alloc (Nat.le_refl _) _
  have Bz : Hid (Has w10b w10.heap.size 26 [.slice z.P z.zs.length z.cap, .bool z.u, .slice z.D z.ds.length z.dcap]) := hide (by rw [hw10b]; exact Has.new _ _ _)
  replace Ba := hide (Ba.out.below hbA Ba.out.lt)
  replace HB := hide (HB.out.trans (hbA.mono HB.out.size))
  replace Bb := hide (Bb.out.below hbA Bb.out.lt)
  replace Tt := hide (Tt.out.below hbA)
  replace Xt := hide (Xt.out.down hbA)
  replace Bt := hide (Bt.out.below hbA Bt.out.lt)
  replace Ts := hide (Ts.out.below hbA)
  replace Bs := hide (Bs.out.below hbA Bs.out.lt)
  replace Bf := hide (Bf.out.below hbA Bf.out.lt)
  replace Td := hide (Td.out.below hbA)
  replace Bd := hide (Bd.out.below hbA Bd.out.lt)
  replace Ty := hide (Ty.out.below hbA)
  replace By := hide (By.out.below hbA By.out.lt)
  replace Tu := hide (Tu.out.below hbA)
  replace Xu := hide (Xu.out.down hbA)
  replace Bu := hide (Bu.out.below hbA Bu.out.lt)
  replace Tz := hide (Tz.out.below hbA)
  have Hw10b := hide hw10b
  clear hw10b hbA
  obtain ⟨w12, hw12⟩ : ∃ W, W = w10b.alloc (.cells #[.int .i64 kt, .bool qp, .int .i64 qi] 34) := ⟨_, rfl⟩
  have hbA : Below w10b.heap.size w10b w12 := by rw [hw12]; exact (Below.refl _ _).alloc (Nat.le_refl _) _
  have Bg : Hid (Has w12 (w10.heap.size + 1) 34 [.int .i64 kt, .bool qp, .int .i64 qi]) := hide (by rw [hw12]; exact box_at _ _ _ _ (by rw [Hw10b.out]; simp))
  replace Ba := hide (Ba.out.below hbA Ba.out.lt)
  replace HB := hide (HB.out.trans (hbA.mono HB.out.size))
  replace Bb := hide (Bb.out.below hbA Bb.out.lt)
  replace Tt := hide (Tt.out.below hbA)
  replace Xt := hide (Xt.out.down hbA)
  replace Bt := hide (Bt.out.below hbA Bt.out.lt)
  replace Ts := hide (Ts.out.below hbA)
  replace Bs := hide (Bs.out.below hbA Bs.out.lt)
  replace Bf := hide (Bf.out.below hbA Bf.out.lt)
  replace Td := hide (Td.out.below hbA)
  replace Bd := hide (Bd.out.below hbA Bd.out.lt)
  replace Ty := hide (Ty.out.below hbA)
  replace By := hide (By.out.below hbA By.out.lt)
  replace Tu := hide (Tu.out.below hbA)
  replace Xu := hide (Xu.out.down hbA)
  replace Bu := hide (Bu.out.below hbA Bu.out.lt)
  replace Tz := hide (Tz.out.below hbA)
  replace Bz := hide (Bz.out.below hbA Bz.out.lt)
  have Hw12 := hide hw12
  clear hw12 hbA
  go_wp2_with fail
  rw [← Hw10b.out]
  rw [← Hw12.out]
  clear Hw10b Hw12
  have H1 : Hid (∀ W, Below w12.heap.size w12 W → Calls Tryd.prog 20 #[x, .agg #[.int .i64 kc, .bool pp, .int .i64 pi]] W fun e w' => e = .returned (.bool true) ∧ Below W.heap.size W w') := hide (fun W hb => by
    have h := same_terr HAH.out HAM.out HAR.out x _ (Cel.fault_cases (ts := [a, b]) (Mat.code_known za zb a.look b.look)) W (HEZ.out _ (HB.out.trans (hb.mono HB.out.size))) (Xt.out.down hb)
    rw [HFV.out] at h
    exact h)
  have H2 : Hid (∀ W, Below w12.heap.size w12 W → Calls Tryd.prog 21 #[.agg #[.slice t.P t.zs.length t.cap, .bool t.u, .slice t.D t.ds.length t.dcap], .agg #[.slice s.P s.zs.length s.cap, .bool s.u, .slice s.D s.ds.length s.dcap]] W fun e w' => e = .returned (.bool true) ∧ Below W.heap.size W w') := hide (fun W hb => by
    have h1 := Tt.out.below hb
    have h2 := Ts.out.below hb
    have h := sametensor_c t.zs s.zs t.ds s.ds t.P s.P t.D s.D t.cap s.cap t.dcap s.dcap t.u s.u W h1.shp h2.shp h1.dat h2.dat h1.ls h2.ls h1.ld h2.ld
    rw [decide_eq_true (Zt.out.trans Zs.out.symm), decide_eq_true (Dt.out.trans Ds.out.symm), show (t.u == s.u) = true by rw [show t.u = s.u from Ut.out.trans Us.out.symm]; simp] at h
    exact h)
  have H3 : Hid (∀ W, Below w12.heap.size w12 W → Calls Tryd.prog 22 #[Tens.err ah am ar (Mat.code za zb a.look b.look), .int .i64 (Mat.code za zb a.look b.look)] W fun e w' => e = .returned (.bool true) ∧ Below W.heap.size W w') := hide (fun W hb => is_code HAH.out HAM.out HAR.out (Mat.code za zb a.look b.look) (Mat.code_known za zb a.look b.look) W (HEZ.out _ (HB.out.trans (hb.mono HB.out.size))))
  have H4 : Hid (∀ W, Below w12.heap.size w12 W → Calls Tryd.prog 23 #[.agg #[.slice d.P d.zs.length d.cap, .bool d.u], .agg #[.slice y.P y.zs.length y.cap, .bool y.u]] W fun e w' => e = .returned (.bool true) ∧ Below W.heap.size W w') := hide (fun W hb => by
    have h1 := Td.out.below hb
    have h2 := Ty.out.below hb
    have h := samedesc_c d.zs y.zs d.P y.P d.cap y.cap d.u y.u W h1.shp h2.shp h1.ls h2.ls
    rw [decide_eq_true (Zd.out.trans Zy.out.symm), show (d.u == y.u) = true by rw [show d.u = y.u from Ud.out.trans Uy.out.symm]; simp] at h
    exact h)
  have H5 : Hid (∀ W, Below w12.heap.size w12 W → Calls Tryd.prog 20 #[xu, .agg #[.int .i64 kt, .bool qp, .int .i64 qi]] W fun e w' => e = .returned (.bool true) ∧ Below W.heap.size W w') := hide (fun W hb => by
    have h := same_terr HAH.out HAM.out HAR.out xu _ (Cel.fault_cases (ts := [a]) (Mat.tcode_known a.look)) W (HEZ.out _ (HB.out.trans (hb.mono HB.out.size))) (Xu.out.down hb)
    rw [HGV.out] at h
    exact h)
  have H6 : Hid (∀ W, Below w12.heap.size w12 W → Calls Tryd.prog 21 #[.agg #[.slice u.P u.zs.length u.cap, .bool u.u, .slice u.D u.ds.length u.dcap], .agg #[.slice z.P z.zs.length z.cap, .bool z.u, .slice z.D z.ds.length z.dcap]] W fun e w' => e = .returned (.bool true) ∧ Below W.heap.size W w') := hide (fun W hb => by
    have h1 := Tu.out.below hb
    have h2 := Tz.out.below hb
    have h := sametensor_c u.zs z.zs u.ds z.ds u.P z.P u.D z.D u.cap z.cap u.dcap z.dcap u.u z.u W h1.shp h2.shp h1.dat h2.dat h1.ls h2.ls h1.ld h2.ld
    have e1 := Zz.out
    have e2 := Uz.out
    rw [(Mat.tor a).1] at e1
    rw [(Mat.tor a).2] at e2
    rw [decide_eq_true (Zu.out.trans e1.symm), decide_eq_true (Du.out.trans Dz.out.symm), show (u.u == z.u) = true by rw [show u.u = z.u from Uu.out.trans e2.symm]; simp] at h
    exact h)
  obtain ⟨v, hv⟩ : ∃ v, Hid (Mat.cell za zb a b i = v) := ⟨_, hide rfl⟩
  have H7 : Hid (∀ W, Below w12.heap.size w12 W → Calls Tryd.prog 24 #[.agg #[.slice a.P a.zs.length a.cap, .bool a.u, .slice a.D a.ds.length a.dcap], .agg #[.slice b.P b.zs.length b.cap, .bool b.u, .slice b.D b.ds.length b.dcap], .int .i64 za, .int .i64 zb, .int .i64 i] W fun e w' => e = .returned (.int .i64 v) ∧ Below W.heap.size W w') := hide (fun W hb => by
    have h := mcell_c a b za zb i ah am ar W (IA.out _ (HB.out.trans (hb.mono HB.out.size))) (IB.out _ (HB.out.trans (hb.mono HB.out.size))) HZZ.out HI.out (HE.out _ (HB.out.trans (hb.mono HB.out.size)))
    rw [hv.out] at h
    exact h)
  have H8 : Hid (∀ W (gA gT : Nat), Below w12.heap.size w12 W → Has W gA 3 (i64s [za, zb]) → Has W gT 26 [.slice a.P a.zs.length a.cap, .bool a.u, .slice a.D a.ds.length a.dcap, .slice b.P b.zs.length b.cap, .bool b.u, .slice b.D b.ds.length b.dcap] → Calls Tryd.prog 25 #[.int .i64 12, .slice (some ⟨gA, 0, none⟩) 2 2, .int .i64 i, .slice (some ⟨gT, 0, none⟩) 2 2] W fun e w' => e = .returned (.int .i64 v) ∧ Below W.heap.size W w') := hide (fun W gA gT hb h1 h2 => by
    have h := relement_mat za zb a b (some ⟨gA, 0, none⟩) (some ⟨gT, 0, none⟩) 2 2 i W (h1.ri HZZ.out) (show Row _ _ ([a, b].flatMap Ten.vals) from h2.row) (IA.out _ (HB.out.trans (hb.mono HB.out.size))) (IB.out _ (HB.out.trans (hb.mono HB.out.size)))
    rw [hv.out] at h
    exact h)
  have hS00 : MsS ⟨w.heap.size, 0, none⟩ ⟨w.heap.size, 1, none⟩ ⟨w.heap.size, 2, none⟩ ⟨w.heap.size + 1, 0, none⟩ ⟨w.heap.size + 1, 1, none⟩ ⟨w.heap.size + 1, 2, none⟩ ⟨w6.heap.size + 1, 0, none⟩ ⟨w6.heap.size + 1, 1, none⟩ ⟨w6.heap.size + 1, 2, none⟩ ⟨w4.heap.size, 0, none⟩ ⟨w4.heap.size, 1, none⟩ ⟨w4.heap.size, 2, none⟩ ⟨w6.heap.size, 0, none⟩ ⟨w6.heap.size, 1, none⟩ ⟨w6.heap.size, 2, none⟩ ⟨w7.heap.size, 0, none⟩ ⟨w7.heap.size, 1, none⟩ ⟨w8.heap.size, 0, none⟩ ⟨w8.heap.size, 1, none⟩ ⟨w10.heap.size + 1, 0, none⟩ ⟨w10.heap.size + 1, 1, none⟩ ⟨w10.heap.size + 1, 2, none⟩ ⟨w9.heap.size, 0, none⟩ ⟨w9.heap.size, 1, none⟩ ⟨w9.heap.size, 2, none⟩ ⟨w10.heap.size, 0, none⟩ ⟨w10.heap.size, 1, none⟩ ⟨w10.heap.size, 2, none⟩ (.slice a.P a.zs.length a.cap) (.bool a.u) (.slice a.D a.ds.length a.dcap) (.slice b.P b.zs.length b.cap) (.bool b.u) (.slice b.D b.ds.length b.dcap) (.int .i64 kc) (.bool pp) (.int .i64 pi) (.slice t.P t.zs.length t.cap) (.bool t.u) (.slice t.D t.ds.length t.dcap) (.slice s.P s.zs.length s.cap) (.bool s.u) (.slice s.D s.ds.length s.dcap) (.slice d.P d.zs.length d.cap) (.bool d.u) (.slice y.P y.zs.length y.cap) (.bool y.u) (.int .i64 kt) (.bool qp) (.int .i64 qi) (.slice u.P u.zs.length u.cap) (.bool u.u) (.slice u.D u.ds.length u.dcap) (.slice z.P z.zs.length z.cap) (.bool z.u) (.slice z.D z.ds.length z.dcap) w12 := ⟨Ba.out.cell 0, Ba.out.cell 1, Ba.out.cell 2, Bb.out.cell 0, Bb.out.cell 1, Bb.out.cell 2, Bf.out.cell 0, Bf.out.cell 1, Bf.out.cell 2, Bt.out.cell 0, Bt.out.cell 1, Bt.out.cell 2, Bs.out.cell 0, Bs.out.cell 1, Bs.out.cell 2, Bd.out.cell 0, Bd.out.cell 1, By.out.cell 0, By.out.cell 1, Bg.out.cell 0, Bg.out.cell 1, Bg.out.cell 2, Bu.out.cell 0, Bu.out.cell 1, Bu.out.cell 2, Bz.out.cell 0, Bz.out.cell 1, Bz.out.cell 2⟩
  have hS0 := MsS.drew hS00
  have hX0 := hide (Below.refl w12.heap.size w12).drew
  clear hS00
  go_region_held3 (fun W => W.cell? ⟨w.heap.size, 0, none⟩ = some (.slice a.P a.zs.length a.cap) ∧ W.cell? ⟨w.heap.size, 1, none⟩ = some (.bool a.u) ∧ W.cell? ⟨w.heap.size, 2, none⟩ = some (.slice a.D a.ds.length a.dcap) ∧ W.cell? ⟨w.heap.size + 1, 0, none⟩ = some (.slice b.P b.zs.length b.cap) ∧ W.cell? ⟨w.heap.size + 1, 1, none⟩ = some (.bool b.u) ∧ W.cell? ⟨w.heap.size + 1, 2, none⟩ = some (.slice b.D b.ds.length b.dcap) ∧ W.cell? ⟨w6.heap.size + 1, 0, none⟩ = some (.int .i64 kc) ∧ W.cell? ⟨w6.heap.size + 1, 1, none⟩ = some (.bool pp) ∧ W.cell? ⟨w6.heap.size + 1, 2, none⟩ = some (.int .i64 pi) ∧ W.cell? ⟨w4.heap.size, 0, none⟩ = some (.slice t.P t.zs.length t.cap) ∧ W.cell? ⟨w4.heap.size, 1, none⟩ = some (.bool t.u) ∧ W.cell? ⟨w4.heap.size, 2, none⟩ = some (.slice t.D t.ds.length t.dcap) ∧ W.cell? ⟨w6.heap.size, 0, none⟩ = some (.slice s.P s.zs.length s.cap) ∧ W.cell? ⟨w6.heap.size, 1, none⟩ = some (.bool s.u) ∧ W.cell? ⟨w6.heap.size, 2, none⟩ = some (.slice s.D s.ds.length s.dcap) ∧ W.cell? ⟨w7.heap.size, 0, none⟩ = some (.slice d.P d.zs.length d.cap) ∧ W.cell? ⟨w7.heap.size, 1, none⟩ = some (.bool d.u) ∧ W.cell? ⟨w8.heap.size, 0, none⟩ = some (.slice y.P y.zs.length y.cap) ∧ W.cell? ⟨w8.heap.size, 1, none⟩ = some (.bool y.u) ∧ W.cell? ⟨w10.heap.size + 1, 0, none⟩ = some (.int .i64 kt) ∧ W.cell? ⟨w10.heap.size + 1, 1, none⟩ = some (.bool qp) ∧ W.cell? ⟨w10.heap.size + 1, 2, none⟩ = some (.int .i64 qi) ∧ W.cell? ⟨w9.heap.size, 0, none⟩ = some (.slice u.P u.zs.length u.cap) ∧ W.cell? ⟨w9.heap.size, 1, none⟩ = some (.bool u.u) ∧ W.cell? ⟨w9.heap.size, 2, none⟩ = some (.slice u.D u.ds.length u.dcap) ∧ W.cell? ⟨w10.heap.size, 0, none⟩ = some (.slice z.P z.zs.length z.cap) ∧ W.cell? ⟨w10.heap.size, 1, none⟩ = some (.bool z.u) ∧ W.cell? ⟨w10.heap.size, 2, none⟩ = some (.slice z.D z.ds.length z.dcap))
    (first | with_reducible exact hS0 | with_reducible exact hS1 | with_reducible exact hS2 | with_reducible exact hS3 | with_reducible exact hS4 | with_reducible exact hS5 | with_reducible exact hS6 | with_reducible exact hSA | with_reducible exact hST | with_reducible exact hSAT | with_reducible exact hSTA | with_reducible exact hSc | with_reducible exact hScA | with_reducible exact hScT | with_reducible exact hScAT | with_reducible exact hScTA | with_reducible exact hSe | with_reducible assumption)
    (first
      | (go_at_call 20; (with_reducible refine (H1.out w12.drew hX0.out).mono ?_); rintro e V1 ⟨rfl, hb⟩; have hX1 := hide (hX0.out.trans (hb.mono hX0.out.size)); have hS1 := MsS.keep hS0 hb)
      | (go_at_call 21; (with_reducible refine (H2.out V1 hX1.out).mono ?_); rintro e V2 ⟨rfl, hb⟩; have hX2 := hide (hX1.out.trans (hb.mono hX1.out.size)); have hS2 := MsS.keep hS1 hb)
      | (go_at_call 22; (with_reducible refine (H3.out V2 hX2.out).mono ?_); rintro e V3 ⟨rfl, hb⟩; have hX3 := hide (hX2.out.trans (hb.mono hX2.out.size)); have hS3 := MsS.keep hS2 hb)
      | (go_at_call 23; (with_reducible refine (H4.out V3 hX3.out).mono ?_); rintro e V4 ⟨rfl, hb⟩; have hX4 := hide (hX3.out.trans (hb.mono hX3.out.size)); have hS4 := MsS.keep hS3 hb)
      | (go_at_call 20; (with_reducible refine (H5.out V4 hX4.out).mono ?_); rintro e V5 ⟨rfl, hb⟩; have hX5 := hide (hX4.out.trans (hb.mono hX4.out.size)); have hS5 := MsS.keep hS4 hb)
      | (go_at_call 21; (with_reducible refine (H6.out V5 hX5.out).mono ?_); rintro e V6 ⟨rfl, hb⟩; have hX6 := hide (hX5.out.trans (hb.mono hX5.out.size)); have hS6 := MsS.keep hS5 hb; have nA := (Below.refl V6.heap.size V6).alloc (Nat.le_refl _) (.cells #[.int .i64 za, .int .i64 zb] 3); have nT := (Below.refl V6.heap.size V6).alloc (Nat.le_refl _) (.cells #[.slice a.P a.zs.length a.cap, .bool a.u, .slice a.D a.ds.length a.dcap, .slice b.P b.zs.length b.cap, .bool b.u, .slice b.D b.ds.length b.dcap] 26); have hSA := MsS.keep hS6 nA; have hST := MsS.keep hS6 nT; have hSAT := MsS.keep hSA ((Below.refl _ _).alloc (Nat.le_refl _) (.cells #[.slice a.P a.zs.length a.cap, .bool a.u, .slice a.D a.ds.length a.dcap, .slice b.P b.zs.length b.cap, .bool b.u, .slice b.D b.ds.length b.dcap] 26)); have hSTA := MsS.keep hST ((Below.refl _ _).alloc (Nat.le_refl _) (.cells #[.int .i64 za, .int .i64 zb] 3)); have hXA := hide (hX6.out.alloc hX6.out.size (.cells #[.int .i64 za, .int .i64 zb] 3)); have hXT := hide (hX6.out.alloc hX6.out.size (.cells #[.slice a.P a.zs.length a.cap, .bool a.u, .slice a.D a.ds.length a.dcap, .slice b.P b.zs.length b.cap, .bool b.u, .slice b.D b.ds.length b.dcap] 26)); have hXAT := hide (hXA.out.alloc hXA.out.size (.cells #[.slice a.P a.zs.length a.cap, .bool a.u, .slice a.D a.ds.length a.dcap, .slice b.P b.zs.length b.cap, .bool b.u, .slice b.D b.ds.length b.dcap] 26)); have hXTA := hide (hXT.out.alloc hXT.out.size (.cells #[.int .i64 za, .int .i64 zb] 3)); have kA : Has (V6.alloc (.cells #[.int .i64 za, .int .i64 zb] 3)) V6.heap.size 3 (i64s [za, zb]) := Has.new V6 _ _; have kT : Has (V6.alloc (.cells #[.slice a.P a.zs.length a.cap, .bool a.u, .slice a.D a.ds.length a.dcap, .slice b.P b.zs.length b.cap, .bool b.u, .slice b.D b.ds.length b.dcap] 26)) V6.heap.size 26 [.slice a.P a.zs.length a.cap, .bool a.u, .slice a.D a.ds.length a.dcap, .slice b.P b.zs.length b.cap, .bool b.u, .slice b.D b.ds.length b.dcap] := Has.new V6 _ _; have kAT : Has ((V6.alloc (.cells #[.int .i64 za, .int .i64 zb] 3)).alloc (.cells #[.slice a.P a.zs.length a.cap, .bool a.u, .slice a.D a.ds.length a.dcap, .slice b.P b.zs.length b.cap, .bool b.u, .slice b.D b.ds.length b.dcap] 26)) (V6.heap.size + 1) 26 [.slice a.P a.zs.length a.cap, .bool a.u, .slice a.D a.ds.length a.dcap, .slice b.P b.zs.length b.cap, .bool b.u, .slice b.D b.ds.length b.dcap] := box_at _ _ _ _ (by simp); have kTA : Has ((V6.alloc (.cells #[.slice a.P a.zs.length a.cap, .bool a.u, .slice a.D a.ds.length a.dcap, .slice b.P b.zs.length b.cap, .bool b.u, .slice b.D b.ds.length b.dcap] 26)).alloc (.cells #[.int .i64 za, .int .i64 zb] 3)) (V6.heap.size + 1) 3 (i64s [za, zb]) := box_at _ _ _ _ (by simp))
      | (go_at_call 24; (with_reducible refine (H7.out V6 hX6.out).mono ?_); rintro e Vc ⟨rfl, hb⟩; have hXc := hide (hX6.out.trans (hb.mono hX6.out.size)); have hSc := MsS.keep hS6 hb; have hScA := MsS.keep hSc ((Below.refl _ _).alloc (Nat.le_refl _) (.cells #[.int .i64 za, .int .i64 zb] 3)); have hScT := MsS.keep hSc ((Below.refl _ _).alloc (Nat.le_refl _) (.cells #[.slice a.P a.zs.length a.cap, .bool a.u, .slice a.D a.ds.length a.dcap, .slice b.P b.zs.length b.cap, .bool b.u, .slice b.D b.ds.length b.dcap] 26)); have hScAT := MsS.keep hScA ((Below.refl _ _).alloc (Nat.le_refl _) (.cells #[.slice a.P a.zs.length a.cap, .bool a.u, .slice a.D a.ds.length a.dcap, .slice b.P b.zs.length b.cap, .bool b.u, .slice b.D b.ds.length b.dcap] 26)); have hScTA := MsS.keep hScT ((Below.refl _ _).alloc (Nat.le_refl _) (.cells #[.int .i64 za, .int .i64 zb] 3)))
      | (go_at_call 24; (with_reducible refine (H7.out (V6.alloc (.cells #[.int .i64 za, .int .i64 zb] 3)) hXA.out).mono ?_); rintro e Vc ⟨rfl, hb⟩; have hXc := hide (hXA.out.trans (hb.mono hXA.out.size)); have hSc := MsS.keep hSA hb; have hScA := MsS.keep hSc ((Below.refl _ _).alloc (Nat.le_refl _) (.cells #[.int .i64 za, .int .i64 zb] 3)); have hScT := MsS.keep hSc ((Below.refl _ _).alloc (Nat.le_refl _) (.cells #[.slice a.P a.zs.length a.cap, .bool a.u, .slice a.D a.ds.length a.dcap, .slice b.P b.zs.length b.cap, .bool b.u, .slice b.D b.ds.length b.dcap] 26)); have hScAT := MsS.keep hScA ((Below.refl _ _).alloc (Nat.le_refl _) (.cells #[.slice a.P a.zs.length a.cap, .bool a.u, .slice a.D a.ds.length a.dcap, .slice b.P b.zs.length b.cap, .bool b.u, .slice b.D b.ds.length b.dcap] 26)); have hScTA := MsS.keep hScT ((Below.refl _ _).alloc (Nat.le_refl _) (.cells #[.int .i64 za, .int .i64 zb] 3)); have cA := kA.below hb kA.lt)
      | (go_at_call 24; (with_reducible refine (H7.out (V6.alloc (.cells #[.slice a.P a.zs.length a.cap, .bool a.u, .slice a.D a.ds.length a.dcap, .slice b.P b.zs.length b.cap, .bool b.u, .slice b.D b.ds.length b.dcap] 26)) hXT.out).mono ?_); rintro e Vc ⟨rfl, hb⟩; have hXc := hide (hXT.out.trans (hb.mono hXT.out.size)); have hSc := MsS.keep hST hb; have hScA := MsS.keep hSc ((Below.refl _ _).alloc (Nat.le_refl _) (.cells #[.int .i64 za, .int .i64 zb] 3)); have hScT := MsS.keep hSc ((Below.refl _ _).alloc (Nat.le_refl _) (.cells #[.slice a.P a.zs.length a.cap, .bool a.u, .slice a.D a.ds.length a.dcap, .slice b.P b.zs.length b.cap, .bool b.u, .slice b.D b.ds.length b.dcap] 26)); have hScAT := MsS.keep hScA ((Below.refl _ _).alloc (Nat.le_refl _) (.cells #[.slice a.P a.zs.length a.cap, .bool a.u, .slice a.D a.ds.length a.dcap, .slice b.P b.zs.length b.cap, .bool b.u, .slice b.D b.ds.length b.dcap] 26)); have hScTA := MsS.keep hScT ((Below.refl _ _).alloc (Nat.le_refl _) (.cells #[.int .i64 za, .int .i64 zb] 3)); have cT := kT.below hb kT.lt)
      | (go_at_call 24; (with_reducible refine (H7.out ((V6.alloc (.cells #[.int .i64 za, .int .i64 zb] 3)).alloc (.cells #[.slice a.P a.zs.length a.cap, .bool a.u, .slice a.D a.ds.length a.dcap, .slice b.P b.zs.length b.cap, .bool b.u, .slice b.D b.ds.length b.dcap] 26)) hXAT.out).mono ?_); rintro e Vc ⟨rfl, hb⟩; have hXc := hide (hXAT.out.trans (hb.mono hXAT.out.size)); have hSc := MsS.keep hSAT hb; have hScA := MsS.keep hSc ((Below.refl _ _).alloc (Nat.le_refl _) (.cells #[.int .i64 za, .int .i64 zb] 3)); have hScT := MsS.keep hSc ((Below.refl _ _).alloc (Nat.le_refl _) (.cells #[.slice a.P a.zs.length a.cap, .bool a.u, .slice a.D a.ds.length a.dcap, .slice b.P b.zs.length b.cap, .bool b.u, .slice b.D b.ds.length b.dcap] 26)); have hScAT := MsS.keep hScA ((Below.refl _ _).alloc (Nat.le_refl _) (.cells #[.slice a.P a.zs.length a.cap, .bool a.u, .slice a.D a.ds.length a.dcap, .slice b.P b.zs.length b.cap, .bool b.u, .slice b.D b.ds.length b.dcap] 26)); have hScTA := MsS.keep hScT ((Below.refl _ _).alloc (Nat.le_refl _) (.cells #[.int .i64 za, .int .i64 zb] 3)); have cA := (kA.alloc (.cells #[.slice a.P a.zs.length a.cap, .bool a.u, .slice a.D a.ds.length a.dcap, .slice b.P b.zs.length b.cap, .bool b.u, .slice b.D b.ds.length b.dcap] 26)).below hb (kA.alloc (.cells #[.slice a.P a.zs.length a.cap, .bool a.u, .slice a.D a.ds.length a.dcap, .slice b.P b.zs.length b.cap, .bool b.u, .slice b.D b.ds.length b.dcap] 26)).lt; have cT := kAT.below hb kAT.lt)
      | (go_at_call 24; (with_reducible refine (H7.out ((V6.alloc (.cells #[.slice a.P a.zs.length a.cap, .bool a.u, .slice a.D a.ds.length a.dcap, .slice b.P b.zs.length b.cap, .bool b.u, .slice b.D b.ds.length b.dcap] 26)).alloc (.cells #[.int .i64 za, .int .i64 zb] 3)) hXTA.out).mono ?_); rintro e Vc ⟨rfl, hb⟩; have hXc := hide (hXTA.out.trans (hb.mono hXTA.out.size)); have hSc := MsS.keep hSTA hb; have hScA := MsS.keep hSc ((Below.refl _ _).alloc (Nat.le_refl _) (.cells #[.int .i64 za, .int .i64 zb] 3)); have hScT := MsS.keep hSc ((Below.refl _ _).alloc (Nat.le_refl _) (.cells #[.slice a.P a.zs.length a.cap, .bool a.u, .slice a.D a.ds.length a.dcap, .slice b.P b.zs.length b.cap, .bool b.u, .slice b.D b.ds.length b.dcap] 26)); have hScAT := MsS.keep hScA ((Below.refl _ _).alloc (Nat.le_refl _) (.cells #[.slice a.P a.zs.length a.cap, .bool a.u, .slice a.D a.ds.length a.dcap, .slice b.P b.zs.length b.cap, .bool b.u, .slice b.D b.ds.length b.dcap] 26)); have hScTA := MsS.keep hScT ((Below.refl _ _).alloc (Nat.le_refl _) (.cells #[.int .i64 za, .int .i64 zb] 3)); have cT := (kT.alloc (.cells #[.int .i64 za, .int .i64 zb] 3)).below hb (kT.alloc (.cells #[.int .i64 za, .int .i64 zb] 3)).lt; have cA := kTA.below hb kTA.lt)
      | (go_at_call 25; (with_reducible refine (H8.out Vc _ _ hXc.out cA cT).mono ?_); rintro e Ve ⟨rfl, hb⟩; have HFin := hide (HB.out.trans ((hXc.out.trans (hb.mono hXc.out.size)).mono HB.out.size)); have hSe := MsS.keep hSc hb)
      | (go_at_call 25; have eX := hide (hXc.out.alloc hXc.out.size (.cells #[.slice a.P a.zs.length a.cap, .bool a.u, .slice a.D a.ds.length a.dcap, .slice b.P b.zs.length b.cap, .bool b.u, .slice b.D b.ds.length b.dcap] 26)); have eA := cA.alloc (.cells #[.slice a.P a.zs.length a.cap, .bool a.u, .slice a.D a.ds.length a.dcap, .slice b.P b.zs.length b.cap, .bool b.u, .slice b.D b.ds.length b.dcap] 26); have eT : Has (Vc.alloc (.cells #[.slice a.P a.zs.length a.cap, .bool a.u, .slice a.D a.ds.length a.dcap, .slice b.P b.zs.length b.cap, .bool b.u, .slice b.D b.ds.length b.dcap] 26)) Vc.heap.size 26 [.slice a.P a.zs.length a.cap, .bool a.u, .slice a.D a.ds.length a.dcap, .slice b.P b.zs.length b.cap, .bool b.u, .slice b.D b.ds.length b.dcap] := Has.new Vc _ _; (with_reducible refine (H8.out (Vc.alloc (.cells #[.slice a.P a.zs.length a.cap, .bool a.u, .slice a.D a.ds.length a.dcap, .slice b.P b.zs.length b.cap, .bool b.u, .slice b.D b.ds.length b.dcap] 26)) _ _ eX.out eA eT).mono ?_); rintro e Ve ⟨rfl, hb⟩; have HFin := hide (HB.out.trans ((eX.out.trans (hb.mono eX.out.size)).mono HB.out.size)); have hSe := MsS.keep hScT hb)
      | (go_at_call 25; have eX := hide (hXc.out.alloc hXc.out.size (.cells #[.int .i64 za, .int .i64 zb] 3)); have eT := cT.alloc (.cells #[.int .i64 za, .int .i64 zb] 3); have eA : Has (Vc.alloc (.cells #[.int .i64 za, .int .i64 zb] 3)) Vc.heap.size 3 (i64s [za, zb]) := Has.new Vc _ _; (with_reducible refine (H8.out (Vc.alloc (.cells #[.int .i64 za, .int .i64 zb] 3)) _ _ eX.out eA eT).mono ?_); rintro e Ve ⟨rfl, hb⟩; have HFin := hide (HB.out.trans ((eX.out.trans (hb.mono eX.out.size)).mono HB.out.size)); have hSe := MsS.keep hScA hb)
      | (go_at_call 25; have eX0 := hXc.out.alloc hXc.out.size (.cells #[.int .i64 za, .int .i64 zb] 3); have eX := hide (eX0.alloc eX0.size (.cells #[.slice a.P a.zs.length a.cap, .bool a.u, .slice a.D a.ds.length a.dcap, .slice b.P b.zs.length b.cap, .bool b.u, .slice b.D b.ds.length b.dcap] 26)); have e0A : Has (Vc.alloc (.cells #[.int .i64 za, .int .i64 zb] 3)) Vc.heap.size 3 (i64s [za, zb]) := Has.new Vc _ _; have eA := e0A.alloc (.cells #[.slice a.P a.zs.length a.cap, .bool a.u, .slice a.D a.ds.length a.dcap, .slice b.P b.zs.length b.cap, .bool b.u, .slice b.D b.ds.length b.dcap] 26); have eT : Has ((Vc.alloc (.cells #[.int .i64 za, .int .i64 zb] 3)).alloc (.cells #[.slice a.P a.zs.length a.cap, .bool a.u, .slice a.D a.ds.length a.dcap, .slice b.P b.zs.length b.cap, .bool b.u, .slice b.D b.ds.length b.dcap] 26)) (Vc.heap.size + 1) 26 [.slice a.P a.zs.length a.cap, .bool a.u, .slice a.D a.ds.length a.dcap, .slice b.P b.zs.length b.cap, .bool b.u, .slice b.D b.ds.length b.dcap] := box_at _ _ _ _ (by simp); (with_reducible refine (H8.out ((Vc.alloc (.cells #[.int .i64 za, .int .i64 zb] 3)).alloc (.cells #[.slice a.P a.zs.length a.cap, .bool a.u, .slice a.D a.ds.length a.dcap, .slice b.P b.zs.length b.cap, .bool b.u, .slice b.D b.ds.length b.dcap] 26)) _ _ eX.out eA eT).mono ?_); rintro e Ve ⟨rfl, hb⟩; have HFin := hide (HB.out.trans ((eX.out.trans (hb.mono eX.out.size)).mono HB.out.size)); have hSe := MsS.keep hScAT hb)
      | (go_at_call 25; have eX0 := hXc.out.alloc hXc.out.size (.cells #[.slice a.P a.zs.length a.cap, .bool a.u, .slice a.D a.ds.length a.dcap, .slice b.P b.zs.length b.cap, .bool b.u, .slice b.D b.ds.length b.dcap] 26); have eX := hide (eX0.alloc eX0.size (.cells #[.int .i64 za, .int .i64 zb] 3)); have e0T : Has (Vc.alloc (.cells #[.slice a.P a.zs.length a.cap, .bool a.u, .slice a.D a.ds.length a.dcap, .slice b.P b.zs.length b.cap, .bool b.u, .slice b.D b.ds.length b.dcap] 26)) Vc.heap.size 26 [.slice a.P a.zs.length a.cap, .bool a.u, .slice a.D a.ds.length a.dcap, .slice b.P b.zs.length b.cap, .bool b.u, .slice b.D b.ds.length b.dcap] := Has.new Vc _ _; have eT := e0T.alloc (.cells #[.int .i64 za, .int .i64 zb] 3); have eA : Has ((Vc.alloc (.cells #[.slice a.P a.zs.length a.cap, .bool a.u, .slice a.D a.ds.length a.dcap, .slice b.P b.zs.length b.cap, .bool b.u, .slice b.D b.ds.length b.dcap] 26)).alloc (.cells #[.int .i64 za, .int .i64 zb] 3)) (Vc.heap.size + 1) 3 (i64s [za, zb]) := box_at _ _ _ _ (by simp); (with_reducible refine (H8.out ((Vc.alloc (.cells #[.slice a.P a.zs.length a.cap, .bool a.u, .slice a.D a.ds.length a.dcap, .slice b.P b.zs.length b.cap, .bool b.u, .slice b.D b.ds.length b.dcap] 26)).alloc (.cells #[.int .i64 za, .int .i64 zb] 3)) _ _ eX.out eA eT).mono ?_); rintro e Ve ⟨rfl, hb⟩; have HFin := hide (HB.out.trans ((eX.out.trans (hb.mono eX.out.size)).mono HB.out.size)); have hSe := MsS.keep hScTA hb))
  all_goals
    go_wp2_with fail
    go_ret
    exact ⟨rfl, HFin.out⟩
end Go.Proofs.YtkehdgjdieemkaaDoor
