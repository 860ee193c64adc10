/-
  The law PoolSays, walked. By an AI agent. No person has read it.
-/
import Derived.Test.YtcgjnjchkachdaaDoorPolF
namespace Go.Proofs.YtcgjnjchkachdaaDoor
open Go.RowKit

/-- The cells that the closing region reads. -/
abbrev PsS (p0 p1 p2 p3 p4 p5 p6 p7 p8 p9 p10 p11 p12 p13 p14 : Addr) (v0 v1 v2 v3 v4 v5 v6 v7 v8 v9 v10 v11 v12 v13 v14 : Value) (W : World) : Prop := W.cell? p0 = some v0 ∧ W.cell? p1 = some v1 ∧ W.cell? p2 = some v2 ∧ W.cell? p3 = some v3 ∧ W.cell? p4 = some v4 ∧ W.cell? p5 = some v5 ∧ W.cell? p6 = some v6 ∧ W.cell? p7 = some v7 ∧ W.cell? p8 = some v8 ∧ W.cell? p9 = some v9 ∧ W.cell? p10 = some v10 ∧ W.cell? p11 = some v11 ∧ W.cell? p12 = some v12 ∧ W.cell? p13 = some v13 ∧ W.cell? p14 = some v14
theorem PsS.keep {p0 p1 p2 p3 p4 p5 p6 p7 p8 p9 p10 p11 p12 p13 p14 : Addr} {v0 v1 v2 v3 v4 v5 v6 v7 v8 v9 v10 v11 v12 v13 v14 : Value} {W W' : World} (h : PsS p0 p1 p2 p3 p4 p5 p6 p7 p8 p9 p10 p11 p12 p13 p14 v0 v1 v2 v3 v4 v5 v6 v7 v8 v9 v10 v11 v12 v13 v14 W) (hB : Below W.heap.size W W') : PsS p0 p1 p2 p3 p4 p5 p6 p7 p8 p9 p10 p11 p12 p13 p14 v0 v1 v2 v3 v4 v5 v6 v7 v8 v9 v10 v11 v12 v13 v14 W' := by
  obtain ⟨h0, h1, h2, h3, h4, h5, h6, h7, h8, h9, h10, h11, h12, h13, h14⟩ := h
  exact ⟨ten_kept h0 hB, ten_kept h1 hB, ten_kept h2 hB, ten_kept h3 hB, ten_kept h4 hB, ten_kept h5 hB, ten_kept h6 hB, ten_kept h7 hB, ten_kept h8 hB, ten_kept h9 hB, ten_kept h10 hB, ten_kept h11 hB, ten_kept h12 hB, ten_kept h13 hB, ten_kept h14 hB⟩
theorem PsS.drew {p0 p1 p2 p3 p4 p5 p6 p7 p8 p9 p10 p11 p12 p13 p14 : Addr} {v0 v1 v2 v3 v4 v5 v6 v7 v8 v9 v10 v11 v12 v13 v14 : Value} {W : World} (h : PsS p0 p1 p2 p3 p4 p5 p6 p7 p8 p9 p10 p11 p12 p13 p14 v0 v1 v2 v3 v4 v5 v6 v7 v8 v9 v10 v11 v12 v13 v14 W) : PsS p0 p1 p2 p3 p4 p5 p6 p7 p8 p9 p10 p11 p12 p13 p14 v0 v1 v2 v3 v4 v5 v6 v7 v8 v9 v10 v11 v12 v13 v14 W.drew := h
set_option maxRecDepth 100000 in
set_option maxHeartbeats 4000000 in

theorem poolsays_c (es : List Addr) (a : Ten) (qs : List Int) (A : Option Addr) (qcap : Nat) (i : Int) (w : World) (hra : Ri w a.P a.zs) (hda : Ri w a.D a.ds) (hQ : Ri w A qs) (hi : -9223372036854775808 ≤ i ∧ i ≤ 9223372036854775807) (hZ : Ez w es) :
    Calls Tryd.prog 4 #[.agg (tcells a.P a.zs.length a.cap a.u a.D a.ds.length a.dcap), .slice A qs.length qcap, .int .i64 i] w fun e w' => e = .returned (.bool true) ∧ Below w.heap.size w w' := by
  obtain ⟨ah, am, ar, hah, har, ham, hE⟩ := E3.ofez hZ
  have HE := hide (fun W (hb : Below w.heap.size w W) => hE.below hb)
  have HEZ := hide (fun W (hb : Below w.heap.size w W) => hZ.below hb)
  have HQ := hide (fun W (hb : Below w.heap.size w W) => hQ.below hb)
  have HAH := hide hah
  have HAR := hide har
  have HAM := hide ham
  have HI := hide hi
  obtain ⟨sa, hsa⟩ : ∃ q_, Hid ((decide (a.zs.length ≤ 8) && decide (a.ds.length ≤ 300)) = q_) := ⟨_, hide rfl⟩
  have WA := hide (fun W => worldtensor_c a.P a.D a.zs.length a.cap a.ds.length a.dcap a.u W)
  rw [hsa.out] at WA
  have IA : Hid (sa = true → ∀ W, Below w.heap.size w W → a.In W) := hide fun h W hb => by
    rw [← hsa.out] at h
    simp at h
    exact ⟨hra.below hb, hda.below hb, by omega, by omega⟩
  obtain ⟨nq, hnq⟩ : ∃ q_, Hid (qs.length = q_) := ⟨_, hide rfl⟩
  rw [hnq.out]
  clear hra hda hQ hi hZ hE hah har ham hsa

  go_enter Tryd.func4, Tryd.ntmps4
  obtain ⟨wa, hwa⟩ : ∃ W, W = w.alloc (.cells #[.slice a.P a.zs.length a.cap, .bool a.u, .slice a.D a.ds.length a.dcap] 26) := ⟨_, rfl⟩
  have hbA : Below w.heap.size w wa := by rw [hwa]; exact (Below.refl _ _).alloc (Nat.le_refl _) _
  have Ba : Hid (Has wa w.heap.size 26 [.slice a.P a.zs.length a.cap, .bool a.u, .slice a.D a.ds.length a.dcap]) := hide (by rw [hwa]; exact Has.new _ _ _)
  have Hwa := hide hwa
  clear hwa hbA
  have HB : Hid (Below w.heap.size w wa) := hide (by rw [Hwa.out]; exact (Below.refl _ _).alloc (Nat.le_refl _) _)
  go_wp2_with fail
  rw [← Hwa.out]
  clear Hwa
  refine (first10_c ah am ar _ (HE.out _ HB.out)).mono ?_
  rintro e w1 ⟨rfl, hb⟩
  replace Ba := hide (Ba.out.below hb Ba.out.lt)
  replace HB := hide (HB.out.trans (hb.mono HB.out.size))
  clear hb
  have c_Ba0 := Ba.out.cell 0
  have c_Ba1 := Ba.out.cell 1
  have c_Ba2 := Ba.out.cell 2
  go_wp2_with fail
  clear c_Ba0 c_Ba1 c_Ba2
  refine (WA.out _).mono ?_
  rintro e w2 ⟨rfl, hb⟩
  replace Ba := hide (Ba.out.below hb Ba.out.lt)
  replace HB := hide (HB.out.trans (hb.mono HB.out.size))
  clear hb
  cases sa
  case false =>
    go_wp2_with fail
    go_ret
    exact ⟨rfl, HB.out⟩
  case true =>
  replace IA := hide (IA.out rfl)
  by_cases hbig : 6 < nq
  case pos =>
    have hb6 : (6 : Int) < nq := by omega
    clear hbig
    go_wp2_with fail
    go_ret
    exact ⟨rfl, HB.out⟩
  case neg =>
  have hb6 : ¬ (6 : Int) < nq := by omega
  have HQL : Hid (qs.length ≤ 1000000) := hide (by rw [hnq.out]; omega)
  clear hbig
  have c_Ba0 := Ba.out.cell 0
  have c_Ba1 := Ba.out.cell 1
  go_wp2_with fail
  clear c_Ba0 c_Ba1
  have HDO := hide (presult_c qs A qcap a.look ah am ar _ (HQ.out _ HB.out) HQL.out (IA.out _ HB.out).look (HE.out _ HB.out))
  rw [hnq.out] at HDO
  clear hb6
  refine (HDO.out).mono ?_
  rintro e w6 ⟨⟨d, rfl, hd, -, hdz, hdu⟩, hb⟩
  replace Ba := hide (Ba.out.below hb Ba.out.lt)
  replace HB := hide (HB.out.trans (hb.mono HB.out.size))
  clear hb
  have Zd := hide hdz
  have Ud := hide hdu
  have Td := hide hd
  clear hdz hdu hd HDO
  have c_Ba0 := Ba.out.cell 0
  have c_Ba1 := Ba.out.cell 1
  have l_Ba := Ba.out.lt
  obtain ⟨w7, hw7⟩ : ∃ W, W = w6.alloc (.cells #[.slice d.P d.zs.length d.cap, .bool d.u] 24) := ⟨_, rfl⟩
  have hbA : Below w6.heap.size w6 w7 := by rw [hw7]; exact (Below.refl _ _).alloc (Nat.le_refl _) _
  have Bd : Hid (Has w7 w6.heap.size 24 [.slice d.P d.zs.length d.cap, .bool d.u]) := hide (by rw [hw7]; exact Has.new _ _ _)
  replace Ba := hide (Ba.out.below hbA Ba.out.lt)
  replace HB := hide (HB.out.trans (hbA.mono HB.out.size))
  replace Td := hide (Td.out.below hbA)
  have Hw7 := hide hw7
  clear hw7 hbA
  go_wp2_with fail
  rw [← Hw7.out]
  clear Hw7 c_Ba0 c_Ba1 l_Ba
  have HDO := hide (rpool_c qs A qcap a.look _ (HQ.out _ HB.out) (IA.out _ HB.out).look)
  rw [hnq.out] at HDO
  refine (HDO.out).mono ?_
  rintro e w8 ⟨⟨y, rfl, hy, -, hyz, hyu⟩, hb⟩
  replace Ba := hide (Ba.out.below hb Ba.out.lt)
  replace HB := hide (HB.out.trans (hb.mono HB.out.size))
  replace Td := hide (Td.out.below hb)
  replace Bd := hide (Bd.out.below hb Bd.out.lt)
  clear hb
  have Zy := hide hyz
  have Uy := hide hyu
  have Ty := hide hy
  clear hyz hyu hy HDO
  have c_Ba0 := Ba.out.cell 0
  have c_Ba1 := Ba.out.cell 1
  have c_Ba2 := Ba.out.cell 2
  have l_Ba := Ba.out.lt
  obtain ⟨w8b, hw8b⟩ : ∃ W, W = w8.alloc (.cells #[.slice y.P y.zs.length y.cap, .bool y.u] 24) := ⟨_, rfl⟩
  have hbA : Below w8.heap.size w8 w8b := by rw [hw8b]; exact (Below.refl _ _).alloc (Nat.le_refl _) _
  have By : Hid (Has w8b w8.heap.size 24 [.slice y.P y.zs.length y.cap, .bool y.u]) := hide (by rw [hw8b]; exact Has.new _ _ _)
  replace Ba := hide (Ba.out.below hbA Ba.out.lt)
  replace HB := hide (HB.out.trans (hbA.mono HB.out.size))
  replace Td := hide (Td.out.below hbA)
  replace Bd := hide (Bd.out.below hbA Bd.out.lt)
  replace Ty := hide (Ty.out.below hbA)
  have Hw8b := hide hw8b
  clear hw8b hbA
  have HT : Hid (Below w8b.heap.size w8b w8b) := hide (Below.refl _ _)
  have HBs : Hid (w.heap.size ≤ w8b.heap.size) := hide HB.out.size
  have Td0 := Td
  have Ty0 := Ty
  have Ba0 := Ba
  have Bd0 := Bd
  have HB0 := HB
  have By0 := By
  go_wp2_with fail
  rw [← Hw8b.out]
  clear Hw8b c_Ba0 c_Ba1 c_Ba2 l_Ba
  obtain ⟨pa, ia, hfv⟩ := fval_is a.fault
  obtain ⟨ka, hka⟩ : ∃ q_, Hid (a.fault.1 = q_) := ⟨_, hide rfl⟩
  rw [hka.out] at hfv
  have HFA := hide hfv
  have HVA := rvalid_c a.zs a.ds a.P a.D a.cap a.dcap a.u _ (IA.out _ HB.out).shp (IA.out _ HB.out).dat (IA.out _ HB.out).ls (IA.out _ HB.out).ld
  rw [show Tens.fault a.zs a.u a.ds = a.fault from rfl, hfv] at HVA
  replace HVA := hide HVA
  clear hfv
  refine (HVA.out).mono ?_
  rintro e w9 ⟨rfl, hb⟩
  replace HT := hide (HT.out.trans (hb.mono HT.out.size))
  clear hb
  clear HVA
  clear Td Ty Ba Bd By HB
  by_cases h0 : ka = 0
  case neg =>
    have HT9 := HT
    obtain ⟨w10, hw10⟩ : ∃ W, W = w9.alloc (.cells #[.int .i64 ka, .bool pa, .int .i64 ia] 35) := ⟨_, rfl⟩
    have hbA : Below w9.heap.size w9 w10 := by rw [hw10]; exact (Below.refl _ _).alloc (Nat.le_refl _) _
    have Bf : Hid (Has w10 w9.heap.size 35 [.int .i64 ka, .bool pa, .int .i64 ia]) := hide (by rw [hw10]; exact Has.new _ _ _)
    have HWs : Hid (w8b.heap.size ≤ w9.heap.size ∧ w.heap.size ≤ w9.heap.size) := hide (by have h1 := HT.out.size; have h2 := HBs.out; omega)
    replace HT := hide (HT.out.trans (hbA.mono HT.out.size))
    have Hw10 := hide hw10
    clear hw10 hbA
    have Ba9 := Ba0.out.below HT9.out Ba0.out.lt
    have ca0 := Ba9.cell 0
    have ca1 := Ba9.cell 1
    have ca2 := Ba9.cell 2
    have cal := Ba9.lt
    clear Ba9
    have HNF : Hid (Cel.fault [a] (Pl.code qs a.look) ≠ (0, none)) := hide (by rw [Cel.one_bad (fun h => h0 (by rw [← hka.out]; exact congrArg Prod.fst h))]; exact fun h => h0 (by rw [← hka.out]; exact congrArg Prod.fst h))
    have HFV : Hid (Tens.fval (Cel.fault [a] (Pl.code qs a.look)) = gcells (ka : Int) pa ia) := hide (by rw [Cel.one_bad (fun h => h0 (by rw [← hka.out]; exact congrArg Prod.fst h))]; exact HFA.out)
    have n1 : ((ka : Int) == 0) = false := by simp; omega
    have n2 : ((ka : Int) != 0) = true := by simp; omega
    clear h0
    have HB := hide (HB0.out.trans (HT.out.mono HB0.out.size))
    have Td := hide (Td0.out.below HT.out)
    have Ty := hide (Ty0.out.below HT.out)
    have Ba := hide (Ba0.out.below HT.out Ba0.out.lt)
    have Bd := hide (Bd0.out.below HT.out Bd0.out.lt)
    have By := hide (By0.out.below HT.out By0.out.lt)
    clear Td0 Ty0 Ba0 Bd0 By0 HB0 HT HBs
    go_wp2_with fail
    rw [← Hw10.out]
    clear Hw10 ca0 ca1 ca2 cal HT9
    have HDO := hide (plmax_c qs A qcap a ah am ar _ (HQ.out _ HB.out) HQL.out (IA.out _ HB.out) (HE.out _ HB.out))
    rw [hnq.out] at HDO
    refine (HDO.out).mono ?_
    rintro e u1 ⟨⟨t, x, rfl, ht, -, htz, htu, htd, hx, -⟩, hb⟩
    replace HB := hide (HB.out.trans (hb.mono HB.out.size))
    replace Td := hide (Td.out.below hb)
    replace Ty := hide (Ty.out.below hb)
    replace Ba := hide (Ba.out.below hb Ba.out.lt)
    replace Bd := hide (Bd.out.below hb Bd.out.lt)
    replace By := hide (By.out.below hb By.out.lt)
    replace Bf := hide (Bf.out.below hb Bf.out.lt)
    clear hb
    have Zt := hide htz
    have Ut := hide htu
    have Dt := hide htd
    have Tt := hide ht
    have Xt := hide hx
    clear htz htu htd ht hx HDO
    have c_Ba0 := Ba.out.cell 0
    have c_Ba1 := Ba.out.cell 1
    have c_Ba2 := Ba.out.cell 2
    have l_Ba := Ba.out.lt
    obtain ⟨u2, hu2⟩ : ∃ W, W = u1.alloc (.cells #[.slice t.P t.zs.length t.cap, .bool t.u, .slice t.D t.ds.length t.dcap] 26) := ⟨_, rfl⟩
    have hbA : Below u1.heap.size u1 u2 := by rw [hu2]; exact (Below.refl _ _).alloc (Nat.le_refl _) _
    have Bt : Hid (Has u2 u1.heap.size 26 [.slice t.P t.zs.length t.cap, .bool t.u, .slice t.D t.ds.length t.dcap]) := hide (by rw [hu2]; exact Has.new _ _ _)
    replace HB := hide (HB.out.trans (hbA.mono HB.out.size))
    replace Td := hide (Td.out.below hbA)
    replace Ty := hide (Ty.out.below hbA)
    replace Ba := hide (Ba.out.below hbA Ba.out.lt)
    replace Bd := hide (Bd.out.below hbA Bd.out.lt)
    replace By := hide (By.out.below hbA By.out.lt)
    replace Bf := hide (Bf.out.below hbA Bf.out.lt)
    replace Tt := hide (Tt.out.below hbA)
    replace Xt := hide (Xt.out.down hbA)
    have Hu2 := hide hu2
    clear hu2 hbA
    go_wp2_with fail
    rw [← Hu2.out]
    clear Hu2 c_Ba0 c_Ba1 c_Ba2 l_Ba
    have HDO := hide (plavg_c qs A qcap a ah am ar _ (HQ.out _ HB.out) HQL.out (IA.out _ HB.out) (HE.out _ HB.out))
    rw [hnq.out] at HDO
    refine (HDO.out).mono ?_
    rintro e u3 ⟨⟨u, y2, rfl, hu, -, huz, huu, hud, hy2, -⟩, hb⟩
    replace HB := hide (HB.out.trans (hb.mono HB.out.size))
    replace Td := hide (Td.out.below hb)
    replace Ty := hide (Ty.out.below hb)
    replace Ba := hide (Ba.out.below hb Ba.out.lt)
    replace Bd := hide (Bd.out.below hb Bd.out.lt)
    replace By := hide (By.out.below hb By.out.lt)
    replace Bf := hide (Bf.out.below hb Bf.out.lt)
    replace Tt := hide (Tt.out.below hb)
    replace Xt := hide (Xt.out.down hb)
    replace Bt := hide (Bt.out.below hb Bt.out.lt)
    clear hb
    have Zu := hide huz
    have Uu := hide huu
    have Du := hide hud
    have Tu := hide hu
    have Xu := hide hy2
    clear huz huu hud hu hy2 HDO
    obtain ⟨u4, hu4⟩ : ∃ W, W = u3.alloc (.cells #[.slice u.P u.zs.length u.cap, .bool u.u, .slice u.D u.ds.length u.dcap] 26) := ⟨_, rfl⟩
    have hbA : Below u3.heap.size u3 u4 := by rw [hu4]; exact (Below.refl _ _).alloc (Nat.le_refl _) _
    have Bu : Hid (Has u4 u3.heap.size 26 [.slice u.P u.zs.length u.cap, .bool u.u, .slice u.D u.ds.length u.dcap]) := hide (by rw [hu4]; exact Has.new _ _ _)
    replace HB := hide (HB.out.trans (hbA.mono HB.out.size))
    replace Td := hide (Td.out.below hbA)
    replace Ty := hide (Ty.out.below hbA)
    replace Ba := hide (Ba.out.below hbA Ba.out.lt)
    replace Bd := hide (Bd.out.below hbA Bd.out.lt)
    replace By := hide (By.out.below hbA By.out.lt)
    replace Bf := hide (Bf.out.below hbA Bf.out.lt)
    replace Tt := hide (Tt.out.below hbA)
    replace Xt := hide (Xt.out.down hbA)
    replace Bt := hide (Bt.out.below hbA Bt.out.lt)
    replace Tu := hide (Tu.out.below hbA)
    replace Xu := hide (Xu.out.down hbA)
    have Hu4 := hide hu4
    clear hu4 hbA
    go_wp2_with fail
    rw [← Hu4.out]
    clear Hu4
    refine (is_code HAH.out HAM.out HAR.out (Pl.code qs a.look) (Pl.code_known qs a.look) _ (HEZ.out _ HB.out)).mono ?_
    rintro e u5 ⟨rfl, hb⟩
    replace HB := hide (HB.out.trans (hb.mono HB.out.size))
    replace Td := hide (Td.out.below hb)
    replace Ty := hide (Ty.out.below hb)
    replace Ba := hide (Ba.out.below hb Ba.out.lt)
    replace Bd := hide (Bd.out.below hb Bd.out.lt)
    replace By := hide (By.out.below hb By.out.lt)
    replace Bf := hide (Bf.out.below hb Bf.out.lt)
    replace Tt := hide (Tt.out.below hb)
    replace Xt := hide (Xt.out.down hb)
    replace Bt := hide (Bt.out.below hb Bt.out.lt)
    replace Tu := hide (Tu.out.below hb)
    replace Xu := hide (Xu.out.down hb)
    replace Bu := hide (Bu.out.below hb Bu.out.lt)
    clear hb
    have c_Bd0 := Bd.out.cell 0
    have c_Bd1 := Bd.out.cell 1
    have c_By0 := By.out.cell 0
    have c_By1 := By.out.cell 1
    go_wp2_with fail
    clear c_Bd0 c_Bd1 c_By0 c_By1
    have h1 := Td.out
    have h2 := Ty.out
    have HSD := samedesc_c d.zs y.zs d.P y.P d.cap y.cap d.u y.u _ h1.shp h2.shp h1.ls h2.ls
    rw [decide_eq_true (Zd.out.trans Zy.out.symm), show (d.u == y.u) = true by rw [show d.u = y.u from Ud.out.trans Uy.out.symm]; simp] at HSD
    replace HSD := hide HSD
    clear h1 h2
    refine (HSD.out).mono ?_
    rintro e u6 ⟨rfl, hb⟩
    replace HB := hide (HB.out.trans (hb.mono HB.out.size))
    replace Td := hide (Td.out.below hb)
    replace Ty := hide (Ty.out.below hb)
    replace Ba := hide (Ba.out.below hb Ba.out.lt)
    replace Bd := hide (Bd.out.below hb Bd.out.lt)
    replace By := hide (By.out.below hb By.out.lt)
    replace Bf := hide (Bf.out.below hb Bf.out.lt)
    replace Tt := hide (Tt.out.below hb)
    replace Xt := hide (Xt.out.down hb)
    replace Bt := hide (Bt.out.below hb Bt.out.lt)
    replace Tu := hide (Tu.out.below hb)
    replace Xu := hide (Xu.out.down hb)
    replace Bu := hide (Bu.out.below hb Bu.out.lt)
    clear hb
    clear HSD
    have c_Bf0 := Bf.out.cell 0
    have c_Bf1 := Bf.out.cell 1
    have c_Bf2 := Bf.out.cell 2
    go_wp2_with fail
    clear c_Bf0 c_Bf1 c_Bf2
    have HSM := same_terr HAH.out HAM.out HAR.out x _ (Cel.fault_cases (ts := [a]) (Pl.code_known qs a.look)) _ (HEZ.out _ HB.out) Xt.out
    rw [HFV.out] at HSM
    replace HSM := hide HSM
    refine (HSM.out).mono ?_
    rintro e u7 ⟨rfl, hb⟩
    replace HB := hide (HB.out.trans (hb.mono HB.out.size))
    replace Td := hide (Td.out.below hb)
    replace Ty := hide (Ty.out.below hb)
    replace Ba := hide (Ba.out.below hb Ba.out.lt)
    replace Bd := hide (Bd.out.below hb Bd.out.lt)
    replace By := hide (By.out.below hb By.out.lt)
    replace Bf := hide (Bf.out.below hb Bf.out.lt)
    replace Tt := hide (Tt.out.below hb)
    replace Xt := hide (Xt.out.down hb)
    replace Bt := hide (Bt.out.below hb Bt.out.lt)
    replace Tu := hide (Tu.out.below hb)
    replace Xu := hide (Xu.out.down hb)
    replace Bu := hide (Bu.out.below hb Bu.out.lt)
    clear hb
    clear HSM
    have c_Bf0 := Bf.out.cell 0
    have c_Bf1 := Bf.out.cell 1
    have c_Bf2 := Bf.out.cell 2
    go_wp2_with fail
    clear c_Bf0 c_Bf1 c_Bf2
    have HSM := same_terr HAH.out HAM.out HAR.out y2 _ (Cel.fault_cases (ts := [a]) (Pl.code_known qs a.look)) _ (HEZ.out _ HB.out) Xu.out
    rw [HFV.out] at HSM
    replace HSM := hide HSM
    refine (HSM.out).mono ?_
    rintro e u8 ⟨rfl, hb⟩
    replace HB := hide (HB.out.trans (hb.mono HB.out.size))
    replace Td := hide (Td.out.below hb)
    replace Ty := hide (Ty.out.below hb)
    replace Ba := hide (Ba.out.below hb Ba.out.lt)
    replace Bd := hide (Bd.out.below hb Bd.out.lt)
    replace By := hide (By.out.below hb By.out.lt)
    replace Bf := hide (Bf.out.below hb Bf.out.lt)
    replace Tt := hide (Tt.out.below hb)
    replace Xt := hide (Xt.out.down hb)
    replace Bt := hide (Bt.out.below hb Bt.out.lt)
    replace Tu := hide (Tu.out.below hb)
    replace Xu := hide (Xu.out.down hb)
    replace Bu := hide (Bu.out.below hb Bu.out.lt)
    clear hb
    clear HSM
    have e0 : t.ds.length = 0 := by rw [Dt.out, if_neg HNF.out]; rfl
    have e2 := Bt.out.cell 2
    rw [e0] at e2
    have e0 : u.ds.length = 0 := by rw [Du.out, if_neg HNF.out]; rfl
    have e3 := Bu.out.cell 2
    rw [e0] at e3
    clear e0
    have c_Bf0 := Bf.out.cell 0
    have c_Ba0 := Ba.out.cell 0
    have c_Ba1 := Ba.out.cell 1
    have c_Ba2 := Ba.out.cell 2
    go_wp2_with fail
    clear c_Bf0 c_Ba0 c_Ba1 c_Ba2
    clear e2 e3
    have HCC := plcell_c true qs A qcap a i ah am ar _ (HQ.out _ HB.out) HQL.out (IA.out _ HB.out) HI.out (HE.out _ HB.out)
    rw [hnq.out, show Pl.cell true qs a i = 0 by unfold Pl.cell; rw [if_neg HNF.out]] at HCC
    replace HCC := hide HCC
    refine (HCC.out).mono ?_
    rintro e u9 ⟨rfl, hb⟩
    replace HB := hide (HB.out.trans (hb.mono HB.out.size))
    replace Td := hide (Td.out.below hb)
    replace Ty := hide (Ty.out.below hb)
    replace Ba := hide (Ba.out.below hb Ba.out.lt)
    replace Bd := hide (Bd.out.below hb Bd.out.lt)
    replace By := hide (By.out.below hb By.out.lt)
    replace Bf := hide (Bf.out.below hb Bf.out.lt)
    replace Tt := hide (Tt.out.below hb)
    replace Xt := hide (Xt.out.down hb)
    replace Bt := hide (Bt.out.below hb Bt.out.lt)
    replace Tu := hide (Tu.out.below hb)
    replace Xu := hide (Xu.out.down hb)
    replace Bu := hide (Bu.out.below hb Bu.out.lt)
    clear hb
    go_wp2_with fail
    go_ret
    exact ⟨rfl, HB.out⟩
  case pos =>
  have HT9 := HT
  obtain ⟨w10, hw10⟩ : ∃ W, W = w9.alloc (.cells #[.int .i64 ka, .bool pa, .int .i64 ia] 35) := ⟨_, rfl⟩
  have hbA : Below w9.heap.size w9 w10 := by rw [hw10]; exact (Below.refl _ _).alloc (Nat.le_refl _) _
  have Bf : Hid (Has w10 w9.heap.size 35 [.int .i64 ka, .bool pa, .int .i64 ia]) := hide (by rw [hw10]; exact Has.new _ _ _)
  have HWs : Hid (w8b.heap.size ≤ w9.heap.size ∧ w.heap.size ≤ w9.heap.size) := hide (by have h1 := HT.out.size; have h2 := HBs.out; omega)
  replace HT := hide (HT.out.trans (hbA.mono HT.out.size))
  have Hw10 := hide hw10
  clear hw10 hbA
  subst h0
  have HA0 : Hid (Tens.fault a.zs a.u a.ds = (0, none)) := hide (Ten.fault_nil hka.out)
  have HWX : Hid (w10 = w9.alloc (.cells #[.int .i64 0, .bool pa, .int .i64 ia] 35)) := hide Hw10.out
  clear Hw10 HT9
  have HCF := hide (Cel.one_good (k := (Pl.code qs a.look)) HA0.out)
  go_wp2_with fail
  rw [← HWX.out]
  clear HWX
  refine (bare_c ((Pl.code qs a.look) : Int) _).mono ?_
  rintro e w13 ⟨rfl, hb⟩
  have Bf2 := hide (Bf.out.below hb Bf.out.lt)
  have HT2 := hide (HT.out.trans (hb.mono HT.out.size))
  clear hb Bf HT
  obtain ⟨z0, z1, z2, zf0, zf1, zf2, HZf, HFf⟩ := elm_three Bf2.out HT2.out HWs.out.1 (.int .i64 ((Pl.code qs a.look) : Int)) (.bool false) (.int .i64 0)
  obtain ⟨w14, hw14⟩ : ∃ W, Hid (W = ((w13.setCell ⟨w9.heap.size, 0, none⟩ (.int .i64 ((Pl.code qs a.look) : Int))).setCell ⟨w9.heap.size, 1, none⟩ (.bool false)).setCell ⟨w9.heap.size, 2, none⟩ (.int .i64 0)) := ⟨_, hide rfl⟩
  rw [← hw14.out] at HZf HFf
  have HT := HFf
  have Bf := HZf
  have HFV : Hid (Tens.fval (Cel.fault [a] (Pl.code qs a.look)) = gcells ((Pl.code qs a.look) : Int) false 0) := hide (by rw [HCF.out]; rfl)
  have Ba13 := Ba0.out.below HT2.out Ba0.out.lt
  have ca0 := Ba13.cell 0
  have ca1 := Ba13.cell 1
  have ca2 := Ba13.cell 2
  have cne : w9.heap.size ≠ w.heap.size := by have h1 := Ba0.out.lt; have h2 := HWs.out; omega
  clear Ba13 Bf2 HT2
  have HB := hide (HB0.out.trans (HT.out.mono HB0.out.size))
  have Td := hide (Td0.out.below HT.out)
  have Ty := hide (Ty0.out.below HT.out)
  have Ba := hide (Ba0.out.below HT.out Ba0.out.lt)
  have Bd := hide (Bd0.out.below HT.out Bd0.out.lt)
  have By := hide (By0.out.below HT.out By0.out.lt)
  clear Td0 Ty0 Ba0 Bd0 By0 HB0 HT HBs
  have db0 := Ba.out.cell 0
  have db1 := Ba.out.cell 1
  have db2 := Ba.out.cell 2
  rw [hw14.out] at db0 db1 db2
  go_wp2_with fail
  rw [← hw14.out]
  clear z0 z1 z2 zf0 zf1 zf2 HZf HFf hw14 ca0 ca1 ca2 cne db0 db1 db2
  have HDO := hide (plmax_c qs A qcap a ah am ar _ (HQ.out _ HB.out) HQL.out (IA.out _ HB.out) (HE.out _ HB.out))
  rw [hnq.out] at HDO
  refine (HDO.out).mono ?_
  rintro e v1 ⟨⟨t, x, rfl, ht, -, htz, htu, htd, hx, -⟩, hb⟩
  replace HB := hide (HB.out.trans (hb.mono HB.out.size))
  replace Td := hide (Td.out.below hb)
  replace Ty := hide (Ty.out.below hb)
  replace Ba := hide (Ba.out.below hb Ba.out.lt)
  replace Bd := hide (Bd.out.below hb Bd.out.lt)
  replace By := hide (By.out.below hb By.out.lt)
  replace Bf := hide (Bf.out.below hb Bf.out.lt)
  clear hb
  have Zt := hide htz
  have Ut := hide htu
  have Dt := hide htd
  have Tt := hide ht
  have Xt := hide hx
  clear htz htu htd ht hx HDO
  have c_Ba0 := Ba.out.cell 0
  have c_Ba1 := Ba.out.cell 1
  have c_Ba2 := Ba.out.cell 2
  have l_Ba := Ba.out.lt
  obtain ⟨v2, hv2⟩ : ∃ W, W = v1.alloc (.cells #[.slice t.P t.zs.length t.cap, .bool t.u, .slice t.D t.ds.length t.dcap] 26) := ⟨_, rfl⟩
  have hbA : Below v1.heap.size v1 v2 := by rw [hv2]; exact (Below.refl _ _).alloc (Nat.le_refl _) _
  have Bt : Hid (Has v2 v1.heap.size 26 [.slice t.P t.zs.length t.cap, .bool t.u, .slice t.D t.ds.length t.dcap]) := hide (by rw [hv2]; exact Has.new _ _ _)
  replace HB := hide (HB.out.trans (hbA.mono HB.out.size))
  replace Td := hide (Td.out.below hbA)
  replace Ty := hide (Ty.out.below hbA)
  replace Ba := hide (Ba.out.below hbA Ba.out.lt)
  replace Bd := hide (Bd.out.below hbA Bd.out.lt)
  replace By := hide (By.out.below hbA By.out.lt)
  replace Bf := hide (Bf.out.below hbA Bf.out.lt)
  replace Tt := hide (Tt.out.below hbA)
  replace Xt := hide (Xt.out.down hbA)
  have Hv2 := hide hv2
  clear hv2 hbA
  go_wp2_with fail
  rw [← Hv2.out]
  clear Hv2 c_Ba0 c_Ba1 c_Ba2 l_Ba
  have HDO := hide (plavg_c qs A qcap a ah am ar _ (HQ.out _ HB.out) HQL.out (IA.out _ HB.out) (HE.out _ HB.out))
  rw [hnq.out] at HDO
  refine (HDO.out).mono ?_
  rintro e v3 ⟨⟨u, y2, rfl, hu, -, huz, huu, hud, hy2, -⟩, hb⟩
  replace HB := hide (HB.out.trans (hb.mono HB.out.size))
  replace Td := hide (Td.out.below hb)
  replace Ty := hide (Ty.out.below hb)
  replace Ba := hide (Ba.out.below hb Ba.out.lt)
  replace Bd := hide (Bd.out.below hb Bd.out.lt)
  replace By := hide (By.out.below hb By.out.lt)
  replace Bf := hide (Bf.out.below hb Bf.out.lt)
  replace Tt := hide (Tt.out.below hb)
  replace Xt := hide (Xt.out.down hb)
  replace Bt := hide (Bt.out.below hb Bt.out.lt)
  clear hb
  have Zu := hide huz
  have Uu := hide huu
  have Du := hide hud
  have Tu := hide hu
  have Xu := hide hy2
  clear huz huu hud hu hy2 HDO
  obtain ⟨v4, hv4⟩ : ∃ W, W = v3.alloc (.cells #[.slice u.P u.zs.length u.cap, .bool u.u, .slice u.D u.ds.length u.dcap] 26) := ⟨_, rfl⟩
  have hbA : Below v3.heap.size v3 v4 := by rw [hv4]; exact (Below.refl _ _).alloc (Nat.le_refl _) _
  have Bu : Hid (Has v4 v3.heap.size 26 [.slice u.P u.zs.length u.cap, .bool u.u, .slice u.D u.ds.length u.dcap]) := hide (by rw [hv4]; exact Has.new _ _ _)
  replace HB := hide (HB.out.trans (hbA.mono HB.out.size))
  replace Td := hide (Td.out.below hbA)
  replace Ty := hide (Ty.out.below hbA)
  replace Ba := hide (Ba.out.below hbA Ba.out.lt)
  replace Bd := hide (Bd.out.below hbA Bd.out.lt)
  replace By := hide (By.out.below hbA By.out.lt)
  replace Bf := hide (Bf.out.below hbA Bf.out.lt)
  replace Tt := hide (Tt.out.below hbA)
  replace Xt := hide (Xt.out.down hbA)
  replace Bt := hide (Bt.out.below hbA Bt.out.lt)
  replace Tu := hide (Tu.out.below hbA)
  replace Xu := hide (Xu.out.down hbA)
  have Hv4 := hide hv4
  clear hv4 hbA
  go_wp2_with fail
  rw [← Hv4.out]
  clear Hv4
  refine (is_code HAH.out HAM.out HAR.out (Pl.code qs a.look) (Pl.code_known qs a.look) _ (HEZ.out _ HB.out)).mono ?_
  rintro e v5 ⟨rfl, hb⟩
  replace HB := hide (HB.out.trans (hb.mono HB.out.size))
  replace Td := hide (Td.out.below hb)
  replace Ty := hide (Ty.out.below hb)
  replace Ba := hide (Ba.out.below hb Ba.out.lt)
  replace Bd := hide (Bd.out.below hb Bd.out.lt)
  replace By := hide (By.out.below hb By.out.lt)
  replace Bf := hide (Bf.out.below hb Bf.out.lt)
  replace Tt := hide (Tt.out.below hb)
  replace Xt := hide (Xt.out.down hb)
  replace Bt := hide (Bt.out.below hb Bt.out.lt)
  replace Tu := hide (Tu.out.below hb)
  replace Xu := hide (Xu.out.down hb)
  replace Bu := hide (Bu.out.below hb Bu.out.lt)
  clear hb
  have c_Bd0 := Bd.out.cell 0
  have c_Bd1 := Bd.out.cell 1
  have c_By0 := By.out.cell 0
  have c_By1 := By.out.cell 1
  go_wp2_with fail
  clear c_Bd0 c_Bd1 c_By0 c_By1
  have h1 := Td.out
  have h2 := Ty.out
  have HSD := samedesc_c d.zs y.zs d.P y.P d.cap y.cap d.u y.u _ h1.shp h2.shp h1.ls h2.ls
  rw [decide_eq_true (Zd.out.trans Zy.out.symm), show (d.u == y.u) = true by rw [show d.u = y.u from Ud.out.trans Uy.out.symm]; simp] at HSD
  replace HSD := hide HSD
  clear h1 h2
  refine (HSD.out).mono ?_
  rintro e v6 ⟨rfl, hb⟩
  replace HB := hide (HB.out.trans (hb.mono HB.out.size))
  replace Td := hide (Td.out.below hb)
  replace Ty := hide (Ty.out.below hb)
  replace Ba := hide (Ba.out.below hb Ba.out.lt)
  replace Bd := hide (Bd.out.below hb Bd.out.lt)
  replace By := hide (By.out.below hb By.out.lt)
  replace Bf := hide (Bf.out.below hb Bf.out.lt)
  replace Tt := hide (Tt.out.below hb)
  replace Xt := hide (Xt.out.down hb)
  replace Bt := hide (Bt.out.below hb Bt.out.lt)
  replace Tu := hide (Tu.out.below hb)
  replace Xu := hide (Xu.out.down hb)
  replace Bu := hide (Bu.out.below hb Bu.out.lt)
  clear hb
  clear HSD
  have c_Bf0 := Bf.out.cell 0
  have c_Bf1 := Bf.out.cell 1
  have c_Bf2 := Bf.out.cell 2
  go_wp2_with fail
  clear c_Bf0 c_Bf1 c_Bf2
  have HSM := same_terr HAH.out HAM.out HAR.out x _ (Cel.fault_cases (ts := [a]) (Pl.code_known qs a.look)) _ (HEZ.out _ HB.out) Xt.out
  rw [HFV.out] at HSM
  replace HSM := hide HSM
  refine (HSM.out).mono ?_
  rintro e v7 ⟨rfl, hb⟩
  replace HB := hide (HB.out.trans (hb.mono HB.out.size))
  replace Td := hide (Td.out.below hb)
  replace Ty := hide (Ty.out.below hb)
  replace Ba := hide (Ba.out.below hb Ba.out.lt)
  replace Bd := hide (Bd.out.below hb Bd.out.lt)
  replace By := hide (By.out.below hb By.out.lt)
  replace Bf := hide (Bf.out.below hb Bf.out.lt)
  replace Tt := hide (Tt.out.below hb)
  replace Xt := hide (Xt.out.down hb)
  replace Bt := hide (Bt.out.below hb Bt.out.lt)
  replace Tu := hide (Tu.out.below hb)
  replace Xu := hide (Xu.out.down hb)
  replace Bu := hide (Bu.out.below hb Bu.out.lt)
  clear hb
  clear HSM
  have c_Bf0 := Bf.out.cell 0
  have c_Bf1 := Bf.out.cell 1
  have c_Bf2 := Bf.out.cell 2
  go_wp2_with fail
  clear c_Bf0 c_Bf1 c_Bf2
  have HSM := same_terr HAH.out HAM.out HAR.out y2 _ (Cel.fault_cases (ts := [a]) (Pl.code_known qs a.look)) _ (HEZ.out _ HB.out) Xu.out
  rw [HFV.out] at HSM
  replace HSM := hide HSM
  refine (HSM.out).mono ?_
  rintro e v8 ⟨rfl, hb⟩
  replace HB := hide (HB.out.trans (hb.mono HB.out.size))
  replace Td := hide (Td.out.below hb)
  replace Ty := hide (Ty.out.below hb)
  replace Ba := hide (Ba.out.below hb Ba.out.lt)
  replace Bd := hide (Bd.out.below hb Bd.out.lt)
  replace By := hide (By.out.below hb By.out.lt)
  replace Bf := hide (Bf.out.below hb Bf.out.lt)
  replace Tt := hide (Tt.out.below hb)
  replace Xt := hide (Xt.out.down hb)
  replace Bt := hide (Bt.out.below hb Bt.out.lt)
  replace Tu := hide (Tu.out.below hb)
  replace Xu := hide (Xu.out.down hb)
  replace Bu := hide (Bu.out.below hb Bu.out.lt)
  clear hb
  clear HSM
  by_cases hk0 : (Pl.code qs a.look) = 0
  case neg =>
    have HNF : Hid (Cel.fault [a] (Pl.code qs a.look) ≠ (0, none)) := hide (by rw [HCF.out]; intro h; exact hk0 (Prod.mk.inj h).1)
    have n1 : ((((Pl.code qs a.look) : Nat) : Int) == 0) = false := by simp; omega
    have n2 : ((((Pl.code qs a.look) : Nat) : Int) != 0) = true := by simp; omega
    clear hk0
    have e0 : t.ds.length = 0 := by rw [Dt.out, if_neg HNF.out]; rfl
    have e2 := Bt.out.cell 2
    rw [e0] at e2
    have e0 : u.ds.length = 0 := by rw [Du.out, if_neg HNF.out]; rfl
    have e3 := Bu.out.cell 2
    rw [e0] at e3
    clear e0
    have c_Bf0 := Bf.out.cell 0
    have c_Ba0 := Ba.out.cell 0
    have c_Ba1 := Ba.out.cell 1
    have c_Ba2 := Ba.out.cell 2
    go_wp2_with fail
    clear c_Bf0 c_Ba0 c_Ba1 c_Ba2
    clear e2 e3
    have HCC := plcell_c true qs A qcap a i ah am ar _ (HQ.out _ HB.out) HQL.out (IA.out _ HB.out) HI.out (HE.out _ HB.out)
    rw [hnq.out, show Pl.cell true qs a i = 0 by unfold Pl.cell; rw [if_neg HNF.out]] at HCC
    replace HCC := hide HCC
    refine (HCC.out).mono ?_
    rintro e v9 ⟨rfl, hb⟩
    replace HB := hide (HB.out.trans (hb.mono HB.out.size))
    replace Td := hide (Td.out.below hb)
    replace Ty := hide (Ty.out.below hb)
    replace Ba := hide (Ba.out.below hb Ba.out.lt)
    replace Bd := hide (Bd.out.below hb Bd.out.lt)
    replace By := hide (By.out.below hb By.out.lt)
    replace Bf := hide (Bf.out.below hb Bf.out.lt)
    replace Tt := hide (Tt.out.below hb)
    replace Xt := hide (Xt.out.down hb)
    replace Bt := hide (Bt.out.below hb Bt.out.lt)
    replace Tu := hide (Tu.out.below hb)
    replace Xu := hide (Xu.out.down hb)
    replace Bu := hide (Bu.out.below hb Bu.out.lt)
    clear hb
    go_wp2_with fail
    go_ret
    exact ⟨rfl, HB.out⟩
  case pos =>
  have HFN : Hid (Cel.fault [a] (Pl.code qs a.look) = (0, none)) := hide (by rw [HCF.out, hk0])
  have f0 := Bf.out.cell 0
  rw [hk0] at f0
  have m1 : (((0 : Nat) : Int) != 0) = false := rfl
  have c_Ba0 := Ba.out.cell 0
  have c_Ba1 := Ba.out.cell 1
  have c_Ba2 := Ba.out.cell 2
  have l_Ba := Ba.out.lt
  obtain ⟨w16, hw16⟩ : ∃ W, W = v8.alloc (.cells #[.slice a.P a.zs.length a.cap, .bool a.u, .slice a.D a.ds.length a.dcap] 26) := ⟨_, rfl⟩
  have hbA : Below v8.heap.size v8 w16 := by rw [hw16]; exact (Below.refl _ _).alloc (Nat.le_refl _) _
  have ST : Hid (Has w16 v8.heap.size 26 [.slice a.P a.zs.length a.cap, .bool a.u, .slice a.D a.ds.length a.dcap]) := hide (by rw [hw16]; exact Has.new _ _ _)
  replace HB := hide (HB.out.trans (hbA.mono HB.out.size))
  replace Td := hide (Td.out.below hbA)
  replace Ty := hide (Ty.out.below hbA)
  replace Ba := hide (Ba.out.below hbA Ba.out.lt)
  replace Bd := hide (Bd.out.below hbA Bd.out.lt)
  replace By := hide (By.out.below hbA By.out.lt)
  replace Bf := hide (Bf.out.below hbA Bf.out.lt)
  replace Tt := hide (Tt.out.below hbA)
  replace Xt := hide (Xt.out.down hbA)
  replace Bt := hide (Bt.out.below hbA Bt.out.lt)
  replace Tu := hide (Tu.out.below hbA)
  replace Xu := hide (Xu.out.down hbA)
  replace Bu := hide (Bu.out.below hbA Bu.out.lt)
  have Hw16 := hide hw16
  clear hw16 hbA
  go_wp2_with fail
  rw [← Hw16.out]
  clear Hw16 c_Ba0 c_Ba1 c_Ba2 l_Ba
  clear f0 m1
  have HAP := rapply_pool14 qs a A (some ⟨v8.heap.size, 0, none⟩) qcap 1 _ (HQ.out _ HB.out) (show Row _ _ ([a].flatMap Ten.vals) from ST.out.row) (IA.out _ HB.out)
  unfold RTenE at HAP
  rw [hnq.out, show Tens.fval (Cel.fault [a] (Pl.code qs a.look)) = gcells (0 : Int) false 0 by rw [HFN.out]; rfl] at HAP
  replace HAP := hide HAP
  refine (HAP.out).mono ?_
  rintro e w17 ⟨⟨s, rfl, hs, hsz, hsu, hsd⟩, hb⟩
  replace HB := hide (HB.out.trans (hb.mono HB.out.size))
  replace Td := hide (Td.out.below hb)
  replace Ty := hide (Ty.out.below hb)
  replace Ba := hide (Ba.out.below hb Ba.out.lt)
  replace Bd := hide (Bd.out.below hb Bd.out.lt)
  replace By := hide (By.out.below hb By.out.lt)
  replace Bf := hide (Bf.out.below hb Bf.out.lt)
  replace Tt := hide (Tt.out.below hb)
  replace Xt := hide (Xt.out.down hb)
  replace Bt := hide (Bt.out.below hb Bt.out.lt)
  replace Tu := hide (Tu.out.below hb)
  replace Xu := hide (Xu.out.down hb)
  replace Bu := hide (Bu.out.below hb Bu.out.lt)
  replace ST := hide (ST.out.below hb ST.out.lt)
  clear hb
  have Zs := hide hsz
  have Us := hide hsu
  have Ds := hide hsd
  have Ts := hide hs
  clear hsz hsu hsd hs HAP ST
  have c_Ba0 := Ba.out.cell 0
  have c_Ba1 := Ba.out.cell 1
  have c_Ba2 := Ba.out.cell 2
  have l_Ba := Ba.out.lt
  obtain ⟨w18, hw18⟩ : ∃ W, W = w17.alloc (.cells #[.slice s.P s.zs.length s.cap, .bool s.u, .slice s.D s.ds.length s.dcap] 26) := ⟨_, rfl⟩
  have hbA : Below w17.heap.size w17 w18 := by rw [hw18]; exact (Below.refl _ _).alloc (Nat.le_refl _) _
  have Bs : Hid (Has w18 w17.heap.size 26 [.slice s.P s.zs.length s.cap, .bool s.u, .slice s.D s.ds.length s.dcap]) := hide (by rw [hw18]; exact Has.new _ _ _)
  replace HB := hide (HB.out.trans (hbA.mono HB.out.size))
  replace Td := hide (Td.out.below hbA)
  replace Ty := hide (Ty.out.below hbA)
  replace Ba := hide (Ba.out.below hbA Ba.out.lt)
  replace Bd := hide (Bd.out.below hbA Bd.out.lt)
  replace By := hide (By.out.below hbA By.out.lt)
  replace Bf := hide (Bf.out.below hbA Bf.out.lt)
  replace Tt := hide (Tt.out.below hbA)
  replace Xt := hide (Xt.out.down hbA)
  replace Bt := hide (Bt.out.below hbA Bt.out.lt)
  replace Tu := hide (Tu.out.below hbA)
  replace Xu := hide (Xu.out.down hbA)
  replace Bu := hide (Bu.out.below hbA Bu.out.lt)
  replace Ts := hide (Ts.out.below hbA)
  have Hw18 := hide hw18
  clear hw18 hbA
  obtain ⟨w19, hw19⟩ : ∃ W, W = w18.alloc (.cells #[.int .i64 0, .bool false, .int .i64 0] 35) := ⟨_, rfl⟩
  have hbA : Below w18.heap.size w18 w19 := by rw [hw19]; exact (Below.refl _ _).alloc (Nat.le_refl _) _
  have Bg : Hid (Has w19 (w17.heap.size + 1) 35 [.int .i64 0, .bool false, .int .i64 0]) := hide (by rw [hw19]; exact box_at _ _ _ _ (by rw [Hw18.out]; simp))
  replace HB := hide (HB.out.trans (hbA.mono HB.out.size))
  replace Td := hide (Td.out.below hbA)
  replace Ty := hide (Ty.out.below hbA)
  replace Ba := hide (Ba.out.below hbA Ba.out.lt)
  replace Bd := hide (Bd.out.below hbA Bd.out.lt)
  replace By := hide (By.out.below hbA By.out.lt)
  replace Bf := hide (Bf.out.below hbA Bf.out.lt)
  replace Tt := hide (Tt.out.below hbA)
  replace Xt := hide (Xt.out.down hbA)
  replace Bt := hide (Bt.out.below hbA Bt.out.lt)
  replace Tu := hide (Tu.out.below hbA)
  replace Xu := hide (Xu.out.down hbA)
  replace Bu := hide (Bu.out.below hbA Bu.out.lt)
  replace Ts := hide (Ts.out.below hbA)
  replace Bs := hide (Bs.out.below hbA Bs.out.lt)
  have Hw19 := hide hw19
  clear hw19 hbA
  obtain ⟨w26, hw26⟩ : ∃ W, W = w19.alloc (.cells #[.slice a.P a.zs.length a.cap, .bool a.u, .slice a.D a.ds.length a.dcap] 26) := ⟨_, rfl⟩
  have hbA : Below w19.heap.size w19 w26 := by rw [hw26]; exact (Below.refl _ _).alloc (Nat.le_refl _) _
  have ST : Hid (Has w26 (w17.heap.size + 2) 26 [.slice a.P a.zs.length a.cap, .bool a.u, .slice a.D a.ds.length a.dcap]) := hide (by rw [hw26]; exact box_at _ _ _ _ (by rw [Hw19.out, Hw18.out]; simp))
  replace HB := hide (HB.out.trans (hbA.mono HB.out.size))
  replace Td := hide (Td.out.below hbA)
  replace Ty := hide (Ty.out.below hbA)
  replace Ba := hide (Ba.out.below hbA Ba.out.lt)
  replace Bd := hide (Bd.out.below hbA Bd.out.lt)
  replace By := hide (By.out.below hbA By.out.lt)
  replace Bf := hide (Bf.out.below hbA Bf.out.lt)
  replace Tt := hide (Tt.out.below hbA)
  replace Xt := hide (Xt.out.down hbA)
  replace Bt := hide (Bt.out.below hbA Bt.out.lt)
  replace Tu := hide (Tu.out.below hbA)
  replace Xu := hide (Xu.out.down hbA)
  replace Bu := hide (Bu.out.below hbA Bu.out.lt)
  replace Ts := hide (Ts.out.below hbA)
  replace Bs := hide (Bs.out.below hbA Bs.out.lt)
  replace Bg := hide (Bg.out.below hbA Bg.out.lt)
  have Hw26 := hide hw26
  clear hw26 hbA
  go_wp2_with fail
  rw [← Hw18.out]
  rw [← Hw19.out]
  rw [← Hw26.out]
  clear Hw18 Hw19 Hw26 c_Ba0 c_Ba1 c_Ba2 l_Ba
  have HAP := rapply_pool15 qs a A (some ⟨(w17.heap.size + 2), 0, none⟩) qcap 1 _ (HQ.out _ HB.out) (show Row _ _ ([a].flatMap Ten.vals) from ST.out.row) (IA.out _ HB.out)
  unfold RTenE at HAP
  rw [hnq.out, show Tens.fval (Cel.fault [a] (Pl.code qs a.look)) = gcells (0 : Int) false 0 by rw [HFN.out]; rfl] at HAP
  replace HAP := hide HAP
  refine (HAP.out).mono ?_
  rintro e w27 ⟨⟨z, rfl, hz, hzz, hzu, hzd⟩, hb⟩
  replace HB := hide (HB.out.trans (hb.mono HB.out.size))
  replace Td := hide (Td.out.below hb)
  replace Ty := hide (Ty.out.below hb)
  replace Ba := hide (Ba.out.below hb Ba.out.lt)
  replace Bd := hide (Bd.out.below hb Bd.out.lt)
  replace By := hide (By.out.below hb By.out.lt)
  replace Bf := hide (Bf.out.below hb Bf.out.lt)
  replace Tt := hide (Tt.out.below hb)
  replace Xt := hide (Xt.out.down hb)
  replace Bt := hide (Bt.out.below hb Bt.out.lt)
  replace Tu := hide (Tu.out.below hb)
  replace Xu := hide (Xu.out.down hb)
  replace Bu := hide (Bu.out.below hb Bu.out.lt)
  replace Ts := hide (Ts.out.below hb)
  replace Bs := hide (Bs.out.below hb Bs.out.lt)
  replace Bg := hide (Bg.out.below hb Bg.out.lt)
  replace ST := hide (ST.out.below hb ST.out.lt)
  clear hb
  have Zz := hide hzz
  have Uz := hide hzu
  have Dz := hide hzd
  have Tz := hide hz
  clear hzz hzu hzd hz HAP ST
  obtain ⟨w28, hw28⟩ : ∃ W, W = w27.alloc (.cells #[.slice z.P z.zs.length z.cap, .bool z.u, .slice z.D z.ds.length z.dcap] 26) := ⟨_, rfl⟩
  have hbA : Below w27.heap.size w27 w28 := by rw [hw28]; exact (Below.refl _ _).alloc (Nat.le_refl _) _
  have Bz : Hid (Has w28 w27.heap.size 26 [.slice z.P z.zs.length z.cap, .bool z.u, .slice z.D z.ds.length z.dcap]) := hide (by rw [hw28]; exact Has.new _ _ _)
  replace HB := hide (HB.out.trans (hbA.mono HB.out.size))
  replace Td := hide (Td.out.below hbA)
  replace Ty := hide (Ty.out.below hbA)
  replace Ba := hide (Ba.out.below hbA Ba.out.lt)
  replace Bd := hide (Bd.out.below hbA Bd.out.lt)
  replace By := hide (By.out.below hbA By.out.lt)
  replace Bf := hide (Bf.out.below hbA Bf.out.lt)
  replace Tt := hide (Tt.out.below hbA)
  replace Xt := hide (Xt.out.down hbA)
  replace Bt := hide (Bt.out.below hbA Bt.out.lt)
  replace Tu := hide (Tu.out.below hbA)
  replace Xu := hide (Xu.out.down hbA)
  replace Bu := hide (Bu.out.below hbA Bu.out.lt)
  replace Ts := hide (Ts.out.below hbA)
  replace Bs := hide (Bs.out.below hbA Bs.out.lt)
  replace Bg := hide (Bg.out.below hbA Bg.out.lt)
  replace Tz := hide (Tz.out.below hbA)
  have Hw28 := hide hw28
  clear hw28 hbA
  obtain ⟨w29, hw29⟩ : ∃ W, W = w28.alloc (.cells #[.int .i64 0, .bool false, .int .i64 0] 35) := ⟨_, rfl⟩
  have hbA : Below w28.heap.size w28 w29 := by rw [hw29]; exact (Below.refl _ _).alloc (Nat.le_refl _) _
  have Bh : Hid (Has w29 (w27.heap.size + 1) 35 [.int .i64 0, .bool false, .int .i64 0]) := hide (by rw [hw29]; exact box_at _ _ _ _ (by rw [Hw28.out]; simp))
  replace HB := hide (HB.out.trans (hbA.mono HB.out.size))
  replace Td := hide (Td.out.below hbA)
  replace Ty := hide (Ty.out.below hbA)
  replace Ba := hide (Ba.out.below hbA Ba.out.lt)
  replace Bd := hide (Bd.out.below hbA Bd.out.lt)
  replace By := hide (By.out.below hbA By.out.lt)
  replace Bf := hide (Bf.out.below hbA Bf.out.lt)
  replace Tt := hide (Tt.out.below hbA)
  replace Xt := hide (Xt.out.down hbA)
  replace Bt := hide (Bt.out.below hbA Bt.out.lt)
  replace Tu := hide (Tu.out.below hbA)
  replace Xu := hide (Xu.out.down hbA)
  replace Bu := hide (Bu.out.below hbA Bu.out.lt)
  replace Ts := hide (Ts.out.below hbA)
  replace Bs := hide (Bs.out.below hbA Bs.out.lt)
  replace Bg := hide (Bg.out.below hbA Bg.out.lt)
  replace Tz := hide (Tz.out.below hbA)
  replace Bz := hide (Bz.out.below hbA Bz.out.lt)
  have Hw29 := hide hw29
  clear hw29 hbA
  go_wp2_with fail
  rw [← Hw28.out]
  rw [← Hw29.out]
  clear Hw28 Hw29
  have H1 : Hid (∀ W, Below w29.heap.size w29 W → Calls Tryd.prog 22 #[.agg #[.slice t.P t.zs.length t.cap, .bool t.u, .slice t.D t.ds.length t.dcap], .agg #[.slice s.P s.zs.length s.cap, .bool s.u, .slice s.D s.ds.length s.dcap]] W fun e w' => e = .returned (.bool true) ∧ Below W.heap.size W w') := hide (fun W hb => by
    have h1 := Tt.out.below hb
    have h2 := Ts.out.below hb
    have h := sametensor_c t.zs s.zs t.ds s.ds t.P s.P t.D s.D t.cap s.cap t.dcap s.dcap t.u s.u W h1.shp h2.shp h1.dat h2.dat h1.ls h2.ls h1.ld h2.ld
    rw [decide_eq_true (Zt.out.trans Zs.out.symm), decide_eq_true (Dt.out.trans Ds.out.symm), show (t.u == s.u) = true by rw [show t.u = s.u from Ut.out.trans Us.out.symm]; simp] at h
    exact h)
  have H2 : Hid (∀ W, Below w29.heap.size w29 W → Calls Tryd.prog 22 #[.agg #[.slice u.P u.zs.length u.cap, .bool u.u, .slice u.D u.ds.length u.dcap], .agg #[.slice z.P z.zs.length z.cap, .bool z.u, .slice z.D z.ds.length z.dcap]] W fun e w' => e = .returned (.bool true) ∧ Below W.heap.size W w') := hide (fun W hb => by
    have h1 := Tu.out.below hb
    have h2 := Tz.out.below hb
    have h := sametensor_c u.zs z.zs u.ds z.ds u.P z.P u.D z.D u.cap z.cap u.dcap z.dcap u.u z.u W h1.shp h2.shp h1.dat h2.dat h1.ls h2.ls h1.ld h2.ld
    rw [decide_eq_true (Zu.out.trans Zz.out.symm), decide_eq_true (Du.out.trans Dz.out.symm), show (u.u == z.u) = true by rw [show u.u = z.u from Uu.out.trans Uz.out.symm]; simp] at h
    exact h)
  obtain ⟨va, hva⟩ : ∃ v, Hid (Pl.cell false qs a i = v) := ⟨_, hide rfl⟩
  have H3 : Hid (∀ W, Below w29.heap.size w29 W → Calls Tryd.prog 30 #[.bool false, .agg #[.slice a.P a.zs.length a.cap, .bool a.u, .slice a.D a.ds.length a.dcap], .int .i64 i, .slice A nq qcap] W fun e w' => e = .returned (.int .i64 va) ∧ Below W.heap.size W w') := hide (fun W hb => by
    have h := plcell_c false qs A qcap a i ah am ar W (HQ.out _ (HB.out.trans (hb.mono HB.out.size))) HQL.out (IA.out _ (HB.out.trans (hb.mono HB.out.size))) HI.out (HE.out _ (HB.out.trans (hb.mono HB.out.size)))
    rw [hva.out, hnq.out] at h
    exact h)
  have H4 : Hid (∀ W (gT : Nat), Below w29.heap.size w29 W → Has W gT 26 [.slice a.P a.zs.length a.cap, .bool a.u, .slice a.D a.ds.length a.dcap] → Calls Tryd.prog 31 #[.int .i64 14, .slice A nq qcap, .int .i64 i, .slice (some ⟨gT, 0, none⟩) 1 1] W fun e w' => e = .returned (.int .i64 va) ∧ Below W.heap.size W w') := hide (fun W gT hb h2 => by
    have h := relement_pool14 qs a A (some ⟨gT, 0, none⟩) qcap 1 i W (HQ.out _ (HB.out.trans (hb.mono HB.out.size))) (show Row _ _ ([a].flatMap Ten.vals) from h2.row) (IA.out _ (HB.out.trans (hb.mono HB.out.size)))
    rw [hva.out, hnq.out] at h
    exact h)
  obtain ⟨vb, hvb⟩ : ∃ v, Hid (Pl.cell true qs a i = v) := ⟨_, hide rfl⟩
  have H5 : Hid (∀ W, Below w29.heap.size w29 W → Calls Tryd.prog 30 #[.bool true, .agg #[.slice a.P a.zs.length a.cap, .bool a.u, .slice a.D a.ds.length a.dcap], .int .i64 i, .slice A nq qcap] W fun e w' => e = .returned (.int .i64 vb) ∧ Below W.heap.size W w') := hide (fun W hb => by
    have h := plcell_c true qs A qcap a i ah am ar W (HQ.out _ (HB.out.trans (hb.mono HB.out.size))) HQL.out (IA.out _ (HB.out.trans (hb.mono HB.out.size))) HI.out (HE.out _ (HB.out.trans (hb.mono HB.out.size)))
    rw [hvb.out, hnq.out] at h
    exact h)
  have H6 : Hid (∀ W (gT : Nat), Below w29.heap.size w29 W → Has W gT 26 [.slice a.P a.zs.length a.cap, .bool a.u, .slice a.D a.ds.length a.dcap] → Calls Tryd.prog 31 #[.int .i64 15, .slice A nq qcap, .int .i64 i, .slice (some ⟨gT, 0, none⟩) 1 1] W fun e w' => e = .returned (.int .i64 vb) ∧ Below W.heap.size W w') := hide (fun W gT hb h2 => by
    have h := relement_pool15 qs a A (some ⟨gT, 0, none⟩) qcap 1 i W (HQ.out _ (HB.out.trans (hb.mono HB.out.size))) (show Row _ _ ([a].flatMap Ten.vals) from h2.row) (IA.out _ (HB.out.trans (hb.mono HB.out.size)))
    rw [hvb.out, hnq.out] at h
    exact h)
  have hS00 : PsS ⟨w.heap.size, 0, none⟩ ⟨w.heap.size, 1, none⟩ ⟨w.heap.size, 2, none⟩ ⟨v1.heap.size, 0, none⟩ ⟨v1.heap.size, 1, none⟩ ⟨v1.heap.size, 2, none⟩ ⟨w17.heap.size, 0, none⟩ ⟨w17.heap.size, 1, none⟩ ⟨w17.heap.size, 2, none⟩ ⟨v3.heap.size, 0, none⟩ ⟨v3.heap.size, 1, none⟩ ⟨v3.heap.size, 2, none⟩ ⟨w27.heap.size, 0, none⟩ ⟨w27.heap.size, 1, none⟩ ⟨w27.heap.size, 2, none⟩ (.slice a.P a.zs.length a.cap) (.bool a.u) (.slice a.D a.ds.length a.dcap) (.slice t.P t.zs.length t.cap) (.bool t.u) (.slice t.D t.ds.length t.dcap) (.slice s.P s.zs.length s.cap) (.bool s.u) (.slice s.D s.ds.length s.dcap) (.slice u.P u.zs.length u.cap) (.bool u.u) (.slice u.D u.ds.length u.dcap) (.slice z.P z.zs.length z.cap) (.bool z.u) (.slice z.D z.ds.length z.dcap) w29 := ⟨Ba.out.cell 0, Ba.out.cell 1, Ba.out.cell 2, Bt.out.cell 0, Bt.out.cell 1, Bt.out.cell 2, Bs.out.cell 0, Bs.out.cell 1, Bs.out.cell 2, Bu.out.cell 0, Bu.out.cell 1, Bu.out.cell 2, Bz.out.cell 0, Bz.out.cell 1, Bz.out.cell 2⟩
  have hS0 := PsS.drew hS00
  have hX0 := hide (Below.refl w29.heap.size w29).drew
  clear hS00
  go_region_held3 (fun W => W.cell? ⟨w.heap.size, 0, none⟩ = some (.slice a.P a.zs.length a.cap) ∧ W.cell? ⟨w.heap.size, 1, none⟩ = some (.bool a.u) ∧ W.cell? ⟨w.heap.size, 2, none⟩ = some (.slice a.D a.ds.length a.dcap) ∧ W.cell? ⟨v1.heap.size, 0, none⟩ = some (.slice t.P t.zs.length t.cap) ∧ W.cell? ⟨v1.heap.size, 1, none⟩ = some (.bool t.u) ∧ W.cell? ⟨v1.heap.size, 2, none⟩ = some (.slice t.D t.ds.length t.dcap) ∧ W.cell? ⟨w17.heap.size, 0, none⟩ = some (.slice s.P s.zs.length s.cap) ∧ W.cell? ⟨w17.heap.size, 1, none⟩ = some (.bool s.u) ∧ W.cell? ⟨w17.heap.size, 2, none⟩ = some (.slice s.D s.ds.length s.dcap) ∧ W.cell? ⟨v3.heap.size, 0, none⟩ = some (.slice u.P u.zs.length u.cap) ∧ W.cell? ⟨v3.heap.size, 1, none⟩ = some (.bool u.u) ∧ W.cell? ⟨v3.heap.size, 2, none⟩ = some (.slice u.D u.ds.length u.dcap) ∧ W.cell? ⟨w27.heap.size, 0, none⟩ = some (.slice z.P z.zs.length z.cap) ∧ W.cell? ⟨w27.heap.size, 1, none⟩ = some (.bool z.u) ∧ W.cell? ⟨w27.heap.size, 2, none⟩ = some (.slice z.D z.ds.length z.dcap))
    (first | with_reducible exact hS0 | with_reducible exact hS1 | with_reducible exact hS2 | with_reducible exact hS2T | with_reducible exact hSVc | with_reducible exact hSVcT | with_reducible exact hSVe | with_reducible exact hSVeT | with_reducible exact hSVd | with_reducible exact hSVdT | with_reducible exact hSVf | with_reducible exact hSVfT | with_reducible assumption)
    (first
      | (go_at_call 22; (with_reducible refine (H1.out w29.drew hX0.out).mono ?_); rintro e V1 ⟨rfl, hb⟩; have hX1 := hide (hX0.out.trans (hb.mono hX0.out.size)); have hS1 := PsS.keep hS0 hb)
      | (go_at_call 22; (with_reducible refine (H2.out V1 hX1.out).mono ?_); rintro e V2 ⟨rfl, hb⟩; have hX2 := hide (hX1.out.trans (hb.mono hX1.out.size)); have hS2 := PsS.keep hS1 hb; have hS2T := PsS.keep hS2 ((Below.refl V2.heap.size V2).alloc (Nat.le_refl _) (.cells #[.slice a.P a.zs.length a.cap, .bool a.u, .slice a.D a.ds.length a.dcap] 26)); have hX2T := hide (hX2.out.alloc hX2.out.size (.cells #[.slice a.P a.zs.length a.cap, .bool a.u, .slice a.D a.ds.length a.dcap] 26)); have k2T : Has (V2.alloc (.cells #[.slice a.P a.zs.length a.cap, .bool a.u, .slice a.D a.ds.length a.dcap] 26)) V2.heap.size 26 [.slice a.P a.zs.length a.cap, .bool a.u, .slice a.D a.ds.length a.dcap] := Has.new V2 _ _)
      | (go_at_call 30; (with_reducible refine (H3.out V2 hX2.out).mono ?_); rintro e Vc ⟨rfl, hb⟩; have hXVc := hide (hX2.out.trans (hb.mono hX2.out.size)); have hSVc := PsS.keep hS2 hb; have hSVcT := PsS.keep hSVc ((Below.refl Vc.heap.size Vc).alloc (Nat.le_refl _) (.cells #[.slice a.P a.zs.length a.cap, .bool a.u, .slice a.D a.ds.length a.dcap] 26)); have hXVcT := hide (hXVc.out.alloc hXVc.out.size (.cells #[.slice a.P a.zs.length a.cap, .bool a.u, .slice a.D a.ds.length a.dcap] 26)); have kVcT : Has (Vc.alloc (.cells #[.slice a.P a.zs.length a.cap, .bool a.u, .slice a.D a.ds.length a.dcap] 26)) Vc.heap.size 26 [.slice a.P a.zs.length a.cap, .bool a.u, .slice a.D a.ds.length a.dcap] := Has.new Vc _ _)
      | (go_at_call 30; (with_reducible refine (H3.out (V2.alloc (.cells #[.slice a.P a.zs.length a.cap, .bool a.u, .slice a.D a.ds.length a.dcap] 26)) hX2T.out).mono ?_); rintro e Vc ⟨rfl, hb⟩; have hXVc := hide (hX2T.out.trans (hb.mono hX2T.out.size)); have hSVc := PsS.keep hS2T hb; have hSVcT := PsS.keep hSVc ((Below.refl Vc.heap.size Vc).alloc (Nat.le_refl _) (.cells #[.slice a.P a.zs.length a.cap, .bool a.u, .slice a.D a.ds.length a.dcap] 26)); have hXVcT := hide (hXVc.out.alloc hXVc.out.size (.cells #[.slice a.P a.zs.length a.cap, .bool a.u, .slice a.D a.ds.length a.dcap] 26)); have kVcT : Has (Vc.alloc (.cells #[.slice a.P a.zs.length a.cap, .bool a.u, .slice a.D a.ds.length a.dcap] 26)) Vc.heap.size 26 [.slice a.P a.zs.length a.cap, .bool a.u, .slice a.D a.ds.length a.dcap] := Has.new Vc _ _; have ccT := k2T.below hb k2T.lt)
      | (go_at_call 31; (with_reducible refine (H4.out Vc _ hXVc.out ccT).mono ?_); rintro e Ve ⟨rfl, hb⟩; have hXVe := hide (hXVc.out.trans (hb.mono hXVc.out.size)); have hSVe := PsS.keep hSVc hb; have hSVeT := PsS.keep hSVe ((Below.refl Ve.heap.size Ve).alloc (Nat.le_refl _) (.cells #[.slice a.P a.zs.length a.cap, .bool a.u, .slice a.D a.ds.length a.dcap] 26)); have hXVeT := hide (hXVe.out.alloc hXVe.out.size (.cells #[.slice a.P a.zs.length a.cap, .bool a.u, .slice a.D a.ds.length a.dcap] 26)); have kVeT : Has (Ve.alloc (.cells #[.slice a.P a.zs.length a.cap, .bool a.u, .slice a.D a.ds.length a.dcap] 26)) Ve.heap.size 26 [.slice a.P a.zs.length a.cap, .bool a.u, .slice a.D a.ds.length a.dcap] := Has.new Ve _ _)
      | (go_at_call 31; (with_reducible refine (H4.out (Vc.alloc (.cells #[.slice a.P a.zs.length a.cap, .bool a.u, .slice a.D a.ds.length a.dcap] 26)) _ hXVcT.out kVcT).mono ?_); rintro e Ve ⟨rfl, hb⟩; have hXVe := hide (hXVcT.out.trans (hb.mono hXVcT.out.size)); have hSVe := PsS.keep hSVcT hb; have hSVeT := PsS.keep hSVe ((Below.refl Ve.heap.size Ve).alloc (Nat.le_refl _) (.cells #[.slice a.P a.zs.length a.cap, .bool a.u, .slice a.D a.ds.length a.dcap] 26)); have hXVeT := hide (hXVe.out.alloc hXVe.out.size (.cells #[.slice a.P a.zs.length a.cap, .bool a.u, .slice a.D a.ds.length a.dcap] 26)); have kVeT : Has (Ve.alloc (.cells #[.slice a.P a.zs.length a.cap, .bool a.u, .slice a.D a.ds.length a.dcap] 26)) Ve.heap.size 26 [.slice a.P a.zs.length a.cap, .bool a.u, .slice a.D a.ds.length a.dcap] := Has.new Ve _ _)
      | (go_at_call 30; (with_reducible refine (H5.out Ve hXVe.out).mono ?_); rintro e Vd ⟨rfl, hb⟩; have hXVd := hide (hXVe.out.trans (hb.mono hXVe.out.size)); have hSVd := PsS.keep hSVe hb; have hSVdT := PsS.keep hSVd ((Below.refl Vd.heap.size Vd).alloc (Nat.le_refl _) (.cells #[.slice a.P a.zs.length a.cap, .bool a.u, .slice a.D a.ds.length a.dcap] 26)); have hXVdT := hide (hXVd.out.alloc hXVd.out.size (.cells #[.slice a.P a.zs.length a.cap, .bool a.u, .slice a.D a.ds.length a.dcap] 26)); have kVdT : Has (Vd.alloc (.cells #[.slice a.P a.zs.length a.cap, .bool a.u, .slice a.D a.ds.length a.dcap] 26)) Vd.heap.size 26 [.slice a.P a.zs.length a.cap, .bool a.u, .slice a.D a.ds.length a.dcap] := Has.new Vd _ _)
      | (go_at_call 30; (with_reducible refine (H5.out (Ve.alloc (.cells #[.slice a.P a.zs.length a.cap, .bool a.u, .slice a.D a.ds.length a.dcap] 26)) hXVeT.out).mono ?_); rintro e Vd ⟨rfl, hb⟩; have hXVd := hide (hXVeT.out.trans (hb.mono hXVeT.out.size)); have hSVd := PsS.keep hSVeT hb; have hSVdT := PsS.keep hSVd ((Below.refl Vd.heap.size Vd).alloc (Nat.le_refl _) (.cells #[.slice a.P a.zs.length a.cap, .bool a.u, .slice a.D a.ds.length a.dcap] 26)); have hXVdT := hide (hXVd.out.alloc hXVd.out.size (.cells #[.slice a.P a.zs.length a.cap, .bool a.u, .slice a.D a.ds.length a.dcap] 26)); have kVdT : Has (Vd.alloc (.cells #[.slice a.P a.zs.length a.cap, .bool a.u, .slice a.D a.ds.length a.dcap] 26)) Vd.heap.size 26 [.slice a.P a.zs.length a.cap, .bool a.u, .slice a.D a.ds.length a.dcap] := Has.new Vd _ _; have cdT := kVeT.below hb kVeT.lt)
      | (go_at_call 31; (with_reducible refine (H6.out Vd _ hXVd.out cdT).mono ?_); rintro e Vf ⟨rfl, hb⟩; have hXVf := hide (hXVd.out.trans (hb.mono hXVd.out.size)); have hSVf := PsS.keep hSVd hb; have hSVfT := PsS.keep hSVf ((Below.refl Vf.heap.size Vf).alloc (Nat.le_refl _) (.cells #[.slice a.P a.zs.length a.cap, .bool a.u, .slice a.D a.ds.length a.dcap] 26)); have hXVfT := hide (hXVf.out.alloc hXVf.out.size (.cells #[.slice a.P a.zs.length a.cap, .bool a.u, .slice a.D a.ds.length a.dcap] 26)); have kVfT : Has (Vf.alloc (.cells #[.slice a.P a.zs.length a.cap, .bool a.u, .slice a.D a.ds.length a.dcap] 26)) Vf.heap.size 26 [.slice a.P a.zs.length a.cap, .bool a.u, .slice a.D a.ds.length a.dcap] := Has.new Vf _ _)
      | (go_at_call 31; (with_reducible refine (H6.out (Vd.alloc (.cells #[.slice a.P a.zs.length a.cap, .bool a.u, .slice a.D a.ds.length a.dcap] 26)) _ hXVdT.out kVdT).mono ?_); rintro e Vf ⟨rfl, hb⟩; have hXVf := hide (hXVdT.out.trans (hb.mono hXVdT.out.size)); have hSVf := PsS.keep hSVdT hb; have hSVfT := PsS.keep hSVf ((Below.refl Vf.heap.size Vf).alloc (Nat.le_refl _) (.cells #[.slice a.P a.zs.length a.cap, .bool a.u, .slice a.D a.ds.length a.dcap] 26)); have hXVfT := hide (hXVf.out.alloc hXVf.out.size (.cells #[.slice a.P a.zs.length a.cap, .bool a.u, .slice a.D a.ds.length a.dcap] 26)); have kVfT : Has (Vf.alloc (.cells #[.slice a.P a.zs.length a.cap, .bool a.u, .slice a.D a.ds.length a.dcap] 26)) Vf.heap.size 26 [.slice a.P a.zs.length a.cap, .bool a.u, .slice a.D a.ds.length a.dcap] := Has.new Vf _ _))
  all_goals
    have HFin := hide (HB.out.trans (hXVf.out.mono HB.out.size))
    go_wp2_with fail
    go_ret
    exact ⟨rfl, HFin.out⟩
end Go.Proofs.YtcgjnjchkachdaaDoor
