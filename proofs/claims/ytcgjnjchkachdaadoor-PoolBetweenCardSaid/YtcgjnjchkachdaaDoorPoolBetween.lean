/-
  The law PoolBetween, walked. By an AI agent. No person has read it.
-/
import Derived.Test.YtcgjnjchkachdaaDoorPolG
namespace Go.Proofs.YtcgjnjchkachdaaDoor
open Go.RowKit

set_option maxRecDepth 100000 in
set_option maxHeartbeats 4000000 in

theorem poolbetween_c (a : Ten) (size stride v : Int) (ah am ar : Addr) (w : World) (hra : Ri w a.P a.zs) (hda : Ri w a.D a.ds) (hE : E3 w ah am ar) :
    Calls Tryd.prog 5 #[.agg (tcells a.P a.zs.length a.cap a.u a.D a.ds.length a.dcap), .int .i64 size, .int .i64 stride, .int .i64 v] w fun e w' => e = .returned (.bool true) ∧ Below w.heap.size w w' := by
  have HE := hide (fun W (hb : Below w.heap.size w W) => hE.below hb)
  obtain ⟨sa, hsa⟩ : ∃ q_, Hid ((decide (a.zs.length ≤ 8) && decide (a.ds.length ≤ 300)) = q_) := ⟨_, hide rfl⟩
  have WA := hide (fun W => worldtensor_c a.P a.D a.zs.length a.cap a.ds.length a.dcap a.u W)
  rw [hsa.out] at WA
  have IA : Hid (sa = true → ∀ W, Below w.heap.size w W → a.In W) := hide fun h W hb => by
    rw [← hsa.out] at h
    simp at h
    exact ⟨hra.below hb, hda.below hb, by omega, by omega⟩
  have LA : Hid (sa = true → a.ds.length ≤ 300) := hide fun h => by
    rw [← hsa.out] at h
    simp at h
    omega
  obtain ⟨k1, hk0, hk1, NS⟩ := number_n size 16 (by decide) (by decide) 16 rfl
  obtain ⟨k2, hj0, hj1, NT⟩ := number_n stride 16 (by decide) (by decide) 16 rfl
  obtain ⟨k3, hv0, hv1, NV⟩ := number_n v 256 (by decide) (by decide) 256 rfl
  obtain ⟨S, hS⟩ : ∃ M, Hid (k1.toNat + 1 = M) := ⟨_, hide rfl⟩
  obtain ⟨T, hT⟩ : ∃ M, Hid (k2.toNat + 1 = M) := ⟨_, hide rfl⟩
  have ES : Hid (k1 + 1 = (S : Int)) := hide (by rw [← hS.out]; omega)
  have ET : Hid (k2 + 1 = (T : Int)) := hide (by rw [← hT.out]; omega)
  have BS : Hid (1 ≤ S ∧ S ≤ 16) := hide (by rw [← hS.out]; omega)
  have BT : Hid (1 ≤ T ∧ T ≤ 16) := hide (by rw [← hT.out]; omega)
  obtain ⟨v1, ev1⟩ : ∃ M, Hid (k3 - 128 = M) := ⟨_, hide rfl⟩
  have BV : Hid (-128 ≤ v1 ∧ v1 ≤ 127) := hide (by rw [← ev1.out]; omega)
  have HWV : Hid (wrap64 (k3 - 128) = v1) := hide (by rw [← ev1.out]; unfold wrap64; omega)
  clear hv0 hv1 ev1
  have HQS : Hid (∀ q ∈ [(S : Int), (T : Int)], (Lit.int .i64 q).wf = true) := hide (fun q hq => by simp at hq; have := BS.out; have := BT.out; rcases hq with rfl | rfl <;> exact wf_i64 _ (by omega))
  clear hra hda hE hsa

  go_enter Tryd.func5, Tryd.ntmps5
  obtain ⟨wa, hwa⟩ : ∃ W, W = w.alloc (.cells #[.slice a.P a.zs.length a.cap, .bool a.u, .slice a.D a.ds.length a.dcap] 26) := ⟨_, rfl⟩
  have hbA : Below w.heap.size w wa := by rw [hwa]; exact (Below.refl _ _).alloc (Nat.le_refl _) _
  have Ba : Hid (Has wa w.heap.size 26 [.slice a.P a.zs.length a.cap, .bool a.u, .slice a.D a.ds.length a.dcap]) := hide (by rw [hwa]; exact Has.new _ _ _)
  have Hwa := hide hwa
  clear hwa hbA
  have HB : Hid (Below w.heap.size w wa) := hide (by rw [Hwa.out]; exact (Below.refl _ _).alloc (Nat.le_refl _) _)
  go_wp2_with fail
  rw [← Hwa.out]
  clear Hwa
  refine (first10_c ah am ar _ (HE.out _ HB.out)).mono ?_
  rintro e w1 ⟨rfl, hb⟩
  replace Ba := hide (Ba.out.below hb Ba.out.lt)
  replace HB := hide (HB.out.trans (hb.mono HB.out.size))
  clear hb
  have c_Ba0 := Ba.out.cell 0
  have c_Ba1 := Ba.out.cell 1
  have c_Ba2 := Ba.out.cell 2
  go_wp2_with fail
  clear c_Ba0 c_Ba1 c_Ba2
  refine (WA.out _).mono ?_
  rintro e w2 ⟨rfl, hb⟩
  replace Ba := hide (Ba.out.below hb Ba.out.lt)
  replace HB := hide (HB.out.trans (hb.mono HB.out.size))
  clear hb
  cases sa
  case false =>
    go_wp2_with fail
    go_ret
    exact ⟨rfl, HB.out⟩
  case true =>
  replace IA := hide (IA.out rfl)
  replace LA := hide (LA.out rfl)
  have c_Ba0 := Ba.out.cell 0
  have c_Ba1 := Ba.out.cell 1
  have c_Ba2 := Ba.out.cell 2
  go_wp2_with fail
  clear c_Ba0 c_Ba1 c_Ba2
  have HGD := hide (good_c a.zs a.ds a.P a.D a.cap a.dcap a.u _ (IA.out _ HB.out).shp (IA.out _ HB.out).dat (IA.out _ HB.out).ls (IA.out _ HB.out).ld)
  refine (HGD.out).mono ?_
  rintro e w3 ⟨rfl, hb⟩
  replace Ba := hide (Ba.out.below hb Ba.out.lt)
  replace HB := hide (HB.out.trans (hb.mono HB.out.size))
  clear hb
  clear HGD
  by_cases hgd : Tens.fault a.zs a.u a.ds = (0, none)
  case neg =>
    rw [decide_eq_false hgd]
    go_wp2_with fail
    go_ret
    exact ⟨rfl, HB.out⟩
  case pos =>
  rw [decide_eq_true hgd]
  have HFA := hide hgd
  clear hgd
  go_wp2_with fail
  refine (NS.out _).mono ?_
  rintro e wq ⟨rfl, hw⟩
  have hw := hw.symm
  subst hw
  go_wp2_with fail
  refine (NT.out _).mono ?_
  rintro e wq ⟨rfl, hw⟩
  have hw := hw.symm
  subst hw
  have a0 := Ba.out.cell 0
  have a1 := Ba.out.cell 1
  have a2 := Ba.out.cell 2
  have al := Ba.out.lt
  obtain ⟨w4q, hw4q⟩ : ∃ W, W = w3.alloc (.cells #[.int .i64 (k1 + 1), .int .i64 (k2 + 1)] 3) := ⟨_, rfl⟩
  have hbA : Below w3.heap.size w3 w4q := by rw [hw4q]; exact (Below.refl _ _).alloc (Nat.le_refl _) _
  have SQ : Hid (Has w4q w3.heap.size 3 [.int .i64 S, .int .i64 T]) := hide (by rw [hw4q, ES.out, ET.out]; exact Has.new _ _ _)
  replace Ba := hide (Ba.out.below hbA Ba.out.lt)
  replace HB := hide (HB.out.trans (hbA.mono HB.out.size))
  have Hw4q := hide hw4q
  clear hw4q hbA
  go_wp2_with fail
  rw [← Hw4q.out]
  clear Hw4q a0 a1 a2 al
  rw [ES.out, ET.out]
  refine (plmax_c [(S : Int), (T : Int)] (some ⟨w3.heap.size, 0, none⟩) 2 a ah am ar _ (SQ.out.ri (zs := [(S : Int), (T : Int)]) HQS.out) (by simp) (IA.out _ HB.out) (HE.out _ HB.out)).mono ?_
  rintro e w4 ⟨⟨t, x, rfl, ht, -, htz, htu, htd, hx, -⟩, hb⟩
  replace Ba := hide (Ba.out.below hb Ba.out.lt)
  replace HB := hide (HB.out.trans (hb.mono HB.out.size))
  replace SQ := hide (SQ.out.below hb SQ.out.lt)
  clear hb
  have Zt := hide htz
  have Ut := hide htu
  have Dt := hide htd
  have Tt := hide ht
  have Xt := hide hx
  clear htz htu htd ht hx SQ
  have c_Ba0 := Ba.out.cell 0
  have c_Ba1 := Ba.out.cell 1
  have c_Ba2 := Ba.out.cell 2
  have l_Ba := Ba.out.lt
  obtain ⟨w5, hw5⟩ : ∃ W, W = w4.alloc (.cells #[.slice t.P t.zs.length t.cap, .bool t.u, .slice t.D t.ds.length t.dcap] 26) := ⟨_, rfl⟩
  have hbA : Below w4.heap.size w4 w5 := by rw [hw5]; exact (Below.refl _ _).alloc (Nat.le_refl _) _
  have Bt : Hid (Has w5 w4.heap.size 26 [.slice t.P t.zs.length t.cap, .bool t.u, .slice t.D t.ds.length t.dcap]) := hide (by rw [hw5]; exact Has.new _ _ _)
  replace Ba := hide (Ba.out.below hbA Ba.out.lt)
  replace HB := hide (HB.out.trans (hbA.mono HB.out.size))
  replace Tt := hide (Tt.out.below hbA)
  replace Xt := hide (Xt.out.down hbA)
  have Hw5 := hide hw5
  clear hw5 hbA
  obtain ⟨w6q, hw6q⟩ : ∃ W, W = w5.alloc (.cells #[.int .i64 S, .int .i64 T] 3) := ⟨_, rfl⟩
  have hbA : Below w5.heap.size w5 w6q := by rw [hw6q]; exact (Below.refl _ _).alloc (Nat.le_refl _) _
  have SQ : Hid (Has w6q (w4.heap.size + 1) 3 [.int .i64 S, .int .i64 T]) := hide (by rw [hw6q]; exact box_at _ _ _ _ (by rw [Hw5.out]; simp))
  replace Ba := hide (Ba.out.below hbA Ba.out.lt)
  replace HB := hide (HB.out.trans (hbA.mono HB.out.size))
  replace Tt := hide (Tt.out.below hbA)
  replace Xt := hide (Xt.out.down hbA)
  replace Bt := hide (Bt.out.below hbA Bt.out.lt)
  have Hw6q := hide hw6q
  clear hw6q hbA
  go_wp2_with fail
  rw [← Hw5.out]
  rw [← Hw6q.out]
  clear Hw5 Hw6q c_Ba0 c_Ba1 c_Ba2 l_Ba
  refine (plavg_c [(S : Int), (T : Int)] (some ⟨(w4.heap.size + 1), 0, none⟩) 2 a ah am ar _ (SQ.out.ri (zs := [(S : Int), (T : Int)]) HQS.out) (by simp) (IA.out _ HB.out) (HE.out _ HB.out)).mono ?_
  rintro e w6 ⟨⟨u, y, rfl, hu, -, huz, huu, hud, hy, -⟩, hb⟩
  replace Ba := hide (Ba.out.below hb Ba.out.lt)
  replace HB := hide (HB.out.trans (hb.mono HB.out.size))
  replace Tt := hide (Tt.out.below hb)
  replace Xt := hide (Xt.out.down hb)
  replace Bt := hide (Bt.out.below hb Bt.out.lt)
  replace SQ := hide (SQ.out.below hb SQ.out.lt)
  clear hb
  have Zu := hide huz
  have Uu := hide huu
  have Du := hide hud
  have Tu := hide hu
  have Xu := hide hy
  clear huz huu hud hu hy SQ
  by_cases hf : Cel.fault [a] (Pl.code [(S : Int), (T : Int)] a.look) = (0, none)
  case neg =>
    have hfc := Cel.fault_cases (ts := [a]) (Pl.code_known [(S : Int), (T : Int)] a.look)
    have hEx := Xt.out.errv hfc hf
    have hEy := Xu.out.errv hfc hf
    have r1 := run_neqerr hEx
    have r2 := run_neqguard hEx
    have r3 := run_neqerr hEy
    have r4 := run_neqguard hEy
    clear hEx hEy hfc hf
    obtain ⟨w7, hw7⟩ : ∃ W, W = w6.alloc (.cells #[.slice u.P u.zs.length u.cap, .bool u.u, .slice u.D u.ds.length u.dcap] 26) := ⟨_, rfl⟩
    have hbA : Below w6.heap.size w6 w7 := by rw [hw7]; exact (Below.refl _ _).alloc (Nat.le_refl _) _
    have Bu : Hid (Has w7 w6.heap.size 26 [.slice u.P u.zs.length u.cap, .bool u.u, .slice u.D u.ds.length u.dcap]) := hide (by rw [hw7]; exact Has.new _ _ _)
    replace Ba := hide (Ba.out.below hbA Ba.out.lt)
    replace HB := hide (HB.out.trans (hbA.mono HB.out.size))
    replace Tt := hide (Tt.out.below hbA)
    replace Xt := hide (Xt.out.down hbA)
    replace Bt := hide (Bt.out.below hbA Bt.out.lt)
    replace Tu := hide (Tu.out.below hbA)
    replace Xu := hide (Xu.out.down hbA)
    have Hw7 := hide hw7
    clear hw7 hbA
    go_wp2_with fail
    rw [← Hw7.out]
    clear Hw7
    go_ret
    exact ⟨rfl, HB.out⟩
  case pos =>
  have hX := Xt.out
  have hY := Xu.out
  rw [hf] at hX hY
  obtain rfl : x = .nilIface := hX
  obtain rfl : y = .nilIface := hY
  obtain ⟨c, hfi⟩ := Pl.fine hf
  have HFI := hide hfi
  have ht2 := Dt.out
  have hu2 := Du.out
  rw [if_pos hf, hfi.ds] at ht2 hu2
  obtain ⟨nt, hnt⟩ : ∃ n, Hid (c.oh * c.ow * c.C = n) := ⟨_, hide rfl⟩
  rw [hnt.out] at ht2 hu2
  have Dt2 := hide ht2
  have Du2 := hide hu2
  have hlt2 : t.ds.length = nt := by rw [ht2, Pl.part_length]
  have hlu2 : u.ds.length = nt := by rw [hu2, Pl.part_length]
  have Hlt := hide hlt2
  have Hlu := hide hlu2
  have Bn : Hid (nt ≤ 16384) := hide (by rw [← hnt.out]; exact hfi.mn)
  have hn16 : (nt : Int) ≤ 16384 := by have := Bn.out; omega
  rw [hlt2] at Bt
  rw [hlu2]
  clear hf hfi ht2 hu2 hlt2 hlu2 Dt Du Xt Xu Zt Zu Ut Uu
  have c_Bt2 := Bt.out.cell 2
  have l_Bt := Bt.out.lt
  obtain ⟨w7, hw7⟩ : ∃ W, W = w6.alloc (.cells #[.slice u.P u.zs.length u.cap, .bool u.u, .slice u.D nt u.dcap] 26) := ⟨_, rfl⟩
  have hbA : Below w6.heap.size w6 w7 := by rw [hw7]; exact (Below.refl _ _).alloc (Nat.le_refl _) _
  have Bu : Hid (Has w7 w6.heap.size 26 [.slice u.P u.zs.length u.cap, .bool u.u, .slice u.D nt u.dcap]) := hide (by rw [hw7]; exact Has.new _ _ _)
  replace Ba := hide (Ba.out.below hbA Ba.out.lt)
  replace HB := hide (HB.out.trans (hbA.mono HB.out.size))
  replace Tt := hide (Tt.out.below hbA)
  replace Bt := hide (Bt.out.below hbA Bt.out.lt)
  replace Tu := hide (Tu.out.below hbA)
  have Hw7 := hide hw7
  clear hw7 hbA
  go_wp2_with fail
  rw [← Hw7.out]
  clear Hw7 c_Bt2 l_Bt
  go_loopg [14] nt (fun gq k wr => ∃ i : Nat, gq + i = nt ∧ k = .int .i64 i ∧ Hid (Below w7.heap.size w7 wr))
  case atStart => exact ⟨0, by omega, rfl, hide (Below.refl _ _)⟩
  case round =>
    obtain ⟨i, hi9, rfl, HW⟩ := hrel
    by_cases hlt : i < nt
    case pos =>
      have hii : (i : Int) < (nt : Int) := by omega
      have hi0 : (0 : Int) ≤ (i : Int) := by omega
      obtain ⟨td, tv, tdD, tde, tdc⟩ := ri_at (Tt.out.dat.below HW.out) i (by rw [Hlt.out]; exact hlt)
      obtain ⟨ud, uv, udD, ude, udc⟩ := ri_at (Tu.out.dat.below HW.out) i (by rw [Hlu.out]; exact hlt)
      have Bt1 := Bt
      have Bu1 := Bu
      rw [tdD] at Bt1
      rw [udD] at Bu1
      have x2 := (Bt1.out.below HW.out Bt1.out.lt).cell 2
      have y2 := (Bu1.out.below HW.out Bu1.out.lt).cell 2
      have hle : uv ≤ tv := by
        have h1 := ude.out
        have h2 := tde.out
        rw [Du2.out] at h1
        rw [Dt2.out] at h2
        exact Pl.part_le HFI.out.ok a.ds nt i uv tv h1 h2
      have hd1 : decide (tv < uv) = false := decide_eq_false (by omega)
      have hd2 : ¬ tv < uv := by omega
      have hi16 : (i : Int) + 1 ≤ 16385 := by omega
      clear Bt1 Bu1 tdD udD tde ude hle
      go_wp2_with fail
      go_quiet (fail)
      clear x2 y2 tdc udc
      go_wp2_with fail
      go_roundg (nt - (i + 1))
      case measure => omega
      case rel => exact ⟨i + 1, by omega, by go_num, hide (below_drewN HW.out nq)⟩
    case neg =>
      obtain rfl : nt = i := by omega
      have hii : ¬ (nt : Int) < (nt : Int) := by omega
      replace Ba := hide (Ba.out.below HW.out Ba.out.lt)
      replace HB := hide (HB.out.trans (HW.out.mono HB.out.size))
      replace Tt := hide (Tt.out.below HW.out)
      replace Bt := hide (Bt.out.below HW.out Bt.out.lt)
      replace Tu := hide (Tu.out.below HW.out)
      replace Bu := hide (Bu.out.below HW.out Bu.out.lt)
      clear Tt Tu Dt2 Du2 Hlt Hlu
      have HG1 : Hid (Cel.fault [a] (Pl.code [((1 : Nat) : Int), ((1 : Nat) : Int)] a.look) = (0, none) ∧ Pl.Fine [((1 : Nat) : Int), ((1 : Nat) : Int)] a ⟨c.H, c.W, c.C, 1, 1⟩) := hide (Pl.good (c := ⟨c.H, c.W, c.C, 1, 1⟩) HFI.out.az HFA.out ⟨Nat.le_refl _, by show 1 ≤ 16; omega⟩ ⟨Nat.le_refl _, by show 1 ≤ 16; omega⟩ (by show 1 ≤ c.H; have := HFI.out.ok.s1; have := HFI.out.ok.hs; omega) (by show 1 ≤ c.W; have := HFI.out.ok.s1; have := HFI.out.ok.ws; omega))
      have HO1 : Hid (∀ avg, Pl.ds avg [((1 : Nat) : Int), ((1 : Nat) : Int)] a = a.ds ∧ Pl.shape [((1 : Nat) : Int), ((1 : Nat) : Int)] a.look = a.zs) := hide (fun avg => by
        have h1 := HG1.out.2
        have hW : 1 ≤ c.W := by have := HFI.out.ok.s1; have := HFI.out.ok.ws; omega
        have hH : 1 ≤ c.H := by have := HFI.out.ok.s1; have := HFI.out.ok.hs; omega
        have ew : (Pl.mk c.H c.W c.C 1 1).ow = c.W := by show (c.W - 1) / 1 + 1 = c.W; rw [Nat.div_one]; omega
        have eh : (Pl.mk c.H c.W c.C 1 1).oh = c.H := by show (c.H - 1) / 1 + 1 = c.H; rw [Nat.div_one]; omega
        rw [h1.ds, h1.sh, eh, ew]
        exact ⟨Pl.part_ones c.H c.W c.C avg a.ds hW HFI.out.ok.c1 HFI.out.al ew, HFI.out.az.symm⟩)
      have c_Bt2 := Bt.out.cell 2
      have l_Bt := Bt.out.lt
      have c_Ba0 := Ba.out.cell 0
      have c_Ba1 := Ba.out.cell 1
      have c_Ba2 := Ba.out.cell 2
      have l_Ba := Ba.out.lt
      obtain ⟨w8q, hw8q⟩ : ∃ W, W = wr.alloc (.cells #[.int .i64 1, .int .i64 1] 3) := ⟨_, rfl⟩
      have hbA : Below wr.heap.size wr w8q := by rw [hw8q]; exact (Below.refl _ _).alloc (Nat.le_refl _) _
      have SQ : Hid (Has w8q wr.heap.size 3 [.int .i64 1, .int .i64 1]) := hide (by rw [hw8q]; exact Has.new _ _ _)
      replace Ba := hide (Ba.out.below hbA Ba.out.lt)
      replace HB := hide (HB.out.trans (hbA.mono HB.out.size))
      replace Bt := hide (Bt.out.below hbA Bt.out.lt)
      replace Bu := hide (Bu.out.below hbA Bu.out.lt)
      have Hw8q := hide hw8q
      clear hw8q hbA
      go_wp2_with fail
      rw [← Hw8q.out]
      clear Hw8q c_Bt2 l_Bt c_Ba0 c_Ba1 c_Ba2 l_Ba
      refine (plmax_c [((1 : Nat) : Int), ((1 : Nat) : Int)] (some ⟨wr.heap.size, 0, none⟩) 2 a ah am ar _ (SQ.out.ri (zs := [((1 : Nat) : Int), ((1 : Nat) : Int)]) (by decide)) (by simp) (IA.out _ HB.out) (HE.out _ HB.out)).mono ?_
      intro e w8 hTE
      obtain ⟨⟨p, rfl, hp, hpz, hpu, hpd, -⟩, hb⟩ := pl_good false [((1 : Nat) : Int), ((1 : Nat) : Int)] a ah am ar _ HG1.out.1 hTE
      replace Ba := hide (Ba.out.below hb Ba.out.lt)
      replace HB := hide (HB.out.trans (hb.mono HB.out.size))
      replace Bt := hide (Bt.out.below hb Bt.out.lt)
      replace Bu := hide (Bu.out.below hb Bu.out.lt)
      replace SQ := hide (SQ.out.below hb SQ.out.lt)
      rw [(HO1.out false).2] at hpz
      rw [(HO1.out false).1] at hpd
      have Zp := hide hpz
      have Up := hide hpu
      have Dp := hide hpd
      have Tp := hide hp
      clear hpz hpu hpd hp hb hTE SQ
      have c_Ba0 := Ba.out.cell 0
      have c_Ba1 := Ba.out.cell 1
      have c_Ba2 := Ba.out.cell 2
      have l_Ba := Ba.out.lt
      obtain ⟨w9, hw9⟩ : ∃ W, W = w8.alloc (.cells #[.slice p.P p.zs.length p.cap, .bool p.u, .slice p.D p.ds.length p.dcap] 26) := ⟨_, rfl⟩
      have hbA : Below w8.heap.size w8 w9 := by rw [hw9]; exact (Below.refl _ _).alloc (Nat.le_refl _) _
      have Bp : Hid (Has w9 w8.heap.size 26 [.slice p.P p.zs.length p.cap, .bool p.u, .slice p.D p.ds.length p.dcap]) := hide (by rw [hw9]; exact Has.new _ _ _)
      replace Ba := hide (Ba.out.below hbA Ba.out.lt)
      replace HB := hide (HB.out.trans (hbA.mono HB.out.size))
      replace Bt := hide (Bt.out.below hbA Bt.out.lt)
      replace Bu := hide (Bu.out.below hbA Bu.out.lt)
      replace Tp := hide (Tp.out.below hbA)
      have Hw9 := hide hw9
      clear hw9 hbA
      obtain ⟨w10q, hw10q⟩ : ∃ W, W = w9.alloc (.cells #[.int .i64 1, .int .i64 1] 3) := ⟨_, rfl⟩
      have hbA : Below w9.heap.size w9 w10q := by rw [hw10q]; exact (Below.refl _ _).alloc (Nat.le_refl _) _
      have SQ : Hid (Has w10q (w8.heap.size + 1) 3 [.int .i64 1, .int .i64 1]) := hide (by rw [hw10q]; exact box_at _ _ _ _ (by rw [Hw9.out]; simp))
      replace Ba := hide (Ba.out.below hbA Ba.out.lt)
      replace HB := hide (HB.out.trans (hbA.mono HB.out.size))
      replace Bt := hide (Bt.out.below hbA Bt.out.lt)
      replace Bu := hide (Bu.out.below hbA Bu.out.lt)
      replace Tp := hide (Tp.out.below hbA)
      replace Bp := hide (Bp.out.below hbA Bp.out.lt)
      have Hw10q := hide hw10q
      clear hw10q hbA
      go_wp2_with fail
      rw [← Hw9.out]
      rw [← Hw10q.out]
      clear Hw9 Hw10q c_Ba0 c_Ba1 c_Ba2 l_Ba
      refine (plavg_c [((1 : Nat) : Int), ((1 : Nat) : Int)] (some ⟨(w8.heap.size + 1), 0, none⟩) 2 a ah am ar _ (SQ.out.ri (zs := [((1 : Nat) : Int), ((1 : Nat) : Int)]) (by decide)) (by simp) (IA.out _ HB.out) (HE.out _ HB.out)).mono ?_
      intro e w10 hTE
      obtain ⟨⟨q, rfl, hq, hqz, hqu, hqd, -⟩, hb⟩ := pl_good true [((1 : Nat) : Int), ((1 : Nat) : Int)] a ah am ar _ HG1.out.1 hTE
      replace Ba := hide (Ba.out.below hb Ba.out.lt)
      replace HB := hide (HB.out.trans (hb.mono HB.out.size))
      replace Bt := hide (Bt.out.below hb Bt.out.lt)
      replace Bu := hide (Bu.out.below hb Bu.out.lt)
      replace Tp := hide (Tp.out.below hb)
      replace Bp := hide (Bp.out.below hb Bp.out.lt)
      replace SQ := hide (SQ.out.below hb SQ.out.lt)
      rw [(HO1.out true).2] at hqz
      rw [(HO1.out true).1] at hqd
      have Zq := hide hqz
      have Uq := hide hqu
      have Dq := hide hqd
      have Tq := hide hq
      clear hqz hqu hqd hq hb hTE SQ
      have c_Bp0 := Bp.out.cell 0
      have c_Bp1 := Bp.out.cell 1
      have c_Bp2 := Bp.out.cell 2
      have l_Bp := Bp.out.lt
      have c_Ba0 := Ba.out.cell 0
      have c_Ba1 := Ba.out.cell 1
      have c_Ba2 := Ba.out.cell 2
      have l_Ba := Ba.out.lt
      obtain ⟨w11, hw11⟩ : ∃ W, W = w10.alloc (.cells #[.slice q.P q.zs.length q.cap, .bool q.u, .slice q.D q.ds.length q.dcap] 26) := ⟨_, rfl⟩
      have hbA : Below w10.heap.size w10 w11 := by rw [hw11]; exact (Below.refl _ _).alloc (Nat.le_refl _) _
      have Bq : Hid (Has w11 w10.heap.size 26 [.slice q.P q.zs.length q.cap, .bool q.u, .slice q.D q.ds.length q.dcap]) := hide (by rw [hw11]; exact Has.new _ _ _)
      replace Ba := hide (Ba.out.below hbA Ba.out.lt)
      replace HB := hide (HB.out.trans (hbA.mono HB.out.size))
      replace Bt := hide (Bt.out.below hbA Bt.out.lt)
      replace Bu := hide (Bu.out.below hbA Bu.out.lt)
      replace Tp := hide (Tp.out.below hbA)
      replace Bp := hide (Bp.out.below hbA Bp.out.lt)
      replace Tq := hide (Tq.out.below hbA)
      have Hw11 := hide hw11
      clear hw11 hbA
      go_wp2_with fail
      rw [← Hw11.out]
      clear Hw11 c_Bp0 c_Bp1 c_Bp2 l_Bp c_Ba0 c_Ba1 c_Ba2 l_Ba
      have h1 := Tp.out
      have h2 := IA.out _ HB.out
      have HST := sametensor_c p.zs a.zs p.ds a.ds p.P a.P p.D a.D p.cap a.cap p.dcap a.dcap p.u a.u _ h1.shp h2.shp h1.dat h2.dat h1.ls h2.ls h1.ld h2.ld
      rw [decide_eq_true Zp.out, decide_eq_true Dp.out, show (p.u == a.u) = true by rw [Up.out]; simp] at HST
      replace HST := hide HST
      clear h1 h2
      refine (HST.out).mono ?_
      rintro e w12 ⟨rfl, hb⟩
      replace Ba := hide (Ba.out.below hb Ba.out.lt)
      replace HB := hide (HB.out.trans (hb.mono HB.out.size))
      replace Bt := hide (Bt.out.below hb Bt.out.lt)
      replace Bu := hide (Bu.out.below hb Bu.out.lt)
      replace Tp := hide (Tp.out.below hb)
      replace Bp := hide (Bp.out.below hb Bp.out.lt)
      replace Tq := hide (Tq.out.below hb)
      replace Bq := hide (Bq.out.below hb Bq.out.lt)
      clear hb
      clear HST
      have c_Bq0 := Bq.out.cell 0
      have c_Bq1 := Bq.out.cell 1
      have c_Bq2 := Bq.out.cell 2
      have c_Ba0 := Ba.out.cell 0
      have c_Ba1 := Ba.out.cell 1
      have c_Ba2 := Ba.out.cell 2
      go_wp2_with fail
      clear c_Bq0 c_Bq1 c_Bq2 c_Ba0 c_Ba1 c_Ba2
      have h1 := Tq.out
      have h2 := IA.out _ HB.out
      have HST := sametensor_c q.zs a.zs q.ds a.ds q.P a.P q.D a.D q.cap a.cap q.dcap a.dcap q.u a.u _ h1.shp h2.shp h1.dat h2.dat h1.ls h2.ls h1.ld h2.ld
      rw [decide_eq_true Zq.out, decide_eq_true Dq.out, show (q.u == a.u) = true by rw [Uq.out]; simp] at HST
      replace HST := hide HST
      clear h1 h2
      refine (HST.out).mono ?_
      rintro e w13 ⟨rfl, hb⟩
      replace Ba := hide (Ba.out.below hb Ba.out.lt)
      replace HB := hide (HB.out.trans (hb.mono HB.out.size))
      replace Bt := hide (Bt.out.below hb Bt.out.lt)
      replace Bu := hide (Bu.out.below hb Bu.out.lt)
      replace Tp := hide (Tp.out.below hb)
      replace Bp := hide (Bp.out.below hb Bp.out.lt)
      replace Tq := hide (Tq.out.below hb)
      replace Bq := hide (Bq.out.below hb Bq.out.lt)
      clear hb
      clear HST
      clear Tp Tq Zp Zq Up Uq Dp Dq Bp Bq Bt Bu
      have c_Ba0 := Ba.out.cell 0
      have c_Ba1 := Ba.out.cell 1
      have c_Ba2 := Ba.out.cell 2
      go_wp2_with fail
      clear c_Ba0 c_Ba1 c_Ba2
      have HWB := hide (Below.refl w13.heap.size w13)
      have HS13 := hide (HB.out.size)
      have HB13 := HB
      refine (rcopy_c a _ (IA.out _ HB.out)).mono ?_
      rintro e w14 ⟨⟨g, gc, rest, gd, cd, rd, rfl, hG, hD, hg, hgd, hne⟩, hb⟩
      replace Ba := hide (Ba.out.below hb Ba.out.lt)
      replace HB := hide (HB.out.trans (hb.mono HB.out.size))
      replace HWB := hide (HWB.out.trans (hb.mono HWB.out.size))
      clear hb
      have G := hide hG
      have D := hide hD
      have hgw := hide hg
      have hgdw := hide hgd
      have hgn := hide hne
      clear hG hD hg hgd hne
      have hgdl := hide D.out.lt
      have hal : a.ds.length ≤ 300 := LA.out
      obtain ⟨na, hna⟩ : ∃ n, Hid (a.ds.length = n) := ⟨_, hide rfl⟩
      have hna3 : (na : Int) ≤ 300 := by rw [← hna.out]; omega
      obtain ⟨nz, hnz⟩ : ∃ n, Hid (a.zs.length = n) := ⟨_, hide rfl⟩
      rw [hna.out, hnz.out]
      clear hal
      obtain ⟨w15, hw15⟩ : ∃ W, W = w14.alloc (.cells #[.slice (some ⟨g, 0, none⟩) nz gc, .bool a.u, .slice (some ⟨gd, 0, none⟩) na cd] 26) := ⟨_, rfl⟩
      have hbA : Below w14.heap.size w14 w15 := by rw [hw15]; exact (Below.refl _ _).alloc (Nat.le_refl _) _
      have Bc : Hid (Has w15 w14.heap.size 26 [.slice (some ⟨g, 0, none⟩) nz gc, .bool a.u, .slice (some ⟨gd, 0, none⟩) na cd]) := hide (by rw [hw15]; exact Has.new _ _ _)
      replace Ba := hide (Ba.out.below hbA Ba.out.lt)
      replace HB := hide (HB.out.trans (hbA.mono HB.out.size))
      replace HWB := hide (HWB.out.trans (hbA.mono HWB.out.size))
      replace G := hide (G.out.below hbA G.out.lt)
      replace D := hide (D.out.below hbA D.out.lt)
      have Hw15 := hide hw15
      clear hw15 hbA
      go_wp2_with fail
      rw [← Hw15.out]
      clear Hw15
      refine (NV.out _).mono ?_
      rintro e wq ⟨rfl, hw⟩
      have hw := hw.symm
      subst hw
      have hwv := HWV.out
      go_wp2_with fail
      go_loopg [20] na (fun gq k wr => ∃ (i : Nat) (xs : List Int), gq + i = na ∧ k = .int .i64 i ∧ Hid (xs.length = na) ∧ Hid (∀ j, j < i → xs[j]? = some v1) ∧ Hid (Has wr gd 3 (i64s xs ++ rd)) ∧ Hid (Has wr g 3 (i64s a.zs ++ rest)) ∧ Hid (Has wr w14.heap.size 26 [.slice (some ⟨g, 0, none⟩) nz gc, .bool a.u, .slice (some ⟨gd, 0, none⟩) na cd]) ∧ Hid (Below w13.heap.size w13 wr))
      case atStart => exact ⟨0, a.ds, by omega, rfl, hna, hide (fun j hj => by omega), D, G, Bc, HWB⟩
      case round =>
        have Ba13 := Ba
        clear D G Bc HWB HB Ba
        obtain ⟨i, xs, hi9, rfl, HN, HI, D, G, Bc, HWB⟩ := hrel
        by_cases hlt : i < na
        case pos =>
          have hii : (i : Int) < (na : Int) := by omega
          have hi0 : (0 : Int) ≤ (i : Int) := by omega
          have x2 := Bc.out.cell 2
          have gf := D.out.frozen i
          have gc1 : wr.cell? ⟨gd, i, none⟩ = some (.int .i64 (xs[i]'(by rw [HN.out]; exact hlt))) := by
            rw [D.out.cell, List.getElem?_append_left (by unfold i64s; rw [List.length_map, HN.out]; exact hlt)]
            unfold i64s
            rw [List.getElem?_map, List.getElem?_eq_getElem (by rw [HN.out]; exact hlt)]
            rfl
          have hgne := hgn.out
          have hbne : w14.heap.size ≠ gd := by have h1 := hgdl.out; omega
          go_wp2_with fail
          go_roundg (na - (i + 1))
          case measure => omega
          case rel =>
            refine ⟨i + 1, xs.set i v1, by omega, by go_num, hide (by rw [List.length_set]; exact HN.out), hide (fun j hj => ?_), ?_, ?_, ?_, ?_⟩
            · rw [List.getElem?_set]
              split
              · rename_i h
                subst h
                rw [if_pos (by rw [HN.out]; exact hlt)]
              · exact HI.out j (by omega)
            · have h := D.out.set_ i (.int .i64 v1)
              rw [List.set_append, if_pos (by unfold i64s; rw [List.length_map, HN.out]; exact hlt)] at h
              unfold i64s at h ⊢
              rw [List.map_set]
              exact hide h
            · exact hide (G.out.far (p := ⟨gd, i, none⟩) hgne (.int .i64 v1))
            · exact hide (Bc.out.far (p := ⟨gd, i, none⟩) hbne (.int .i64 v1))
            · exact hide (HWB.out.setCell (p := ⟨gd, i, none⟩) hgdw.out (.int .i64 v1))
        case neg =>
          obtain rfl : na = i := by omega
          have hii : ¬ (na : Int) < (na : Int) := by omega
          have hxs : xs = List.replicate na v1 := List.ext_getElem? (fun j => by
            rcases Nat.lt_or_ge j na with h | h
            · rw [HI.out j h, List.getElem?_replicate, if_pos h]
            · rw [List.getElem?_eq_none (by rw [HN.out]; exact h), List.getElem?_eq_none (by rw [List.length_replicate]; exact h)])
          subst hxs
          have HB := hide (HB13.out.trans (HWB.out.mono HS13.out))
          obtain ⟨b, hbv⟩ : ∃ b : Ten, Hid (b = ⟨some ⟨g, 0, none⟩, a.zs, gc, a.u, some ⟨gd, 0, none⟩, List.replicate na v1, cd⟩) := ⟨_, hide rfl⟩
          have Tb : Hid (b.In wr) := hide (by
            have h := IA.out _ HB.out
            rw [hbv.out]
            exact ⟨G.out.ri_app h.shp.1, D.out.ri_app (fun q hq => by rw [(List.mem_replicate.1 hq).2]; exact wf_i64 _ (by have := BV.out; omega)), h.ls, by show (List.replicate na v1).length ≤ 1000000; rw [List.length_replicate]; omega⟩)
          have Zb : Hid (b.zs = a.zs) := hide (by rw [hbv.out])
          have Db : Hid (b.ds = List.replicate (c.H * c.W * c.C) v1) := hide (by rw [hbv.out, ← HFI.out.al, hna.out])
          have Fb : Hid (b.fault = (0, none)) := hide (by have h := Tens.same_fine HFA.out v1 BV.out; rw [hna.out] at h; rw [hbv.out]; exact h)
          have Bb : Hid (Has wr w14.heap.size 26 [.slice b.P b.zs.length b.cap, .bool b.u, .slice b.D b.ds.length b.dcap]) := hide (by
            have h := Bc.out
            rw [hbv.out]
            show Has wr w14.heap.size 26 [.slice (some ⟨g, 0, none⟩) a.zs.length gc, .bool a.u, .slice (some ⟨gd, 0, none⟩) (List.replicate na v1).length cd]
            rw [List.length_replicate, hnz.out]
            exact h)
          have HbD : Hid (Value.slice (some ⟨gd, 0, none⟩) na cd = Value.slice b.D b.ds.length b.dcap) := hide (by rw [hbv.out]; show _ = Value.slice (some ⟨gd, 0, none⟩) (List.replicate na v1).length cd; rw [List.length_replicate])
          have HFB := hide (Pl.good (a := b) (c := c) (by rw [Zb.out]; exact HFI.out.az) Fb.out ⟨HFI.out.ok.s1, HFI.out.ok.s2⟩ ⟨HFI.out.ok.t1, HFI.out.ok.t2⟩ HFI.out.ok.hs HFI.out.ok.ws)
          have hqz := HFI.out.qz
          rw [← hqz] at HFB
          have Hx2 := hide (show wr.cell? ⟨w14.heap.size, 2, none⟩ = some (.slice (some ⟨gd, 0, none⟩) na cd) from Bc.out.cell 2)
          have x2 := Hx2.out
          clear hqz hbv G D HWB HN HI Bc
          have c_Bb0 := Bb.out.cell 0
          have c_Bb1 := Bb.out.cell 1
          have l_Bb := Bb.out.lt
          obtain ⟨w16q, hw16q⟩ : ∃ W, W = wr.alloc (.cells #[.int .i64 S, .int .i64 T] 3) := ⟨_, rfl⟩
          have hbA : Below wr.heap.size wr w16q := by rw [hw16q]; exact (Below.refl _ _).alloc (Nat.le_refl _) _
          have SQ : Hid (Has w16q wr.heap.size 3 [.int .i64 S, .int .i64 T]) := hide (by rw [hw16q]; exact Has.new _ _ _)
          replace HB := hide (HB.out.trans (hbA.mono HB.out.size))
          replace Tb := hide (Tb.out.below hbA)
          replace Bb := hide (Bb.out.below hbA Bb.out.lt)
          have Hw16q := hide hw16q
          clear hw16q hbA
          go_wp2_with fail
          rw [← Hw16q.out]
          clear Hw16q c_Bb0 c_Bb1 l_Bb
          clear x2 Hx2
          rw [HbD.out]
          refine (plavg_c [(S : Int), (T : Int)] (some ⟨wr.heap.size, 0, none⟩) 2 b ah am ar _ (SQ.out.ri (zs := [(S : Int), (T : Int)]) HQS.out) (by simp) Tb.out (HE.out _ HB.out)).mono ?_
          intro e w16 hTE
          obtain ⟨⟨s, rfl, hs, -, -, hsd, -⟩, hb⟩ := pl_good true [(S : Int), (T : Int)] b ah am ar _ HFB.out.1 hTE
          replace HB := hide (HB.out.trans (hb.mono HB.out.size))
          replace Tb := hide (Tb.out.below hb)
          replace Bb := hide (Bb.out.below hb Bb.out.lt)
          replace SQ := hide (SQ.out.below hb SQ.out.lt)
          rw [HFB.out.2.ds, Db.out, hnt.out] at hsd
          have Ds := hide hsd
          have Ts := hide hs
          have Hls : Hid (s.ds.length = nt) := hide (by rw [hsd, Pl.part_length])
          clear hsd hs hb hTE SQ
          rw [Hls.out]
          obtain ⟨w17, hw17⟩ : ∃ W, W = w16.alloc (.cells #[.slice s.P s.zs.length s.cap, .bool s.u, .slice s.D nt s.dcap] 26) := ⟨_, rfl⟩
          have hbA : Below w16.heap.size w16 w17 := by rw [hw17]; exact (Below.refl _ _).alloc (Nat.le_refl _) _
          have Bs : Hid (Has w17 w16.heap.size 26 [.slice s.P s.zs.length s.cap, .bool s.u, .slice s.D nt s.dcap]) := hide (by rw [hw17]; exact Has.new _ _ _)
          replace HB := hide (HB.out.trans (hbA.mono HB.out.size))
          replace Tb := hide (Tb.out.below hbA)
          replace Bb := hide (Bb.out.below hbA Bb.out.lt)
          replace Ts := hide (Ts.out.below hbA)
          have Hw17 := hide hw17
          clear hw17 hbA
          go_wp2_with fail
          rw [← Hw17.out]
          clear Hw17
          go_loopg [23] nt (fun gq k wr => ∃ i : Nat, gq + i = nt ∧ k = .int .i64 i ∧ w17 = wr)
          case atStart => exact ⟨0, by omega, rfl, rfl⟩
          case round =>
            obtain ⟨i, hi9, rfl, hwr⟩ := hrel
            subst hwr
            by_cases hlt : i < nt
            case neg =>
              obtain rfl : nt = i := by omega
              have hii : ¬ (nt : Int) < (nt : Int) := by omega
              have c_Bs2 := Bs.out.cell 2
              go_wp2_with fail
              clear c_Bs2
              go_ret
              exact ⟨rfl, HB.out⟩
            case pos =>
              have hii : (i : Int) < (nt : Int) := by omega
              have hi0 : (0 : Int) ≤ (i : Int) := by omega
              obtain ⟨sd, sv, sdD, sde, sdc⟩ := ri_at Ts.out.dat i (by rw [Hls.out]; exact hlt)
              have hsv : sv = v1 := by
                have h1 := sde.out
                rw [Ds.out] at h1
                exact Pl.part_same HFI.out.ok v1 nt (by rw [hnt.out]; omega) sv i h1
              subst hsv
              rw [sdD] at Bs
              have x2 := Bs.out.cell 2
              have hbb : (sv != sv) = false := by simp
              have hi16 : (i : Int) + 1 ≤ 16385 := by omega
              clear sdD sde
              go_wp2_with fail
              go_roundg (nt - (i + 1))
              case measure => omega
              case rel => exact ⟨i + 1, by omega, by go_num, rfl⟩
end Go.Proofs.YtcgjnjchkachdaaDoor
