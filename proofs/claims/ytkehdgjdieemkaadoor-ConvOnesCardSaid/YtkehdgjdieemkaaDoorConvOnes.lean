/-
  The law ConvOnes, walked. By an AI agent. No person has read it.
-/
import Derived.Test.YtkehdgjdieemkaaDoorMatE
import Derived.Test.YtkehdgjdieemkaaDoorCnvD
import Derived.Test.YtkehdgjdieemkaaDoorCnvG
import Derived.Test.YtkehdgjdieemkaaDoorTenB
namespace Go.Proofs.YtkehdgjdieemkaaDoor
open Go.RowKit

/-- tens.Clone: the numbers alone. -/
theorem cvclone_c (t : Ten) (w : World) (ht : t.In w) : Calls Tryd.prog 40 #[.agg (tcells t.P t.zs.length t.cap t.u t.D t.ds.length t.dcap)] w fun e w' =>
    (∃ g c gd cd, e = .returned (.agg (tcells (some ⟨g, 0, none⟩) t.zs.length c t.u (some ⟨gd, 0, none⟩) t.ds.length cd)) ∧ Ri w' (some ⟨gd, 0, none⟩) t.ds) ∧ Below w.heap.size w w' := by
  refine (tclone_c t.zs t.ds t.P t.D t.cap t.dcap t.u w ht.shp ht.dat ht.ls ht.ld).mono ?_
  rintro e w' ⟨⟨g, c, rest, gd, cd, rd, rfl, -, -, -, -, -, -, -, h, -⟩, hB⟩
  exact ⟨⟨g, c, gd, cd, rfl, h.ri_app ht.dat.1⟩, hB⟩
set_option maxRecDepth 100000 in
set_option maxHeartbeats 16000000 in

theorem cvoneslaw_c (h w0 c n : Int) (l : List Int) (A : Option Addr) (cap : Nat) (za : Int) (ah am ar : Addr) (w : World) (hr : Ri w A l) (hE : E3 w ah am ar) :
    Calls Tryd.prog 9 #[.int .i64 h, .int .i64 w0, .int .i64 c, .int .i64 n, .slice A l.length cap, .int .i64 za] w fun e w' => e = .returned (.bool true) ∧ Below w.heap.size w w' := by
  have HF := hide (first9_c ah am ar w hE)
  have HE := hide (fun W (hb : Below w.heap.size w W) => hE.below hb)
  have HL := hide (fun W (hb : Below w.heap.size w W) => hr.below hb)
  have HO := hide (fun W (hb : Below w.heap.size w W) (h : l.length ≤ 1000000) => refints_o l A cap W (hr.below hb) h)
  obtain ⟨h1, hh0, hh1, NH⟩ := number_n h 5 (by decide) (by decide) 5 rfl
  obtain ⟨g1, hg0, hg1, NW⟩ := number_n w0 5 (by decide) (by decide) 5 rfl
  obtain ⟨c1, hc0, hc1, NC⟩ := number_n c 5 (by decide) (by decide) 5 rfl
  obtain ⟨n1, hn0, hn1, NN⟩ := number_n n 5 (by decide) (by decide) 5 rfl
  obtain ⟨a1, ha0, ha1, NA⟩ := number_n za 256 (by decide) (by decide) 256 rfl
  obtain ⟨ln, hln⟩ : ∃ n, Hid (l.length = n) := ⟨_, hide rfl⟩
  rw [hln.out] at HO ⊢
  clear hr hE
  by_cases hbig : 30 < ln
  case pos =>
    have hb2 : (30 : Int) < ln := by omega
    clear hbig

    go_enter Tryd.func9, Tryd.ntmps9
    go_wp2_with fail
    refine (HF.out).mono ?_
    rintro e w1 ⟨rfl, hb⟩
    have HB := hide hb
    clear hb HF
    go_wp2_with fail
    go_ret
    exact ⟨rfl, HB.out⟩

  case neg =>
  have hn30 : (ln : Int) ≤ 30 := by omega
  clear hbig
  go_enter Tryd.func9, Tryd.ntmps9
  go_wp2_with fail
  refine (HF.out).mono ?_
  rintro e w1 ⟨rfl, hb⟩
  have HB := hide hb
  clear hb HF
  go_wp2_with fail
  refine (NH.out _).mono ?_
  rintro e wq ⟨rfl, hw⟩
  have hw := hw.symm
  subst hw
  go_wp2_with fail
  refine (NW.out _).mono ?_
  rintro e wq ⟨rfl, hw⟩
  have hw := hw.symm
  subst hw
  go_wp2_with fail
  refine (NC.out _).mono ?_
  rintro e wq ⟨rfl, hw⟩
  have hw := hw.symm
  subst hw
  go_wp2_with fail
  refine (NN.out _).mono ?_
  rintro e wq ⟨rfl, hw⟩
  have hw := hw.symm
  subst hw
  go_wp2_with fail
  refine (NA.out _).mono ?_
  rintro e wq ⟨rfl, hw⟩
  have hw := hw.symm
  subst hw
  have eH : h1 + 1 = ((h1.toNat + 1 : Nat) : Int) := by omega
  have EH := hide eH
  obtain ⟨H, hH⟩ : ∃ M, Hid (h1.toNat + 1 = M) := ⟨_, hide rfl⟩
  rw [hH.out] at EH
  have BH : Hid (1 ≤ H ∧ H ≤ 5) := hide (by rw [← hH.out]; omega)
  clear eH hH
  have eV : g1 + 1 = ((g1.toNat + 1 : Nat) : Int) := by omega
  have EV := hide eV
  obtain ⟨V, hV⟩ : ∃ M, Hid (g1.toNat + 1 = M) := ⟨_, hide rfl⟩
  rw [hV.out] at EV
  have BV : Hid (1 ≤ V ∧ V ≤ 5) := hide (by rw [← hV.out]; omega)
  clear eV hV
  have eC : c1 + 1 = ((c1.toNat + 1 : Nat) : Int) := by omega
  have EC := hide eC
  obtain ⟨C, hC⟩ : ∃ M, Hid (c1.toNat + 1 = M) := ⟨_, hide rfl⟩
  rw [hC.out] at EC
  have BC : Hid (1 ≤ C ∧ C ≤ 5) := hide (by rw [← hC.out]; omega)
  clear eC hC
  have eN : n1 + 1 = ((n1.toNat + 1 : Nat) : Int) := by omega
  have EN := hide eN
  obtain ⟨N, hN⟩ : ∃ M, Hid (n1.toNat + 1 = M) := ⟨_, hide rfl⟩
  rw [hN.out] at EN
  have BN : Hid (1 ≤ N ∧ N ≤ 5) := hide (by rw [← hN.out]; omega)
  clear eN hN
  obtain ⟨z, hz⟩ : ∃ x : Int, Hid (a1 - 128 = x) := ⟨_, hide rfl⟩
  have Hz : Hid (-128 ≤ z ∧ z ≤ 127) := hide (by have := hz.out; omega)
  obtain ⟨T1, hT1⟩ : ∃ x, Hid (H * V * C = x) := ⟨_, hide rfl⟩
  obtain ⟨T2, hT2⟩ : ∃ x, Hid (1 * 1 * C * N = x) := ⟨_, hide rfl⟩
  have hT1b : Hid (T1 ≤ 125) := hide (by rw [← hT1.out]; exact Nat.mul_le_mul (Nat.mul_le_mul BH.out.2 BV.out.2) BC.out.2)
  have hT2b : Hid (T2 ≤ 25) := hide (by rw [← hT2.out, Nat.one_mul]; exact Nat.mul_le_mul BC.out.2 BN.out.2)
  have HS1 : Hid (Shp.elems [(H : Int), (V : Int), (C : Int)] = (T1 : Int)) := hide (by have := BH.out; have := BV.out; have := BC.out; have h9 := hT1b.out; rw [← hT1.out] at h9 ⊢; exact Cv.elems3 H V C (by omega) (by omega) (by omega) (by omega))
  have HS2 : Hid (Shp.elems [((1 : Nat) : Int), ((1 : Nat) : Int), (C : Int), (N : Int)] = (T2 : Int)) := hide (by have := BC.out; have := BN.out; have h9 := hT2b.out; rw [← hT2.out] at h9 ⊢; exact Cv.elems4 1 1 C N (by omega) (by omega) (by omega) (by omega) (by omega))
  obtain ⟨w2, hw2⟩ : ∃ W, W = w1.alloc (.cells #[.int .i64 (h1 + 1), .int .i64 (g1 + 1), .int .i64 (c1 + 1)] 3) := ⟨_, rfl⟩
  have hbA : Below w1.heap.size w1 w2 := by rw [hw2]; exact (Below.refl _ _).alloc (Nat.le_refl _) _
  have SA : Hid (Has w2 w1.heap.size 3 [.int .i64 (h1 + 1), .int .i64 (g1 + 1), .int .i64 (c1 + 1)]) := hide (by rw [hw2]; exact Has.new _ _ _)
  replace HB := hide (HB.out.trans (hbA.mono HB.out.size))
  have Hw2 := hide hw2
  clear hw2 hbA
  go_wp2_with fail
  rw [← Hw2.out]
  clear Hw2
  rw [EH.out, EV.out, EC.out] at SA
  rw [EH.out, EV.out, EC.out, EN.out, hz.out]
  refine (cvtensor_good [(H : Int), (V : Int), (C : Int)] 3 rfl (some ⟨w1.heap.size, 0, none⟩) 3 T1 l ln hln.out A cap _ HS1.out (by have := hT1b.out; omega) (SA.out.ri (zs := [(H : Int), (V : Int), (C : Int)]) (fun q hq => by simp at hq; have := BH.out; have := BV.out; have := BC.out; rcases hq with rfl | rfl | rfl <;> exact wf_i64 _ (by omega))) (by simp) (HL.out _ HB.out)).mono ?_
  rintro e w3 ⟨⟨a, rfl, ha, hai⟩, hb⟩
  replace HB := hide (HB.out.trans (hb.mono HB.out.size))
  replace SA := hide (SA.out.below hb SA.out.lt)
  clear hb
  clear SA
  have Ta := hide ha
  have Ia := hide hai
  clear ha hai
  obtain ⟨w3b, hw3b⟩ : ∃ W, W = w3.alloc (.cells #[.slice a.P a.zs.length a.cap, .bool a.u, .slice a.D a.ds.length a.dcap] 26) := ⟨_, rfl⟩
  have hbA : Below w3.heap.size w3 w3b := by rw [hw3b]; exact (Below.refl _ _).alloc (Nat.le_refl _) _
  have Ba : Hid (Has w3b w3.heap.size 26 [.slice a.P a.zs.length a.cap, .bool a.u, .slice a.D a.ds.length a.dcap]) := hide (by rw [hw3b]; exact Has.new _ _ _)
  replace HB := hide (HB.out.trans (hbA.mono HB.out.size))
  replace Ta := hide (Ta.out.below hbA)
  have Hw3b := hide hw3b
  clear hw3b hbA
  obtain ⟨w4, hw4⟩ : ∃ W, W = w3b.alloc (.cells #[.int .i64 1, .int .i64 1, .int .i64 C, .int .i64 N] 3) := ⟨_, rfl⟩
  have hbA : Below w3b.heap.size w3b w4 := by rw [hw4]; exact (Below.refl _ _).alloc (Nat.le_refl _) _
  have SB : Hid (Has w4 (w3.heap.size + 1) 3 [.int .i64 1, .int .i64 1, .int .i64 C, .int .i64 N]) := hide (by rw [hw4]; exact box_at _ _ _ _ (by rw [Hw3b.out]; simp))
  replace HB := hide (HB.out.trans (hbA.mono HB.out.size))
  replace Ta := hide (Ta.out.below hbA)
  replace Ba := hide (Ba.out.below hbA Ba.out.lt)
  have Hw4 := hide hw4
  clear hw4 hbA
  go_wp2_with fail
  rw [← Hw3b.out]
  rw [← Hw4.out]
  clear Hw3b Hw4
  refine (HO.out _ HB.out (by omega)).mono ?_
  rintro e wi ⟨⟨v, rfl, hown, hv0⟩, hb⟩
  have hown2 := hide (hown.alloc (.cells #[.int .i64 9] 3))
  have hB3 := hide (hb.alloc hb.size (.cells #[.int .i64 9] 3))
  have hr3 := hide (new_ri wi 3 [9] (by decide))
  have hs3 := hide hB3.out.size
  have hn3 := hide (show ln + 1 ≤ 1000000000000 by omega)
  clear hown hb hv0
  go_wp2_with (at_builtin; refine wpList_append_is rfl (.tmp 58) (.tmp 59) rfl w4.heap.size _ ln (i64s l) rfl hown2.out (some ⟨wi.heap.size, 0, none⟩) 1 1 [9] rfl (hide rfl) hr3.out hn3.out hs3.out ?_)
  intro v4 w5 o1 o2 o3
  have hb : Below w4.heap.size w4 w5 := elm_grown hB3.out hown2.out hB3.out.size o2
  replace HB := hide (HB.out.trans (hb.mono HB.out.size))
  replace Ta := hide (Ta.out.below hb)
  replace Ba := hide (Ba.out.below hb Ba.out.lt)
  replace SB := hide (SB.out.below hb SB.out.lt)
  have o4 : w5.ownsRow w4.heap.size 3 1 v4 (ln + 1) (i64s (l ++ [9])) := by simpa [i64s] using o1
  have hvn : v4 ≠ .slice none 0 0 := by
    rintro rfl
    have h := o4.2
    rcases h with ⟨-, h⟩ | ⟨g, c, cur, h, -⟩
    · omega
    · cases h
  obtain ⟨g4, c4, r4, rfl, hl4, -, -, -, hA4⟩ := own_has o4 hvn
  have hR4 := hide (hA4.ri_app (fun q hq => by
    rcases List.mem_append.1 hq with h | h
    · exact (HL.out _ HB.out).1 q h
    · simp at h
      subst h
      decide))
  have HL4 := hide hl4
  clear hb o1 o2 o3 o4 hvn hl4 hA4 hown2 hB3 hr3 hs3 hn3
  go_wp2_with fail
  refine (cvtensor_good [((1 : Nat) : Int), ((1 : Nat) : Int), (C : Int), (N : Int)] 4 rfl (some ⟨(w3.heap.size + 1), 0, none⟩) 4 T2 (l ++ [9]) (ln + 1) HL4.out (some ⟨g4, 0, none⟩) c4 _ HS2.out (by have := hT2b.out; omega) (SB.out.ri (zs := [((1 : Nat) : Int), ((1 : Nat) : Int), (C : Int), (N : Int)]) (fun q hq => by simp at hq; have := BC.out; have := BN.out; rcases hq with rfl | rfl | rfl <;> exact wf_i64 _ (by omega))) (by simp) hR4.out).mono ?_
  rintro e w6 ⟨⟨k, rfl, hk, hki⟩, hb⟩
  replace HB := hide (HB.out.trans (hb.mono HB.out.size))
  replace Ta := hide (Ta.out.below hb)
  replace Ba := hide (Ba.out.below hb Ba.out.lt)
  replace SB := hide (SB.out.below hb SB.out.lt)
  clear hb
  clear HL4 hR4 HO SB
  have Tk := hide hk
  have Ik := hide hki
  clear hk hki
  have c_Ba0 := Ba.out.cell 0
  have c_Ba1 := Ba.out.cell 1
  have c_Ba2 := Ba.out.cell 2
  have l_Ba := Ba.out.lt
  obtain ⟨w6b, hw6b⟩ : ∃ W, W = w6.alloc (.cells #[.slice k.P k.zs.length k.cap, .bool k.u, .slice k.D k.ds.length k.dcap] 26) := ⟨_, rfl⟩
  have hbA : Below w6.heap.size w6 w6b := by rw [hw6b]; exact (Below.refl _ _).alloc (Nat.le_refl _) _
  have Bk : Hid (Has w6b w6.heap.size 26 [.slice k.P k.zs.length k.cap, .bool k.u, .slice k.D k.ds.length k.dcap]) := hide (by rw [hw6b]; exact Has.new _ _ _)
  replace HB := hide (HB.out.trans (hbA.mono HB.out.size))
  replace Ta := hide (Ta.out.below hbA)
  replace Ba := hide (Ba.out.below hbA Ba.out.lt)
  replace Tk := hide (Tk.out.below hbA)
  have Hw6b := hide hw6b
  clear hw6b hbA
  obtain ⟨w7, hw7⟩ : ∃ W, W = w6b.alloc (.cells #[.int .i64 1, .int .i64 0, .int .i64 z] 3) := ⟨_, rfl⟩
  have hbA : Below w6b.heap.size w6b w7 := by rw [hw7]; exact (Below.refl _ _).alloc (Nat.le_refl _) _
  have SQ : Hid (Has w7 (w6.heap.size + 1) 3 [.int .i64 1, .int .i64 0, .int .i64 z]) := hide (by rw [hw7]; exact box_at _ _ _ _ (by rw [Hw6b.out]; simp))
  replace HB := hide (HB.out.trans (hbA.mono HB.out.size))
  replace Ta := hide (Ta.out.below hbA)
  replace Ba := hide (Ba.out.below hbA Ba.out.lt)
  replace Tk := hide (Tk.out.below hbA)
  replace Bk := hide (Bk.out.below hbA Bk.out.lt)
  have Hw7 := hide hw7
  clear hw7 hbA
  go_wp2_with fail
  rw [← Hw6b.out]
  rw [← Hw7.out]
  clear Hw6b Hw7 c_Ba0 c_Ba1 c_Ba2 l_Ba
  obtain ⟨hf, hsh, hds⟩ := Cv.lawful H V C 1 1 N 1 0 z (by rw [hT1.out]; exact Ia.out) (by rw [hT2.out]; exact Ik.out) (by have := BH.out; omega) (by have := BV.out; omega) BC.out (by have := BH.out; omega) (by have := BV.out; omega) BN.out (by omega) (by omega) Hz.out (by rw [hT2.out]; have := hT2b.out; omega)
  have eo : (Cv.mk H V C 1 1 N 1 0 z).oh = H := by show (H + 2 * 0 - 1) / 1 + 1 = H; rw [Nat.div_one]; have := BH.out; omega
  have ew : (Cv.mk H V C 1 1 N 1 0 z).ow = V := by show (V + 2 * 0 - 1) / 1 + 1 = V; rw [Nat.div_one]; have := BV.out; omega
  rw [eo, ew] at hsh hds
  rw [Cv.ones_part H V C N z a.ds k.ds BV.out.1] at hds
  have HSH := hide hsh
  have HDS := hide hds
  clear eo ew hsh hds
  refine (cv_good [((1 : Nat) : Int), ((0 : Nat) : Int), z] (some ⟨(w6.heap.size + 1), 0, none⟩) 3 a k ah am ar _ hf (SQ.out.ri (zs := [((1 : Nat) : Int), ((0 : Nat) : Int), z]) (fun q hq => by simp at hq; have := Hz.out; rcases hq with rfl | rfl | rfl <;> exact wf_i64 _ (by omega))) (by simp) Ta.out Tk.out (HE.out _ HB.out)).mono ?_
  rintro e w8 ⟨⟨t, rfl, ht, htz, -, htd, -⟩, hb⟩
  replace HB := hide (HB.out.trans (hb.mono HB.out.size))
  replace Ta := hide (Ta.out.below hb)
  replace Ba := hide (Ba.out.below hb Ba.out.lt)
  replace Tk := hide (Tk.out.below hb)
  replace Bk := hide (Bk.out.below hb Bk.out.lt)
  replace SQ := hide (SQ.out.below hb SQ.out.lt)
  clear hb
  clear SQ hf
  rw [HSH.out] at htz
  rw [HDS.out] at htd
  have Zt := hide htz
  have Dt := hide htd
  clear htz htd HSH HDS
  have Tt := hide ht
  clear ht
  obtain ⟨Q, hQ⟩ : ∃ x, Hid (H * V = x) := ⟨_, hide rfl⟩
  have hQb : Hid (1 ≤ Q ∧ Q ≤ 25) := hide (by rw [← hQ.out]; exact ⟨Nat.mul_le_mul BH.out.1 BV.out.1, Nat.mul_le_mul BH.out.2 BV.out.2⟩)
  have hHV : wrap64 ((H : Int) * (V : Int)) = (Q : Int) := by rw [← Int.natCast_mul, hQ.out]; have := hQb.out; unfold wrap64; omega
  have c_Ba0 := Ba.out.cell 0
  have c_Ba1 := Ba.out.cell 1
  have c_Ba2 := Ba.out.cell 2
  have l_Ba := Ba.out.lt
  obtain ⟨w8b, hw8b⟩ : ∃ W, W = w8.alloc (.cells #[.slice t.P t.zs.length t.cap, .bool t.u, .slice t.D t.ds.length t.dcap] 26) := ⟨_, rfl⟩
  have hbA : Below w8.heap.size w8 w8b := by rw [hw8b]; exact (Below.refl _ _).alloc (Nat.le_refl _) _
  have Bt : Hid (Has w8b w8.heap.size 26 [.slice t.P t.zs.length t.cap, .bool t.u, .slice t.D t.ds.length t.dcap]) := hide (by rw [hw8b]; exact Has.new _ _ _)
  replace HB := hide (HB.out.trans (hbA.mono HB.out.size))
  replace Ta := hide (Ta.out.below hbA)
  replace Ba := hide (Ba.out.below hbA Ba.out.lt)
  replace Tk := hide (Tk.out.below hbA)
  replace Bk := hide (Bk.out.below hbA Bk.out.lt)
  replace Tt := hide (Tt.out.below hbA)
  have Hw8b := hide hw8b
  clear hw8b hbA
  go_wp2_with fail
  rw [← Hw8b.out]
  clear Hw8b c_Ba0 c_Ba1 c_Ba2 l_Ba
  refine (cvclone_c a _ Ta.out).mono ?_
  rintro e w9 ⟨⟨gm, ccm, gdm, cdm, rfl, hrm⟩, hb⟩
  replace HB := hide (HB.out.trans (hb.mono HB.out.size))
  replace Ta := hide (Ta.out.below hb)
  replace Ba := hide (Ba.out.below hb Ba.out.lt)
  replace Tk := hide (Tk.out.below hb)
  replace Bk := hide (Bk.out.below hb Bk.out.lt)
  replace Tt := hide (Tt.out.below hb)
  replace Bt := hide (Bt.out.below hb Bt.out.lt)
  clear hb
  have Rm := hide hrm
  clear hrm
  have c_Bk0 := Bk.out.cell 0
  have c_Bk1 := Bk.out.cell 1
  have c_Bk2 := Bk.out.cell 2
  have l_Bk := Bk.out.lt
  obtain ⟨w9b, hw9b⟩ : ∃ W, W = w9.alloc (.cells #[.slice (some ⟨w9.heap.size + 1, 0, none⟩) 2 2, .bool a.u, .slice (some ⟨gdm, 0, none⟩) a.ds.length cdm] 26) := ⟨_, rfl⟩
  have hbA : Below w9.heap.size w9 w9b := by rw [hw9b]; exact (Below.refl _ _).alloc (Nat.le_refl _) _
  have Bm : Hid (Has w9b w9.heap.size 26 [.slice (some ⟨w9.heap.size + 1, 0, none⟩) 2 2, .bool a.u, .slice (some ⟨gdm, 0, none⟩) a.ds.length cdm]) := hide (by rw [hw9b]; exact Has.new _ _ _)
  replace HB := hide (HB.out.trans (hbA.mono HB.out.size))
  replace Ta := hide (Ta.out.below hbA)
  replace Ba := hide (Ba.out.below hbA Ba.out.lt)
  replace Tk := hide (Tk.out.below hbA)
  replace Bk := hide (Bk.out.below hbA Bk.out.lt)
  replace Tt := hide (Tt.out.below hbA)
  replace Bt := hide (Bt.out.below hbA Bt.out.lt)
  replace Rm := hide (Rm.out.below hbA)
  have Hw9b := hide hw9b
  clear hw9b hbA
  obtain ⟨w10, hw10⟩ : ∃ W, W = w9b.alloc (.cells #[.int .i64 Q, .int .i64 C] 3) := ⟨_, rfl⟩
  have hbA : Below w9b.heap.size w9b w10 := by rw [hw10]; exact (Below.refl _ _).alloc (Nat.le_refl _) _
  have Sm : Hid (Has w10 (w9.heap.size + 1) 3 [.int .i64 Q, .int .i64 C]) := hide (by rw [hw10]; exact box_at _ _ _ _ (by rw [Hw9b.out]; simp))
  replace HB := hide (HB.out.trans (hbA.mono HB.out.size))
  replace Ta := hide (Ta.out.below hbA)
  replace Ba := hide (Ba.out.below hbA Ba.out.lt)
  replace Tk := hide (Tk.out.below hbA)
  replace Bk := hide (Bk.out.below hbA Bk.out.lt)
  replace Tt := hide (Tt.out.below hbA)
  replace Bt := hide (Bt.out.below hbA Bt.out.lt)
  replace Rm := hide (Rm.out.below hbA)
  replace Bm := hide (Bm.out.below hbA Bm.out.lt)
  have Hw10 := hide hw10
  clear hw10 hbA
  go_wp2_with fail
  rw [← Hw9b.out]
  rw [← Hw10.out]
  clear Hw9b Hw10 c_Bk0 c_Bk1 c_Bk2 l_Bk
  refine (cvclone_c k _ Tk.out).mono ?_
  rintro e w11 ⟨⟨gb, ccb, gdb, cdb, rfl, hrb⟩, hb⟩
  replace HB := hide (HB.out.trans (hb.mono HB.out.size))
  replace Ta := hide (Ta.out.below hb)
  replace Ba := hide (Ba.out.below hb Ba.out.lt)
  replace Tk := hide (Tk.out.below hb)
  replace Bk := hide (Bk.out.below hb Bk.out.lt)
  replace Tt := hide (Tt.out.below hb)
  replace Bt := hide (Bt.out.below hb Bt.out.lt)
  replace Rm := hide (Rm.out.below hb)
  replace Bm := hide (Bm.out.below hb Bm.out.lt)
  replace Sm := hide (Sm.out.below hb Sm.out.lt)
  clear hb
  have Rb := hide hrb
  clear hrb
  clear hHV
  have c_Bm0 := Bm.out.cell 0
  have c_Bm1 := Bm.out.cell 1
  have c_Bm2 := Bm.out.cell 2
  have l_Bm := Bm.out.lt
  obtain ⟨w11b, hw11b⟩ : ∃ W, W = w11.alloc (.cells #[.slice (some ⟨w11.heap.size + 1, 0, none⟩) 2 2, .bool k.u, .slice (some ⟨gdb, 0, none⟩) k.ds.length cdb] 26) := ⟨_, rfl⟩
  have hbA : Below w11.heap.size w11 w11b := by rw [hw11b]; exact (Below.refl _ _).alloc (Nat.le_refl _) _
  have Bb : Hid (Has w11b w11.heap.size 26 [.slice (some ⟨w11.heap.size + 1, 0, none⟩) 2 2, .bool k.u, .slice (some ⟨gdb, 0, none⟩) k.ds.length cdb]) := hide (by rw [hw11b]; exact Has.new _ _ _)
  replace HB := hide (HB.out.trans (hbA.mono HB.out.size))
  replace Ta := hide (Ta.out.below hbA)
  replace Ba := hide (Ba.out.below hbA Ba.out.lt)
  replace Tk := hide (Tk.out.below hbA)
  replace Bk := hide (Bk.out.below hbA Bk.out.lt)
  replace Tt := hide (Tt.out.below hbA)
  replace Bt := hide (Bt.out.below hbA Bt.out.lt)
  replace Rm := hide (Rm.out.below hbA)
  replace Bm := hide (Bm.out.below hbA Bm.out.lt)
  replace Sm := hide (Sm.out.below hbA Sm.out.lt)
  replace Rb := hide (Rb.out.below hbA)
  have Hw11b := hide hw11b
  clear hw11b hbA
  obtain ⟨w12, hw12⟩ : ∃ W, W = w11b.alloc (.cells #[.int .i64 C, .int .i64 N] 3) := ⟨_, rfl⟩
  have hbA : Below w11b.heap.size w11b w12 := by rw [hw12]; exact (Below.refl _ _).alloc (Nat.le_refl _) _
  have Sb : Hid (Has w12 (w11.heap.size + 1) 3 [.int .i64 C, .int .i64 N]) := hide (by rw [hw12]; exact box_at _ _ _ _ (by rw [Hw11b.out]; simp))
  replace HB := hide (HB.out.trans (hbA.mono HB.out.size))
  replace Ta := hide (Ta.out.below hbA)
  replace Ba := hide (Ba.out.below hbA Ba.out.lt)
  replace Tk := hide (Tk.out.below hbA)
  replace Bk := hide (Bk.out.below hbA Bk.out.lt)
  replace Tt := hide (Tt.out.below hbA)
  replace Bt := hide (Bt.out.below hbA Bt.out.lt)
  replace Rm := hide (Rm.out.below hbA)
  replace Bm := hide (Bm.out.below hbA Bm.out.lt)
  replace Sm := hide (Sm.out.below hbA Sm.out.lt)
  replace Rb := hide (Rb.out.below hbA)
  replace Bb := hide (Bb.out.below hbA Bb.out.lt)
  have Hw12 := hide hw12
  clear hw12 hbA
  go_wp2_with fail
  rw [← Hw11b.out]
  rw [← Hw12.out]
  clear Hw11b Hw12 c_Bm0 c_Bm1 c_Bm2 l_Bm
  have hlm : a.ds.length = Q * C := by rw [Ia.out.len, ← hT1.out, ← hQ.out]
  have hlb : k.ds.length = C * N := by rw [Ik.out.len, ← hT2.out, Nat.one_mul]
  refine (mul_good (a := ⟨some ⟨w9.heap.size + 1, 0, none⟩, [(Q : Int), (C : Int)], 2, a.u, some ⟨gdm, 0, none⟩, a.ds, cdm⟩) (b := ⟨some ⟨w11.heap.size + 1, 0, none⟩, [(C : Int), (N : Int)], 2, k.u, some ⟨gdb, 0, none⟩, k.ds, cdb⟩) (M := Q) (K := C) (N := N) (za := z) (zb := 0) ⟨rfl, Ia.out.hu, hlm, (fun y hy => by unfold Tens.fit; rw [if_neg (by decide)]; exact decide_eq_true (Ia.out.sm y hy))⟩ ⟨rfl, Ik.out.hu, hlb, (fun y hy => by unfold Tens.fit; rw [if_neg (by decide)]; exact decide_eq_true (Ik.out.sm y hy))⟩ (by have := hQb.out; omega) (by have := BC.out; omega) (by have := BN.out; omega) Hz.out (by decide) ah am ar _ ⟨Sm.out.ri (zs := [(Q : Int), (C : Int)]) (fun q hq => by simp at hq; have := hQb.out; have := BC.out; rcases hq with rfl | rfl <;> exact wf_i64 _ (by omega)), Rm.out, by simp, Ta.out.ld⟩ ⟨Sb.out.ri (zs := [(C : Int), (N : Int)]) (fun q hq => by simp at hq; have := BN.out; have := BC.out; rcases hq with rfl | rfl <;> exact wf_i64 _ (by omega)), Rb.out, by simp, Tk.out.ld⟩ (HE.out _ HB.out)).mono ?_
  rintro e w13 ⟨⟨p, rfl, hp, -, hpd, -⟩, hb⟩
  replace HB := hide (HB.out.trans (hb.mono HB.out.size))
  replace Ta := hide (Ta.out.below hb)
  replace Ba := hide (Ba.out.below hb Ba.out.lt)
  replace Tk := hide (Tk.out.below hb)
  replace Bk := hide (Bk.out.below hb Bk.out.lt)
  replace Tt := hide (Tt.out.below hb)
  replace Bt := hide (Bt.out.below hb Bt.out.lt)
  replace Rm := hide (Rm.out.below hb)
  replace Bm := hide (Bm.out.below hb Bm.out.lt)
  replace Sm := hide (Sm.out.below hb Sm.out.lt)
  replace Rb := hide (Rb.out.below hb)
  replace Bb := hide (Bb.out.below hb Bb.out.lt)
  replace Sb := hide (Sb.out.below hb Sb.out.lt)
  clear hb
  have Tp := hide hp
  have Dp := hide hpd
  clear hp hpd hlm hlb
  have c_Bt0 := Bt.out.cell 0
  have c_Bt1 := Bt.out.cell 1
  have c_Bt2 := Bt.out.cell 2
  have l_Bt := Bt.out.lt
  obtain ⟨w13b, hw13b⟩ : ∃ W, W = w13.alloc (.cells #[.slice p.P p.zs.length p.cap, .bool p.u, .slice p.D p.ds.length p.dcap] 26) := ⟨_, rfl⟩
  have hbA : Below w13.heap.size w13 w13b := by rw [hw13b]; exact (Below.refl _ _).alloc (Nat.le_refl _) _
  have Bp : Hid (Has w13b w13.heap.size 26 [.slice p.P p.zs.length p.cap, .bool p.u, .slice p.D p.ds.length p.dcap]) := hide (by rw [hw13b]; exact Has.new _ _ _)
  replace HB := hide (HB.out.trans (hbA.mono HB.out.size))
  replace Ta := hide (Ta.out.below hbA)
  replace Ba := hide (Ba.out.below hbA Ba.out.lt)
  replace Tk := hide (Tk.out.below hbA)
  replace Bk := hide (Bk.out.below hbA Bk.out.lt)
  replace Tt := hide (Tt.out.below hbA)
  replace Bt := hide (Bt.out.below hbA Bt.out.lt)
  replace Rm := hide (Rm.out.below hbA)
  replace Bm := hide (Bm.out.below hbA Bm.out.lt)
  replace Sm := hide (Sm.out.below hbA Sm.out.lt)
  replace Rb := hide (Rb.out.below hbA)
  replace Bb := hide (Bb.out.below hbA Bb.out.lt)
  replace Sb := hide (Sb.out.below hbA Sb.out.lt)
  replace Tp := hide (Tp.out.below hbA)
  have Hw13b := hide hw13b
  clear hw13b hbA
  obtain ⟨w14, hw14⟩ : ∃ W, W = w13b.alloc (.cells #[.int .i64 H, .int .i64 V, .int .i64 N] 3) := ⟨_, rfl⟩
  have hbA : Below w13b.heap.size w13b w14 := by rw [hw14]; exact (Below.refl _ _).alloc (Nat.le_refl _) _
  have SE : Hid (Has w14 (w13.heap.size + 1) 3 [.int .i64 H, .int .i64 V, .int .i64 N]) := hide (by rw [hw14]; exact box_at _ _ _ _ (by rw [Hw13b.out]; simp))
  replace HB := hide (HB.out.trans (hbA.mono HB.out.size))
  replace Ta := hide (Ta.out.below hbA)
  replace Ba := hide (Ba.out.below hbA Ba.out.lt)
  replace Tk := hide (Tk.out.below hbA)
  replace Bk := hide (Bk.out.below hbA Bk.out.lt)
  replace Tt := hide (Tt.out.below hbA)
  replace Bt := hide (Bt.out.below hbA Bt.out.lt)
  replace Rm := hide (Rm.out.below hbA)
  replace Bm := hide (Bm.out.below hbA Bm.out.lt)
  replace Sm := hide (Sm.out.below hbA Sm.out.lt)
  replace Rb := hide (Rb.out.below hbA)
  replace Bb := hide (Bb.out.below hbA Bb.out.lt)
  replace Sb := hide (Sb.out.below hbA Sb.out.lt)
  replace Tp := hide (Tp.out.below hbA)
  replace Bp := hide (Bp.out.below hbA Bp.out.lt)
  have Hw14 := hide hw14
  clear hw14 hbA
  go_wp2_with fail
  rw [← Hw13b.out]
  rw [← Hw14.out]
  clear Hw13b Hw14 c_Bt0 c_Bt1 c_Bt2 l_Bt
  have htl : t.zs.length = 3 := by rw [Zt.out]; rfl
  have HS := hide (sameints_c t.zs [(H : Int), (V : Int), (N : Int)] t.P (some ⟨(w13.heap.size + 1), 0, none⟩) t.cap 3 _ Tt.out.shp (SE.out.ri (zs := [(H : Int), (V : Int), (N : Int)]) (fun q hq => by simp at hq; have := BH.out; have := BV.out; have := BN.out; rcases hq with rfl | rfl | rfl <;> exact wf_i64 _ (by omega))) Tt.out.ls (by simp))
  rw [decide_eq_true Zt.out] at HS
  refine (HS.out).mono ?_
  rintro e w15 ⟨rfl, hb⟩
  replace HB := hide (HB.out.trans (hb.mono HB.out.size))
  replace Ta := hide (Ta.out.below hb)
  replace Ba := hide (Ba.out.below hb Ba.out.lt)
  replace Tk := hide (Tk.out.below hb)
  replace Bk := hide (Bk.out.below hb Bk.out.lt)
  replace Tt := hide (Tt.out.below hb)
  replace Bt := hide (Bt.out.below hb Bt.out.lt)
  replace Rm := hide (Rm.out.below hb)
  replace Bm := hide (Bm.out.below hb Bm.out.lt)
  replace Sm := hide (Sm.out.below hb Sm.out.lt)
  replace Rb := hide (Rb.out.below hb)
  replace Bb := hide (Bb.out.below hb Bb.out.lt)
  replace Sb := hide (Sb.out.below hb Sb.out.lt)
  replace Tp := hide (Tp.out.below hb)
  replace Bp := hide (Bp.out.below hb Bp.out.lt)
  replace SE := hide (SE.out.below hb SE.out.lt)
  clear hb
  have c_Bt0 := Bt.out.cell 0
  have c_Bt1 := Bt.out.cell 1
  have c_Bt2 := Bt.out.cell 2
  have c_Bp0 := Bp.out.cell 0
  have c_Bp1 := Bp.out.cell 1
  have c_Bp2 := Bp.out.cell 2
  go_wp2_with fail
  clear c_Bt0 c_Bt1 c_Bt2 c_Bp0 c_Bp1 c_Bp2
  have HS2 := hide (sameints_c t.ds p.ds t.D p.D t.dcap p.dcap _ Tt.out.dat Tp.out.dat Tt.out.ld Tp.out.ld)
  rw [decide_eq_true (by rw [Dt.out, Dp.out, ← hQ.out])] at HS2
  refine (HS2.out).mono ?_
  rintro e w16 ⟨rfl, hb⟩
  replace HB := hide (HB.out.trans (hb.mono HB.out.size))
  replace Ta := hide (Ta.out.below hb)
  replace Ba := hide (Ba.out.below hb Ba.out.lt)
  replace Tk := hide (Tk.out.below hb)
  replace Bk := hide (Bk.out.below hb Bk.out.lt)
  replace Tt := hide (Tt.out.below hb)
  replace Bt := hide (Bt.out.below hb Bt.out.lt)
  replace Rm := hide (Rm.out.below hb)
  replace Bm := hide (Bm.out.below hb Bm.out.lt)
  replace Sm := hide (Sm.out.below hb Sm.out.lt)
  replace Rb := hide (Rb.out.below hb)
  replace Bb := hide (Bb.out.below hb Bb.out.lt)
  replace Sb := hide (Sb.out.below hb Sb.out.lt)
  replace Tp := hide (Tp.out.below hb)
  replace Bp := hide (Bp.out.below hb Bp.out.lt)
  replace SE := hide (SE.out.below hb SE.out.lt)
  clear hb
  go_wp2_with fail
  go_ret
  exact ⟨rfl, HB.out⟩
end Go.Proofs.YtkehdgjdieemkaaDoor
