/-
  The law MatTurns, walked. By an AI agent. No person has read it.
-/
import Derived.Test.YtkehdgjdieemkaaDoorMatH
namespace Go.Proofs.YtkehdgjdieemkaaDoor
open Go.RowKit

theorem matrix_int (Mi Ni : Int) (M N : Nat) (h1 : Mi = M) (h2 : Ni = N) (l : List Int) (n : Nat) (hn : l.length = n) (A : Option Addr) (cap : Nat) (w : World) (hM : M ≤ 20) (hN : N ≤ 20) (hr : Ri w A l) :
    Calls Tryd.prog 26 #[.int .i64 Mi, .int .i64 Ni, .slice A n cap] w fun e w' =>
      (∃ t : Ten, e = .returned (.agg (tcells t.P t.zs.length t.cap t.u t.D t.ds.length t.dcap)) ∧ t.In w' ∧ Mat.Is t M N false) ∧ Below w.heap.size w w' := by
  subst h1
  subst h2
  subst hn
  exact matrix_good M N l A cap w hM hN hr
/-- Number's value, named. -/
theorem number_n (x : Int) (m : Nat) (h0 : 0 < m) (hm : m ≤ 4611686018427387904) (M : Int) (hM : M = (m : Int)) : ∃ k : Int, 0 ≤ k ∧ k < m ∧ Hid (∀ w, Calls Tryd.prog 27 #[.int .i64 x, .int .i64 M] w fun e w' => e = .returned (.int .i64 k) ∧ w' = w) :=
  ⟨x % M, by rw [hM]; exact Int.emod_nonneg _ (by omega), by rw [hM]; exact Int.emod_lt_of_pos _ (by omega), hide fun w => number_e x m h0 hm M hM w⟩
set_option maxRecDepth 100000 in
set_option maxHeartbeats 16000000 in
theorem turnslaw_c (m k n : Int) (l : List Int) (A : Option Addr) (cap : Nat) (za zb : Int) (ah am ar : Addr) (w : World) (hr : Ri w A l) (hE : E3 w ah am ar) :
    Calls Tryd.prog 4 #[.int .i64 m, .int .i64 k, .int .i64 n, .slice A l.length cap, .int .i64 za, .int .i64 zb] w fun e w' => e = .returned (.bool true) ∧ Below w.heap.size w w' := by
  have HF := hide (first8_c ah am ar w hE)
  have HE := hide (fun W (hb : Below w.heap.size w W) => hE.below hb)
  have HL := hide (fun W (hb : Below w.heap.size w W) => hr.below hb)
  obtain ⟨m1, hm0, hm1, NM⟩ := number_n m 12 (by decide) (by decide) 12 rfl
  obtain ⟨k1, hk0, hk1, NK⟩ := number_n k 12 (by decide) (by decide) 12 rfl
  obtain ⟨n1, hn0, hn1, NN⟩ := number_n n 12 (by decide) (by decide) 12 rfl
  obtain ⟨a1, ha0, ha1, NA⟩ := number_n za 256 (by decide) (by decide) 256 rfl
  obtain ⟨b1, hb0, hb1, NB⟩ := number_n zb 256 (by decide) (by decide) 256 rfl
  obtain ⟨ln, hln⟩ : ∃ n, Hid (l.length = n) := ⟨_, hide rfl⟩
  have HO := hide (fun W (hb : Below w.heap.size w W) (h : l.length ≤ 1000000) => refints_o l A cap W (hr.below hb) h)
  rw [hln.out] at HO ⊢
  clear hr hE
  by_cases hbig : 40 < ln
  case pos =>
    have hb2 : (40 : Int) < ln := by omega
    clear hbig
    go_enter Tryd.func4, Tryd.ntmps4
    go_wp2_with fail
    refine (HF.out).mono ?_
    rintro e w1 ⟨rfl, hb⟩
    have HB := hide hb
    clear hb HF
    go_wp2_with fail
    go_ret
    exact ⟨rfl, HB.out⟩
  case neg =>
  have hn40 : (ln : Int) ≤ 40 := by omega
  clear hbig
  go_enter Tryd.func4, Tryd.ntmps4
  go_wp2_with fail
  refine (HF.out).mono ?_
  rintro e w1 ⟨rfl, hb⟩
  have HB := hide hb
  clear hb HF
  go_wp2_with fail
  refine (NM.out _).mono ?_
  rintro e wq ⟨rfl, hw⟩
  have hw := hw.symm
  subst hw
  go_wp2_with fail
  refine (NK.out _).mono ?_
  rintro e wq ⟨rfl, hw⟩
  have hw := hw.symm
  subst hw
  go_wp2_with fail
  have em : m1 + 1 = ((m1.toNat + 1 : Nat) : Int) := by omega
  have ek : k1 + 1 = ((k1.toNat + 1 : Nat) : Int) := by omega
  have en : n1 + 1 = ((n1.toNat + 1 : Nat) : Int) := by omega
  have EM := hide em
  have EK := hide ek
  have EN := hide en
  obtain ⟨M, hM⟩ : ∃ M, Hid (m1.toNat + 1 = M) := ⟨_, hide rfl⟩
  obtain ⟨K, hK⟩ : ∃ M, Hid (k1.toNat + 1 = M) := ⟨_, hide rfl⟩
  obtain ⟨N, hN⟩ : ∃ M, Hid (n1.toNat + 1 = M) := ⟨_, hide rfl⟩
  rw [hM.out] at EM
  rw [hK.out] at EK
  rw [hN.out] at EN
  have hMb : Hid (1 ≤ M ∧ M ≤ 12) := hide (by rw [← hM.out]; omega)
  have hKb : Hid (1 ≤ K ∧ K ≤ 12) := hide (by rw [← hK.out]; omega)
  have hNb : Hid (1 ≤ N ∧ N ≤ 12) := hide (by rw [← hN.out]; omega)
  clear em ek en hM hK hN
  refine (matrix_int _ _ M K EM.out EK.out l ln hln.out A cap _ (by have := hMb.out; omega) (by have := hKb.out; omega) (HL.out _ HB.out)).mono ?_
  rintro e w2 ⟨⟨a, rfl, ha, hai⟩, hb⟩
  replace HB := hide (HB.out.trans (hb.mono HB.out.size))
  clear hb
  have Ta := hide ha
  have Ia := hide hai
  clear ha hai
  obtain ⟨w2b, hw2b⟩ : ∃ W, W = w2.alloc (.cells #[.slice a.P a.zs.length a.cap, .bool a.u, .slice a.D a.ds.length a.dcap] 26) := ⟨_, rfl⟩
  have hbA : Below w2.heap.size w2 w2b := by rw [hw2b]; exact (Below.refl _ _).alloc (Nat.le_refl _) _
  have Ba : Hid (Has w2b w2.heap.size 26 [.slice a.P a.zs.length a.cap, .bool a.u, .slice a.D a.ds.length a.dcap]) := hide (by rw [hw2b]; exact Has.new _ _ _)
  replace HB := hide (HB.out.trans (hbA.mono HB.out.size))
  replace Ta := hide (Ta.out.below hbA)
  have Hw2b := hide hw2b
  clear hw2b hbA
  go_wp2_with fail
  rw [← Hw2b.out]
  clear Hw2b
  refine (NK.out _).mono ?_
  rintro e wq ⟨rfl, hw⟩
  have hw := hw.symm
  subst hw
  go_wp2_with fail
  refine (NN.out _).mono ?_
  rintro e wq ⟨rfl, hw⟩
  have hw := hw.symm
  subst hw
  go_wp2_with fail
  refine (HO.out _ HB.out (by omega)).mono ?_
  rintro e w3 ⟨⟨v, rfl, hown, hv0⟩, hb⟩
  have hown2 := hide (hown.alloc (.cells #[.int .i64 5] 3))
  have hB3 := hide (hb.alloc hb.size (.cells #[.int .i64 5] 3))
  have hr3 := hide (new_ri w3 3 [5] (by decide))
  have hs3 := hide hB3.out.size
  have hn3 := hide (show ln + 1 ≤ 1000000000000 by omega)
  clear hown hb hv0
  go_wp2_with (at_builtin; refine wpList_append_is rfl (.tmp 54) (.tmp 55) rfl w2b.heap.size _ ln (i64s l) rfl hown2.out (some ⟨w3.heap.size, 0, none⟩) 1 1 [5] rfl (hide rfl) hr3.out hn3.out hs3.out ?_)
  intro v4 w4 o1 o2 o3
  have hb : Below w2b.heap.size w2b w4 := elm_grown hB3.out hown2.out hB3.out.size o2
  replace HB := hide (HB.out.trans (hb.mono HB.out.size))
  replace Ta := hide (Ta.out.below hb)
  replace Ba := hide (Ba.out.below hb Ba.out.lt)
  have o4 : w4.ownsRow w2b.heap.size 3 1 v4 (ln + 1) (i64s (l ++ [5])) := by simpa [i64s] using o1
  have hvn : v4 ≠ .slice none 0 0 := by
    rintro rfl
    have h := o4.2
    rcases h with ⟨-, h⟩ | ⟨g, c, cur, h, -⟩
    · omega
    · cases h
  obtain ⟨g4, c4, r4, rfl, hl4, -, -, -, hA4⟩ := own_has o4 hvn
  have hR4 := hide (hA4.ri_app (fun q hq => by
    rcases List.mem_append.1 hq with h | h
    · exact (HL.out _ HB.out).1 q h
    · simp at h
      subst h
      decide))
  have HL4 := hide hl4
  clear hb o1 o2 o3 o4 hvn hl4 hA4 hown2 hB3 hr3 hs3 hn3
  go_wp2_with fail
  refine (matrix_int _ _ K N EK.out EN.out (l ++ [5]) (ln + 1) HL4.out (some ⟨g4, 0, none⟩) c4 _ (by have := hKb.out; omega) (by have := hNb.out; omega) hR4.out).mono ?_
  rintro e w5 ⟨⟨b, rfl, hb_, hbi⟩, hb⟩
  replace HB := hide (HB.out.trans (hb.mono HB.out.size))
  replace Ta := hide (Ta.out.below hb)
  replace Ba := hide (Ba.out.below hb Ba.out.lt)
  clear hb
  clear HL4 hR4 HO
  have hb := hb_
  clear hb_
  have Tb := hide hb
  have Ib := hide hbi
  clear hb hbi
  obtain ⟨w5b, hw5b⟩ : ∃ W, W = w5.alloc (.cells #[.slice b.P b.zs.length b.cap, .bool b.u, .slice b.D b.ds.length b.dcap] 26) := ⟨_, rfl⟩
  have hbA : Below w5.heap.size w5 w5b := by rw [hw5b]; exact (Below.refl _ _).alloc (Nat.le_refl _) _
  have Bb : Hid (Has w5b w5.heap.size 26 [.slice b.P b.zs.length b.cap, .bool b.u, .slice b.D b.ds.length b.dcap]) := hide (by rw [hw5b]; exact Has.new _ _ _)
  replace HB := hide (HB.out.trans (hbA.mono HB.out.size))
  replace Ta := hide (Ta.out.below hbA)
  replace Ba := hide (Ba.out.below hbA Ba.out.lt)
  replace Tb := hide (Tb.out.below hbA)
  have Hw5b := hide hw5b
  clear hw5b hbA
  go_wp2_with fail
  rw [← Hw5b.out]
  clear Hw5b
  refine (NA.out _).mono ?_
  rintro e wq ⟨rfl, hw⟩
  have hw := hw.symm
  subst hw
  go_wp2_with fail
  refine (NB.out _).mono ?_
  rintro e wq ⟨rfl, hw⟩
  have hw := hw.symm
  subst hw
  have c_Ba0 := Ba.out.cell 0
  have c_Ba1 := Ba.out.cell 1
  have c_Ba2 := Ba.out.cell 2
  have c_Bb0 := Bb.out.cell 0
  have c_Bb1 := Bb.out.cell 1
  have c_Bb2 := Bb.out.cell 2
  go_wp2_with fail
  clear c_Ba0 c_Ba1 c_Ba2 c_Bb0 c_Bb1 c_Bb2
  obtain ⟨ya, hya⟩ : ∃ x : Int, Hid (a1 - 128 = x) := ⟨_, hide rfl⟩
  have Hya : Hid (-128 ≤ ya ∧ ya ≤ 127) := hide (by have := hya.out; omega)
  rw [hya.out]
  obtain ⟨yb, hyb⟩ : ∃ x : Int, Hid (b1 - 128 = x) := ⟨_, hide rfl⟩
  have Hyb : Hid (-128 ≤ yb ∧ yb ≤ 127) := hide (by have := hyb.out; omega)
  rw [hyb.out]
  refine (mul_good Ia.out Ib.out (by have := hMb.out; omega) (by have := hKb.out; omega) (by have := hNb.out; omega) Hya.out Hyb.out ah am ar w5b Ta.out Tb.out (HE.out _ HB.out)).mono ?_
  rintro e w6 ⟨⟨p, rfl, hp, hpi, hpd⟩, hb⟩
  replace HB := hide (HB.out.trans (hb.mono HB.out.size))
  replace Ta := hide (Ta.out.below hb)
  replace Ba := hide (Ba.out.below hb Ba.out.lt)
  replace Tb := hide (Tb.out.below hb)
  replace Bb := hide (Bb.out.below hb Bb.out.lt)
  clear hb
  have Dp := hide hpd
  clear hpd
  have Tp := hide hp
  have Ip := hide hpi
  clear hp hpi
  have c_Ba0 := Ba.out.cell 0
  have c_Ba1 := Ba.out.cell 1
  have c_Ba2 := Ba.out.cell 2
  have l_Ba := Ba.out.lt
  obtain ⟨w6b, hw6b⟩ : ∃ W, W = w6.alloc (.cells #[.slice p.P p.zs.length p.cap, .bool p.u, .slice p.D p.ds.length p.dcap] 26) := ⟨_, rfl⟩
  have hbA : Below w6.heap.size w6 w6b := by rw [hw6b]; exact (Below.refl _ _).alloc (Nat.le_refl _) _
  have Bp : Hid (Has w6b w6.heap.size 26 [.slice p.P p.zs.length p.cap, .bool p.u, .slice p.D p.ds.length p.dcap]) := hide (by rw [hw6b]; exact Has.new _ _ _)
  replace HB := hide (HB.out.trans (hbA.mono HB.out.size))
  replace Ta := hide (Ta.out.below hbA)
  replace Ba := hide (Ba.out.below hbA Ba.out.lt)
  replace Tb := hide (Tb.out.below hbA)
  replace Bb := hide (Bb.out.below hbA Bb.out.lt)
  replace Tp := hide (Tp.out.below hbA)
  have Hw6b := hide hw6b
  clear hw6b hbA
  go_wp2_with fail
  rw [← Hw6b.out]
  clear Hw6b c_Ba0 c_Ba1 c_Ba2 l_Ba
  refine (turn_good Ia.out (by have := hMb.out; omega) (by have := hKb.out; omega) ah am ar w6b Ta.out (HE.out _ HB.out)).mono ?_
  rintro e w7 ⟨⟨s, rfl, hs, hsi, hsd⟩, hb⟩
  replace HB := hide (HB.out.trans (hb.mono HB.out.size))
  replace Ta := hide (Ta.out.below hb)
  replace Ba := hide (Ba.out.below hb Ba.out.lt)
  replace Tb := hide (Tb.out.below hb)
  replace Bb := hide (Bb.out.below hb Bb.out.lt)
  replace Tp := hide (Tp.out.below hb)
  replace Bp := hide (Bp.out.below hb Bp.out.lt)
  clear hb
  have Ds := hide hsd
  clear hsd
  have Ts := hide hs
  have Is := hide hsi
  clear hs hsi
  have c_Bb0 := Bb.out.cell 0
  have c_Bb1 := Bb.out.cell 1
  have c_Bb2 := Bb.out.cell 2
  have l_Bb := Bb.out.lt
  obtain ⟨w7b, hw7b⟩ : ∃ W, W = w7.alloc (.cells #[.slice s.P s.zs.length s.cap, .bool s.u, .slice s.D s.ds.length s.dcap] 26) := ⟨_, rfl⟩
  have hbA : Below w7.heap.size w7 w7b := by rw [hw7b]; exact (Below.refl _ _).alloc (Nat.le_refl _) _
  have Bs : Hid (Has w7b w7.heap.size 26 [.slice s.P s.zs.length s.cap, .bool s.u, .slice s.D s.ds.length s.dcap]) := hide (by rw [hw7b]; exact Has.new _ _ _)
  replace HB := hide (HB.out.trans (hbA.mono HB.out.size))
  replace Ta := hide (Ta.out.below hbA)
  replace Ba := hide (Ba.out.below hbA Ba.out.lt)
  replace Tb := hide (Tb.out.below hbA)
  replace Bb := hide (Bb.out.below hbA Bb.out.lt)
  replace Tp := hide (Tp.out.below hbA)
  replace Bp := hide (Bp.out.below hbA Bp.out.lt)
  replace Ts := hide (Ts.out.below hbA)
  have Hw7b := hide hw7b
  clear hw7b hbA
  go_wp2_with fail
  rw [← Hw7b.out]
  clear Hw7b c_Bb0 c_Bb1 c_Bb2 l_Bb
  refine (turn_good Ib.out (by have := hKb.out; omega) (by have := hNb.out; omega) ah am ar w7b Tb.out (HE.out _ HB.out)).mono ?_
  rintro e w8 ⟨⟨t, rfl, ht, hti, htd⟩, hb⟩
  replace HB := hide (HB.out.trans (hb.mono HB.out.size))
  replace Ta := hide (Ta.out.below hb)
  replace Ba := hide (Ba.out.below hb Ba.out.lt)
  replace Tb := hide (Tb.out.below hb)
  replace Bb := hide (Bb.out.below hb Bb.out.lt)
  replace Tp := hide (Tp.out.below hb)
  replace Bp := hide (Bp.out.below hb Bp.out.lt)
  replace Ts := hide (Ts.out.below hb)
  replace Bs := hide (Bs.out.below hb Bs.out.lt)
  clear hb
  have Dt := hide htd
  clear htd
  have Tt := hide ht
  have It := hide hti
  clear ht hti
  have c_Bs0 := Bs.out.cell 0
  have c_Bs1 := Bs.out.cell 1
  have c_Bs2 := Bs.out.cell 2
  have l_Bs := Bs.out.lt
  obtain ⟨w8b, hw8b⟩ : ∃ W, W = w8.alloc (.cells #[.slice t.P t.zs.length t.cap, .bool t.u, .slice t.D t.ds.length t.dcap] 26) := ⟨_, rfl⟩
  have hbA : Below w8.heap.size w8 w8b := by rw [hw8b]; exact (Below.refl _ _).alloc (Nat.le_refl _) _
  have Bt : Hid (Has w8b w8.heap.size 26 [.slice t.P t.zs.length t.cap, .bool t.u, .slice t.D t.ds.length t.dcap]) := hide (by rw [hw8b]; exact Has.new _ _ _)
  replace HB := hide (HB.out.trans (hbA.mono HB.out.size))
  replace Ta := hide (Ta.out.below hbA)
  replace Ba := hide (Ba.out.below hbA Ba.out.lt)
  replace Tb := hide (Tb.out.below hbA)
  replace Bb := hide (Bb.out.below hbA Bb.out.lt)
  replace Tp := hide (Tp.out.below hbA)
  replace Bp := hide (Bp.out.below hbA Bp.out.lt)
  replace Ts := hide (Ts.out.below hbA)
  replace Bs := hide (Bs.out.below hbA Bs.out.lt)
  replace Tt := hide (Tt.out.below hbA)
  have Hw8b := hide hw8b
  clear hw8b hbA
  go_wp2_with fail
  rw [← Hw8b.out]
  clear Hw8b c_Bs0 c_Bs1 c_Bs2 l_Bs
  refine (mul_good It.out Is.out (by have := hNb.out; omega) (by have := hKb.out; omega) (by have := hMb.out; omega) Hyb.out Hya.out ah am ar w8b Tt.out Ts.out (HE.out _ HB.out)).mono ?_
  rintro e w9 ⟨⟨q, rfl, hq, hqi, hqd⟩, hb⟩
  replace HB := hide (HB.out.trans (hb.mono HB.out.size))
  replace Ta := hide (Ta.out.below hb)
  replace Ba := hide (Ba.out.below hb Ba.out.lt)
  replace Tb := hide (Tb.out.below hb)
  replace Bb := hide (Bb.out.below hb Bb.out.lt)
  replace Tp := hide (Tp.out.below hb)
  replace Bp := hide (Bp.out.below hb Bp.out.lt)
  replace Ts := hide (Ts.out.below hb)
  replace Bs := hide (Bs.out.below hb Bs.out.lt)
  replace Tt := hide (Tt.out.below hb)
  replace Bt := hide (Bt.out.below hb Bt.out.lt)
  clear hb
  have Dq := hide hqd
  clear hqd
  have Tq := hide hq
  have Iq := hide hqi
  clear hq hqi
  have c_Bp0 := Bp.out.cell 0
  have c_Bp1 := Bp.out.cell 1
  have c_Bp2 := Bp.out.cell 2
  have l_Bp := Bp.out.lt
  obtain ⟨w9b, hw9b⟩ : ∃ W, W = w9.alloc (.cells #[.slice q.P q.zs.length q.cap, .bool q.u, .slice q.D q.ds.length q.dcap] 26) := ⟨_, rfl⟩
  have hbA : Below w9.heap.size w9 w9b := by rw [hw9b]; exact (Below.refl _ _).alloc (Nat.le_refl _) _
  have Bq : Hid (Has w9b w9.heap.size 26 [.slice q.P q.zs.length q.cap, .bool q.u, .slice q.D q.ds.length q.dcap]) := hide (by rw [hw9b]; exact Has.new _ _ _)
  replace HB := hide (HB.out.trans (hbA.mono HB.out.size))
  replace Ta := hide (Ta.out.below hbA)
  replace Ba := hide (Ba.out.below hbA Ba.out.lt)
  replace Tb := hide (Tb.out.below hbA)
  replace Bb := hide (Bb.out.below hbA Bb.out.lt)
  replace Tp := hide (Tp.out.below hbA)
  replace Bp := hide (Bp.out.below hbA Bp.out.lt)
  replace Ts := hide (Ts.out.below hbA)
  replace Bs := hide (Bs.out.below hbA Bs.out.lt)
  replace Tt := hide (Tt.out.below hbA)
  replace Bt := hide (Bt.out.below hbA Bt.out.lt)
  replace Tq := hide (Tq.out.below hbA)
  have Hw9b := hide hw9b
  clear hw9b hbA
  go_wp2_with fail
  rw [← Hw9b.out]
  clear Hw9b c_Bp0 c_Bp1 c_Bp2 l_Bp
  refine (turn_good Ip.out (by have := hMb.out; omega) (by have := hNb.out; omega) ah am ar w9b Tp.out (HE.out _ HB.out)).mono ?_
  rintro e w10 ⟨⟨x, rfl, hx, hxi, hxd⟩, hb⟩
  replace HB := hide (HB.out.trans (hb.mono HB.out.size))
  replace Ta := hide (Ta.out.below hb)
  replace Ba := hide (Ba.out.below hb Ba.out.lt)
  replace Tb := hide (Tb.out.below hb)
  replace Bb := hide (Bb.out.below hb Bb.out.lt)
  replace Tp := hide (Tp.out.below hb)
  replace Bp := hide (Bp.out.below hb Bp.out.lt)
  replace Ts := hide (Ts.out.below hb)
  replace Bs := hide (Bs.out.below hb Bs.out.lt)
  replace Tt := hide (Tt.out.below hb)
  replace Bt := hide (Bt.out.below hb Bt.out.lt)
  replace Tq := hide (Tq.out.below hb)
  replace Bq := hide (Bq.out.below hb Bq.out.lt)
  clear hb
  have Dx := hide hxd
  clear hxd
  have Tx := hide hx
  have Ix := hide hxi
  clear hx hxi
  have c_Bs0 := Bs.out.cell 0
  have c_Bs1 := Bs.out.cell 1
  have c_Bs2 := Bs.out.cell 2
  have l_Bs := Bs.out.lt
  obtain ⟨w10b, hw10b⟩ : ∃ W, W = w10.alloc (.cells #[.slice x.P x.zs.length x.cap, .bool x.u, .slice x.D x.ds.length x.dcap] 26) := ⟨_, rfl⟩
  have hbA : Below w10.heap.size w10 w10b := by rw [hw10b]; exact (Below.refl _ _).alloc (Nat.le_refl _) _
  have Bx : Hid (Has w10b w10.heap.size 26 [.slice x.P x.zs.length x.cap, .bool x.u, .slice x.D x.ds.length x.dcap]) := hide (by rw [hw10b]; exact Has.new _ _ _)
  replace HB := hide (HB.out.trans (hbA.mono HB.out.size))
  replace Ta := hide (Ta.out.below hbA)
  replace Ba := hide (Ba.out.below hbA Ba.out.lt)
  replace Tb := hide (Tb.out.below hbA)
  replace Bb := hide (Bb.out.below hbA Bb.out.lt)
  replace Tp := hide (Tp.out.below hbA)
  replace Bp := hide (Bp.out.below hbA Bp.out.lt)
  replace Ts := hide (Ts.out.below hbA)
  replace Bs := hide (Bs.out.below hbA Bs.out.lt)
  replace Tt := hide (Tt.out.below hbA)
  replace Bt := hide (Bt.out.below hbA Bt.out.lt)
  replace Tq := hide (Tq.out.below hbA)
  replace Bq := hide (Bq.out.below hbA Bq.out.lt)
  replace Tx := hide (Tx.out.below hbA)
  have Hw10b := hide hw10b
  clear hw10b hbA
  go_wp2_with fail
  rw [← Hw10b.out]
  clear Hw10b c_Bs0 c_Bs1 c_Bs2 l_Bs
  refine (turn_good Is.out (by have := hKb.out; omega) (by have := hMb.out; omega) ah am ar w10b Ts.out (HE.out _ HB.out)).mono ?_
  rintro e w11 ⟨⟨y, rfl, hy, hyi, hyd⟩, hb⟩
  replace HB := hide (HB.out.trans (hb.mono HB.out.size))
  replace Ta := hide (Ta.out.below hb)
  replace Ba := hide (Ba.out.below hb Ba.out.lt)
  replace Tb := hide (Tb.out.below hb)
  replace Bb := hide (Bb.out.below hb Bb.out.lt)
  replace Tp := hide (Tp.out.below hb)
  replace Bp := hide (Bp.out.below hb Bp.out.lt)
  replace Ts := hide (Ts.out.below hb)
  replace Bs := hide (Bs.out.below hb Bs.out.lt)
  replace Tt := hide (Tt.out.below hb)
  replace Bt := hide (Bt.out.below hb Bt.out.lt)
  replace Tq := hide (Tq.out.below hb)
  replace Bq := hide (Bq.out.below hb Bq.out.lt)
  replace Tx := hide (Tx.out.below hb)
  replace Bx := hide (Bx.out.below hb Bx.out.lt)
  clear hb
  have Dy := hide hyd
  clear hyd
  have Ty := hide hy
  have Iy := hide hyi
  clear hy hyi
  have c_Bq0 := Bq.out.cell 0
  have c_Bq1 := Bq.out.cell 1
  have c_Bq2 := Bq.out.cell 2
  have l_Bq := Bq.out.lt
  have c_Bx0 := Bx.out.cell 0
  have c_Bx1 := Bx.out.cell 1
  have c_Bx2 := Bx.out.cell 2
  have l_Bx := Bx.out.lt
  obtain ⟨w11b, hw11b⟩ : ∃ W, W = w11.alloc (.cells #[.slice y.P y.zs.length y.cap, .bool y.u, .slice y.D y.ds.length y.dcap] 26) := ⟨_, rfl⟩
  have hbA : Below w11.heap.size w11 w11b := by rw [hw11b]; exact (Below.refl _ _).alloc (Nat.le_refl _) _
  have By : Hid (Has w11b w11.heap.size 26 [.slice y.P y.zs.length y.cap, .bool y.u, .slice y.D y.ds.length y.dcap]) := hide (by rw [hw11b]; exact Has.new _ _ _)
  replace HB := hide (HB.out.trans (hbA.mono HB.out.size))
  replace Ta := hide (Ta.out.below hbA)
  replace Ba := hide (Ba.out.below hbA Ba.out.lt)
  replace Tb := hide (Tb.out.below hbA)
  replace Bb := hide (Bb.out.below hbA Bb.out.lt)
  replace Tp := hide (Tp.out.below hbA)
  replace Bp := hide (Bp.out.below hbA Bp.out.lt)
  replace Ts := hide (Ts.out.below hbA)
  replace Bs := hide (Bs.out.below hbA Bs.out.lt)
  replace Tt := hide (Tt.out.below hbA)
  replace Bt := hide (Bt.out.below hbA Bt.out.lt)
  replace Tq := hide (Tq.out.below hbA)
  replace Bq := hide (Bq.out.below hbA Bq.out.lt)
  replace Tx := hide (Tx.out.below hbA)
  replace Bx := hide (Bx.out.below hbA Bx.out.lt)
  replace Ty := hide (Ty.out.below hbA)
  have Hw11b := hide hw11b
  clear hw11b hbA
  go_wp2_with fail
  rw [← Hw11b.out]
  clear Hw11b c_Bq0 c_Bq1 c_Bq2 l_Bq c_Bx0 c_Bx1 c_Bx2 l_Bx
  refine (same_good q x w11b Tq.out Tx.out (Iq.out.zs.trans Ix.out.zs.symm) (Iq.out.hu.trans Ix.out.hu.symm) (by rw [Dq.out, Dx.out, Dt.out, Ds.out, Dp.out]; exact Mat.part_turn a.ds b.ds ya yb M K N)).mono ?_
  rintro e w12 ⟨rfl, hb⟩
  replace HB := hide (HB.out.trans (hb.mono HB.out.size))
  replace Ta := hide (Ta.out.below hb)
  replace Ba := hide (Ba.out.below hb Ba.out.lt)
  replace Tb := hide (Tb.out.below hb)
  replace Bb := hide (Bb.out.below hb Bb.out.lt)
  replace Tp := hide (Tp.out.below hb)
  replace Bp := hide (Bp.out.below hb Bp.out.lt)
  replace Ts := hide (Ts.out.below hb)
  replace Bs := hide (Bs.out.below hb Bs.out.lt)
  replace Tt := hide (Tt.out.below hb)
  replace Bt := hide (Bt.out.below hb Bt.out.lt)
  replace Tq := hide (Tq.out.below hb)
  replace Bq := hide (Bq.out.below hb Bq.out.lt)
  replace Tx := hide (Tx.out.below hb)
  replace Bx := hide (Bx.out.below hb Bx.out.lt)
  replace Ty := hide (Ty.out.below hb)
  replace By := hide (By.out.below hb By.out.lt)
  clear hb
  have c_By0 := By.out.cell 0
  have c_By1 := By.out.cell 1
  have c_By2 := By.out.cell 2
  have c_Ba0 := Ba.out.cell 0
  have c_Ba1 := Ba.out.cell 1
  have c_Ba2 := Ba.out.cell 2
  go_wp2_with fail
  clear c_By0 c_By1 c_By2 c_Ba0 c_Ba1 c_Ba2
  refine (same_good y a w12 Ty.out Ta.out (Iy.out.zs.trans Ia.out.zs.symm) (Iy.out.hu.trans Ia.out.hu.symm) (by rw [Dy.out, Ds.out]; exact Mat.turn_back a.ds M K Ia.out.len)).mono ?_
  rintro e w13 ⟨rfl, hb⟩
  replace HB := hide (HB.out.trans (hb.mono HB.out.size))
  replace Ta := hide (Ta.out.below hb)
  replace Ba := hide (Ba.out.below hb Ba.out.lt)
  replace Tb := hide (Tb.out.below hb)
  replace Bb := hide (Bb.out.below hb Bb.out.lt)
  replace Tp := hide (Tp.out.below hb)
  replace Bp := hide (Bp.out.below hb Bp.out.lt)
  replace Ts := hide (Ts.out.below hb)
  replace Bs := hide (Bs.out.below hb Bs.out.lt)
  replace Tt := hide (Tt.out.below hb)
  replace Bt := hide (Bt.out.below hb Bt.out.lt)
  replace Tq := hide (Tq.out.below hb)
  replace Bq := hide (Bq.out.below hb Bq.out.lt)
  replace Tx := hide (Tx.out.below hb)
  replace Bx := hide (Bx.out.below hb Bx.out.lt)
  replace Ty := hide (Ty.out.below hb)
  replace By := hide (By.out.below hb By.out.lt)
  clear hb
  go_wp2_with fail
  go_ret
  exact ⟨rfl, HB.out⟩
end Go.Proofs.YtkehdgjdieemkaaDoor
