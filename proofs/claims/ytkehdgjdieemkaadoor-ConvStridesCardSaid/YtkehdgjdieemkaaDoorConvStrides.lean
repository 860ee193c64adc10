/-
  The law ConvStrides, walked. By an AI agent. No person has read it.
-/
import Derived.Test.YtkehdgjdieemkaaDoorMatE
import Derived.Test.YtkehdgjdieemkaaDoorCnvD
import Derived.Test.YtkehdgjdieemkaaDoorCnvG
import Derived.Test.YtkehdgjdieemkaaDoorCnvH
namespace Go.Proofs.YtkehdgjdieemkaaDoor
open Go.RowKit

theorem Cv.small (z : Int) (h1 : 0 ≤ z) (h2 : z ≤ 1000000) : wrap64 z = z := by
  unfold wrap64
  omega
theorem Cv.smallk (z : Int) (h1 : 0 ≤ z) (h2 : z ≤ 1000000) : IntKind.i64.wrap z = z := by
  rw [IntKind.wrap_i64]
  omega
/-- With a stride: an element of that without. -/
theorem Cv.stride_at (H V K p s : Nat) (za : Int) (xs ks : List Int) (i c b e OW1 T T1 : Nat) (ho : (Cv.mk H V 2 K K 2 1 p za).ow = OW1) (hi : i < T) (hc : i / 2 / (Cv.mk H V 2 K K 2 s p za).ow = c) (hb : i / 2 % (Cv.mk H V 2 K K 2 s p za).ow = b) (he : i % 2 = e) (hx : b * s < OW1) (hT : (c * s * OW1 + b * s) * 2 + e < T1) :
    ((Cv.mk H V 2 K K 2 1 p za).part xs ks 0 T1)[(c * s * OW1 + b * s) * 2 + e]? = ((Cv.mk H V 2 K K 2 s p za).part xs ks 0 T)[i]? := by
  rw [Cv.part_at _ _ _ _ _ _ hi, Cv.part_at _ _ _ _ _ _ hT, ho]
  show some (Tens.wide ((Cv.mk H V 2 K K 2 1 p za).el xs ks ((0 + ((c * s * OW1 + b * s) * 2 + e)) / 2 / OW1) ((0 + ((c * s * OW1 + b * s) * 2 + e)) / 2 % OW1) ((0 + ((c * s * OW1 + b * s) * 2 + e)) % 2))) = some (Tens.wide ((Cv.mk H V 2 K K 2 s p za).el xs ks ((0 + i) / 2 / (Cv.mk H V 2 K K 2 s p za).ow) ((0 + i) / 2 % (Cv.mk H V 2 K K 2 s p za).ow) ((0 + i) % 2)))
  rw [Nat.zero_add, Nat.zero_add, hc, hb, he, Cv.stride_el H V 2 K K 2 s p za xs ks c b e]
  have e1 : ((c * s * OW1 + b * s) * 2 + e) / 2 = c * s * OW1 + b * s := by omega
  have e2 : ((c * s * OW1 + b * s) * 2 + e) % 2 = e := by omega
  have e3 : (c * s * OW1 + b * s) / OW1 = c * s := by rw [Nat.add_comm, Nat.add_mul_div_right _ _ (by omega), Nat.div_eq_of_lt hx, Nat.zero_add]
  have e4 : (c * s * OW1 + b * s) % OW1 = b * s := by rw [Nat.add_comm, Nat.add_mul_mod_self_right, Nat.mod_eq_of_lt hx]
  rw [e1, e2, e3, e4]
/-- A number of a list that came in, by its place. -/
theorem ri_row {w : World} {P : Option Addr} {zs : List Int} (h : Ri w P zs) (hn : zs ≠ []) : ∃ ad, P = some ad ∧ ad.block < w.heap.size ∧ ∀ i z, zs[i]? = some z → w.cell? (ad.add i) = some (.int .i64 z) := h.2 hn
/-- The cells that a round reads. -/
def StS (w0 : World) (p0 p1 p2 p3 p4 p5 p6 p7 p8 p9 p10 p11 : Addr) (v0 v1 v2 v3 v4 v5 v6 v7 v8 v9 v10 v11 : Value) (W : World) : Prop :=
  W.cell? p0 = some v0 ∧ W.cell? p1 = some v1 ∧ W.cell? p2 = some v2 ∧ W.cell? p3 = some v3 ∧ W.cell? p4 = some v4 ∧ W.cell? p5 = some v5 ∧ W.cell? p6 = some v6 ∧ W.cell? p7 = some v7 ∧ W.cell? p8 = some v8 ∧ W.cell? p9 = some v9 ∧ W.cell? p10 = some v10 ∧ W.cell? p11 = some v11 ∧ Hid (Below w0.heap.size w0 W)
theorem StS.keep {w0 : World} {p0 p1 p2 p3 p4 p5 p6 p7 p8 p9 p10 p11 : Addr} {v0 v1 v2 v3 v4 v5 v6 v7 v8 v9 v10 v11 : Value} {W W' : World} (h : StS w0 p0 p1 p2 p3 p4 p5 p6 p7 p8 p9 p10 p11 v0 v1 v2 v3 v4 v5 v6 v7 v8 v9 v10 v11 W) (l0 : p0.block < w0.heap.size) (l1 : p1.block < w0.heap.size) (l2 : p2.block < w0.heap.size) (l3 : p3.block < w0.heap.size) (l4 : p4.block < w0.heap.size) (l5 : p5.block < w0.heap.size) (l6 : p6.block < w0.heap.size) (l7 : p7.block < w0.heap.size) (l8 : p8.block < w0.heap.size) (l9 : p9.block < w0.heap.size) (l10 : p10.block < w0.heap.size) (l11 : p11.block < w0.heap.size) (hB : Below W.heap.size W W') : StS w0 p0 p1 p2 p3 p4 p5 p6 p7 p8 p9 p10 p11 v0 v1 v2 v3 v4 v5 v6 v7 v8 v9 v10 v11 W' := by
  obtain ⟨h0, h1, h2, h3, h4, h5, h6, h7, h8, h9, h10, h11, hb⟩ := h
  have hs := hb.out.size
  exact ⟨(hB.cell (Nat.lt_of_lt_of_le l0 hs)).trans h0, (hB.cell (Nat.lt_of_lt_of_le l1 hs)).trans h1, (hB.cell (Nat.lt_of_lt_of_le l2 hs)).trans h2, (hB.cell (Nat.lt_of_lt_of_le l3 hs)).trans h3, (hB.cell (Nat.lt_of_lt_of_le l4 hs)).trans h4, (hB.cell (Nat.lt_of_lt_of_le l5 hs)).trans h5, (hB.cell (Nat.lt_of_lt_of_le l6 hs)).trans h6, (hB.cell (Nat.lt_of_lt_of_le l7 hs)).trans h7, (hB.cell (Nat.lt_of_lt_of_le l8 hs)).trans h8, (hB.cell (Nat.lt_of_lt_of_le l9 hs)).trans h9, (hB.cell (Nat.lt_of_lt_of_le l10 hs)).trans h10, (hB.cell (Nat.lt_of_lt_of_le l11 hs)).trans h11, hide (hb.out.trans (hB.mono hs))⟩
set_option maxRecDepth 100000 in
set_option maxHeartbeats 800000 in

theorem cvstrideslaw_c (h w0 k st pad : Int) (l : List Int) (A : Option Addr) (cap : Nat) (ah am ar : Addr) (w : World) (hr : Ri w A l) (hE : E3 w ah am ar) :
    Calls Tryd.prog 11 #[.int .i64 h, .int .i64 w0, .int .i64 k, .int .i64 st, .int .i64 pad, .slice A l.length cap] w fun e w' => e = .returned (.bool true) ∧ Below w.heap.size w w' := by
  have HF := hide (first9_c ah am ar w hE)
  have HE := hide (fun W (hb : Below w.heap.size w W) => hE.below hb)
  have HL := hide (fun W (hb : Below w.heap.size w W) => hr.below hb)
  have HO := hide (fun W (hb : Below w.heap.size w W) (h : l.length ≤ 1000000) => refints_o l A cap W (hr.below hb) h)
  obtain ⟨h1, hh0, hh1, NH⟩ := number_n h 7 (by decide) (by decide) 7 rfl
  obtain ⟨g1, hg0, hg1, NW⟩ := number_n w0 7 (by decide) (by decide) 7 rfl
  obtain ⟨H, hH⟩ : ∃ M, Hid (h1.toNat + 1 = M) := ⟨_, hide rfl⟩
  obtain ⟨V, hV⟩ : ∃ M, Hid (g1.toNat + 1 = M) := ⟨_, hide rfl⟩
  have EH : Hid (h1 + 1 = (H : Int)) := hide (by rw [← hH.out]; omega)
  have EV : Hid (g1 + 1 = (V : Int)) := hide (by rw [← hV.out]; omega)
  have BH : Hid (1 ≤ H ∧ H ≤ 7) := hide (by rw [← hH.out]; omega)
  have BV : Hid (1 ≤ V ∧ V ≤ 7) := hide (by rw [← hV.out]; omega)
  obtain ⟨mn, hmn⟩ : ∃ M, Hid (min H V = M) := ⟨_, hide rfl⟩
  have Bm : Hid (1 ≤ mn ∧ mn ≤ H ∧ mn ≤ V) := hide (by have := BH.out; have := BV.out; have := hmn.out; omega)
  have M1 : (if g1 < h1 then g1 + 1 else h1 + 1) = (mn : Int) := by have := EH.out; have := EV.out; have := hmn.out; split <;> omega
  have M2 : (if h1 < g1 then h1 + 1 else g1 + 1) = (mn : Int) := by have := EH.out; have := EV.out; have := hmn.out; split <;> omega
  have M3 : (if g1 + 1 < h1 + 1 then g1 + 1 else h1 + 1) = (mn : Int) := by have := EH.out; have := EV.out; have := hmn.out; split <;> omega
  have M4 : (if h1 + 1 < g1 + 1 then h1 + 1 else g1 + 1) = (mn : Int) := by have := EH.out; have := EV.out; have := hmn.out; split <;> omega
  have HM1 := hide M1
  have HM2 := hide M2
  have HM3 := hide M3
  have HM4 := hide M4
  clear M1 M2 M3 M4
  obtain ⟨k1, hk0, hk1, NK⟩ := number_n k mn (by have := Bm.out; omega) (by have := Bm.out; have := BH.out; omega) mn rfl
  obtain ⟨K, hK⟩ : ∃ M, Hid (k1.toNat + 1 = M) := ⟨_, hide rfl⟩
  have EK : Hid (k1 + 1 = (K : Int)) := hide (by rw [← hK.out]; omega)
  have BK : Hid (1 ≤ K ∧ K ≤ H ∧ K ≤ V) := hide (by rw [← hK.out]; have := Bm.out; omega)
  have hk6 : k1 ≤ 6 := by have := Bm.out; have := BH.out; omega
  obtain ⟨s1, hs0, hs1, NS⟩ := number_n st 4 (by decide) (by decide) 4 rfl
  obtain ⟨s, hs⟩ : ∃ M, Hid (s1.toNat + 1 = M) := ⟨_, hide rfl⟩
  have ES : Hid (s1 + 1 = (s : Int)) := hide (by rw [← hs.out]; omega)
  have Bs : Hid (1 ≤ s ∧ s ≤ 4) := hide (by rw [← hs.out]; omega)
  obtain ⟨p1, hp0, hp1, NP⟩ := number_n pad 3 (by decide) (by decide) 3 rfl
  obtain ⟨p, rfl⟩ : ∃ n : Nat, p1 = n := ⟨p1.toNat, by omega⟩
  have Bp : Hid (p ≤ 2) := hide (by omega)
  clear hk1 hp0 hp1
  obtain ⟨ln, hln⟩ : ∃ n, Hid (l.length = n) := ⟨_, hide rfl⟩
  rw [hln.out] at HO ⊢
  clear hr hE
  by_cases hbig : 30 < ln
  case pos =>
    have hb2 : (30 : Int) < ln := by omega
    clear hbig

    go_enter Tryd.func11, Tryd.ntmps11
    go_wp2_with fail
    refine (HF.out).mono ?_
    rintro e w1 ⟨rfl, hb⟩
    have HB := hide hb
    clear hb HF
    go_wp2_with fail
    go_ret
    exact ⟨rfl, HB.out⟩

  case neg =>
  have hn30 : (ln : Int) ≤ 30 := by omega
  clear hbig
  go_enter Tryd.func11, Tryd.ntmps11
  go_wp2_with fail
  refine (HF.out).mono ?_
  rintro e w1 ⟨rfl, hb⟩
  have HB := hide hb
  clear hb HF
  go_wp2_with fail
  refine (NH.out _).mono ?_
  rintro e wq ⟨rfl, hw⟩
  have hw := hw.symm
  subst hw
  go_wp2_with fail
  refine (NW.out _).mono ?_
  rintro e wq ⟨rfl, hw⟩
  have hw := hw.symm
  subst hw
  have m1 := HM1.out
  have m2 := HM2.out
  have m3 := HM3.out
  have m4 := HM4.out
  go_wp2_with fail
  refine (NK.out _).mono ?_
  rintro e wq ⟨rfl, hw⟩
  have hw := hw.symm
  subst hw
  clear m1 m2 m3 m4 HM1 HM2 HM3 HM4
  rw [EH.out, EV.out]
  go_wp2_with fail
  refine (NS.out _).mono ?_
  rintro e wq ⟨rfl, hw⟩
  have hw := hw.symm
  subst hw
  go_wp2_with fail
  refine (NP.out _).mono ?_
  rintro e wq ⟨rfl, hw⟩
  have hw := hw.symm
  subst hw
  obtain ⟨T1, hT1⟩ : ∃ x, Hid (H * V * 2 = x) := ⟨_, hide rfl⟩
  obtain ⟨T2, hT2⟩ : ∃ x, Hid (K * K * 2 * 2 = x) := ⟨_, hide rfl⟩
  have hT1b : Hid (T1 ≤ 98) := hide (by rw [← hT1.out]; exact Nat.mul_le_mul (Nat.mul_le_mul BH.out.2 BV.out.2) (Nat.le_refl 2))
  have hT2b : Hid (T2 ≤ 196) := hide (by have h1 : K ≤ 7 := Nat.le_trans BK.out.2.1 BH.out.2; rw [← hT2.out]; exact Nat.mul_le_mul (Nat.mul_le_mul (Nat.mul_le_mul h1 h1) (Nat.le_refl 2)) (Nat.le_refl 2))
  have HS1 : Hid (Shp.elems [(H : Int), (V : Int), ((2 : Nat) : Int)] = (T1 : Int)) := hide (by have := BH.out; have := BV.out; have h9 := hT1b.out; rw [← hT1.out] at h9 ⊢; exact Cv.elems3 H V 2 (by omega) (by omega) (by omega) (by omega))
  have HS2 : Hid (Shp.elems [(K : Int), (K : Int), ((2 : Nat) : Int), ((2 : Nat) : Int)] = (T2 : Int)) := hide (by have := BH.out; have := BK.out; have h9 := hT2b.out; rw [← hT2.out] at h9 ⊢; exact Cv.elems4 K K 2 2 (by omega) (by omega) (by omega) (by omega) (by omega))
  obtain ⟨w2, hw2⟩ : ∃ W, W = w1.alloc (.cells #[.int .i64 H, .int .i64 V, .int .i64 2] 3) := ⟨_, rfl⟩
  have hbA : Below w1.heap.size w1 w2 := by rw [hw2]; exact (Below.refl _ _).alloc (Nat.le_refl _) _
  have SA : Hid (Has w2 w1.heap.size 3 [.int .i64 H, .int .i64 V, .int .i64 2]) := hide (by rw [hw2]; exact Has.new _ _ _)
  replace HB := hide (HB.out.trans (hbA.mono HB.out.size))
  have Hw2 := hide hw2
  clear hw2 hbA
  go_wp2_with fail
  rw [← Hw2.out]
  clear Hw2
  rw [EK.out, ES.out]
  refine (cvtensor_good [(H : Int), (V : Int), ((2 : Nat) : Int)] 3 rfl (some ⟨w1.heap.size, 0, none⟩) 3 T1 l ln hln.out A cap _ HS1.out (by have := hT1b.out; omega) (SA.out.ri (zs := [(H : Int), (V : Int), ((2 : Nat) : Int)]) (fun q hq => by simp at hq; have := BH.out; have := BV.out; rcases hq with rfl | rfl | rfl <;> exact wf_i64 _ (by omega))) (by simp) (HL.out _ HB.out)).mono ?_
  rintro e w3 ⟨⟨a, rfl, ha, hai⟩, hb⟩
  replace HB := hide (HB.out.trans (hb.mono HB.out.size))
  replace SA := hide (SA.out.below hb SA.out.lt)
  clear hb
  clear SA
  have Ta := hide ha
  have Ia := hide hai
  clear ha hai
  obtain ⟨w3b, hw3b⟩ : ∃ W, W = w3.alloc (.cells #[.slice a.P a.zs.length a.cap, .bool a.u, .slice a.D a.ds.length a.dcap] 26) := ⟨_, rfl⟩
  have hbA : Below w3.heap.size w3 w3b := by rw [hw3b]; exact (Below.refl _ _).alloc (Nat.le_refl _) _
  have Ba : Hid (Has w3b w3.heap.size 26 [.slice a.P a.zs.length a.cap, .bool a.u, .slice a.D a.ds.length a.dcap]) := hide (by rw [hw3b]; exact Has.new _ _ _)
  replace HB := hide (HB.out.trans (hbA.mono HB.out.size))
  replace Ta := hide (Ta.out.below hbA)
  have Hw3b := hide hw3b
  clear hw3b hbA
  obtain ⟨w4, hw4⟩ : ∃ W, W = w3b.alloc (.cells #[.int .i64 K, .int .i64 K, .int .i64 2, .int .i64 2] 3) := ⟨_, rfl⟩
  have hbA : Below w3b.heap.size w3b w4 := by rw [hw4]; exact (Below.refl _ _).alloc (Nat.le_refl _) _
  have SB : Hid (Has w4 (w3.heap.size + 1) 3 [.int .i64 K, .int .i64 K, .int .i64 2, .int .i64 2]) := hide (by rw [hw4]; exact box_at _ _ _ _ (by rw [Hw3b.out]; simp))
  replace HB := hide (HB.out.trans (hbA.mono HB.out.size))
  replace Ta := hide (Ta.out.below hbA)
  replace Ba := hide (Ba.out.below hbA Ba.out.lt)
  have Hw4 := hide hw4
  clear hw4 hbA
  go_wp2_with fail
  rw [← Hw3b.out]
  rw [← Hw4.out]
  clear Hw3b Hw4
  refine (HO.out _ HB.out (by omega)).mono ?_
  rintro e wi ⟨⟨v, rfl, hown, hv0⟩, hb⟩
  have hown2 := hide (hown.alloc (.cells #[.int .i64 3] 3))
  have hB3 := hide (hb.alloc hb.size (.cells #[.int .i64 3] 3))
  have hr3 := hide (new_ri wi 3 [3] (by decide))
  have hs3 := hide hB3.out.size
  have hn3 := hide (show ln + 1 ≤ 1000000000000 by omega)
  clear hown hb hv0
  go_wp2_with (at_builtin; refine wpList_append_is rfl (.tmp 60) (.tmp 61) rfl w4.heap.size _ ln (i64s l) rfl hown2.out (some ⟨wi.heap.size, 0, none⟩) 1 1 [3] rfl (hide rfl) hr3.out hn3.out hs3.out ?_)
  intro v4 w5 o1 o2 o3
  have hb : Below w4.heap.size w4 w5 := elm_grown hB3.out hown2.out hB3.out.size o2
  replace HB := hide (HB.out.trans (hb.mono HB.out.size))
  replace Ta := hide (Ta.out.below hb)
  replace Ba := hide (Ba.out.below hb Ba.out.lt)
  replace SB := hide (SB.out.below hb SB.out.lt)
  have o4 : w5.ownsRow w4.heap.size 3 1 v4 (ln + 1) (i64s (l ++ [3])) := by simpa [i64s] using o1
  have hvn : v4 ≠ .slice none 0 0 := by
    rintro rfl
    have h := o4.2
    rcases h with ⟨-, h⟩ | ⟨g, c, cur, h, -⟩
    · omega
    · cases h
  obtain ⟨g4, c4, r4, rfl, hl4, -, -, -, hA4⟩ := own_has o4 hvn
  have hR4 := hide (hA4.ri_app (fun q hq => by
    rcases List.mem_append.1 hq with h | h
    · exact (HL.out _ HB.out).1 q h
    · simp at h
      subst h
      decide))
  have HL4 := hide hl4
  clear hb o1 o2 o3 o4 hvn hl4 hA4 hown2 hB3 hr3 hs3 hn3
  go_wp2_with fail
  refine (cvtensor_good [(K : Int), (K : Int), ((2 : Nat) : Int), ((2 : Nat) : Int)] 4 rfl (some ⟨w3.heap.size + 1, 0, none⟩) 4 T2 (l ++ [3]) (ln + 1) HL4.out (some ⟨g4, 0, none⟩) c4 _ HS2.out (by have := hT2b.out; omega) (SB.out.ri (fun q hq => by simp at hq; have := BK.out; have := BH.out; rcases hq with rfl | rfl <;> exact wf_i64 _ (by omega))) (by simp) hR4.out).mono ?_
  rintro e w6 ⟨⟨r, rfl, hr_, hri⟩, hb⟩
  replace HB := hide (HB.out.trans (hb.mono HB.out.size))
  replace Ta := hide (Ta.out.below hb)
  replace Ba := hide (Ba.out.below hb Ba.out.lt)
  replace SB := hide (SB.out.below hb SB.out.lt)
  clear hb
  clear HL4 hR4 HO SB HL
  have hr := hr_
  clear hr_
  have Tr := hide hr
  have Ir := hide hri
  clear hr hri
  have c_Ba0 := Ba.out.cell 0
  have c_Ba1 := Ba.out.cell 1
  have c_Ba2 := Ba.out.cell 2
  have l_Ba := Ba.out.lt
  obtain ⟨w6b, hw6b⟩ : ∃ W, W = w6.alloc (.cells #[.slice r.P r.zs.length r.cap, .bool r.u, .slice r.D r.ds.length r.dcap] 26) := ⟨_, rfl⟩
  have hbA : Below w6.heap.size w6 w6b := by rw [hw6b]; exact (Below.refl _ _).alloc (Nat.le_refl _) _
  have Br : Hid (Has w6b w6.heap.size 26 [.slice r.P r.zs.length r.cap, .bool r.u, .slice r.D r.ds.length r.dcap]) := hide (by rw [hw6b]; exact Has.new _ _ _)
  replace HB := hide (HB.out.trans (hbA.mono HB.out.size))
  replace Ta := hide (Ta.out.below hbA)
  replace Ba := hide (Ba.out.below hbA Ba.out.lt)
  replace Tr := hide (Tr.out.below hbA)
  have Hw6b := hide hw6b
  clear hw6b hbA
  obtain ⟨w7, hw7⟩ : ∃ W, W = w6b.alloc (.cells #[.int .i64 1, .int .i64 p, .int .i64 1] 3) := ⟨_, rfl⟩
  have hbA : Below w6b.heap.size w6b w7 := by rw [hw7]; exact (Below.refl _ _).alloc (Nat.le_refl _) _
  have SQ : Hid (Has w7 (w6.heap.size + 1) 3 [.int .i64 1, .int .i64 p, .int .i64 1]) := hide (by rw [hw7]; exact box_at _ _ _ _ (by rw [Hw6b.out]; simp))
  replace HB := hide (HB.out.trans (hbA.mono HB.out.size))
  replace Ta := hide (Ta.out.below hbA)
  replace Ba := hide (Ba.out.below hbA Ba.out.lt)
  replace Tr := hide (Tr.out.below hbA)
  replace Br := hide (Br.out.below hbA Br.out.lt)
  have Hw7 := hide hw7
  clear hw7 hbA
  go_wp2_with fail
  rw [← Hw6b.out]
  rw [← Hw7.out]
  clear Hw6b Hw7 c_Ba0 c_Ba1 c_Ba2 l_Ba
  obtain ⟨hf, hsh, hds⟩ := Cv.lawful H V 2 K K 2 1 p 1 (by rw [hT1.out]; exact Ia.out) (by rw [hT2.out]; exact Ir.out) (by have := BH.out; omega) (by have := BV.out; omega) (by omega) (by have := BK.out; have := BH.out; omega) (by have := BK.out; have := BH.out; omega) (by omega) (by have := Bs.out; omega) (by have := Bp.out; omega) (by decide) (by rw [hT2.out]; have := hT2b.out; omega)
  have HSH := hide hsh
  have HDS := hide hds
  have HFt := hide hf
  clear hsh hds hf
  refine (cv_good [((1 : Nat) : Int), (p : Int), 1] (some ⟨w6.heap.size + 1, 0, none⟩) 3 a r ah am ar _ HFt.out (SQ.out.ri (zs := [((1 : Nat) : Int), (p : Int), 1]) (fun q hq => by simp at hq; have := Bs.out; have := Bp.out; rcases hq with rfl | rfl | rfl <;> exact wf_i64 _ (by omega))) (by simp) Ta.out Tr.out (HE.out _ HB.out)).mono ?_
  rintro e w8 ⟨⟨t, rfl, ht, htz, -, htd, -⟩, hb⟩
  replace HB := hide (HB.out.trans (hb.mono HB.out.size))
  replace Ta := hide (Ta.out.below hb)
  replace Ba := hide (Ba.out.below hb Ba.out.lt)
  replace Tr := hide (Tr.out.below hb)
  replace Br := hide (Br.out.below hb Br.out.lt)
  replace SQ := hide (SQ.out.below hb SQ.out.lt)
  clear hb
  clear SQ
  rw [HSH.out] at htz
  rw [HDS.out] at htd
  have Zt := hide htz
  have Dt := hide htd
  have Et := hide HDS.out
  clear htz htd HSH HDS
  have Tt := hide ht
  clear ht
  have c_Ba0 := Ba.out.cell 0
  have c_Ba1 := Ba.out.cell 1
  have c_Ba2 := Ba.out.cell 2
  have l_Ba := Ba.out.lt
  have c_Br0 := Br.out.cell 0
  have c_Br1 := Br.out.cell 1
  have c_Br2 := Br.out.cell 2
  have l_Br := Br.out.lt
  obtain ⟨w8b, hw8b⟩ : ∃ W, W = w8.alloc (.cells #[.slice t.P t.zs.length t.cap, .bool t.u, .slice t.D t.ds.length t.dcap] 26) := ⟨_, rfl⟩
  have hbA : Below w8.heap.size w8 w8b := by rw [hw8b]; exact (Below.refl _ _).alloc (Nat.le_refl _) _
  have Bt : Hid (Has w8b w8.heap.size 26 [.slice t.P t.zs.length t.cap, .bool t.u, .slice t.D t.ds.length t.dcap]) := hide (by rw [hw8b]; exact Has.new _ _ _)
  replace HB := hide (HB.out.trans (hbA.mono HB.out.size))
  replace Ta := hide (Ta.out.below hbA)
  replace Ba := hide (Ba.out.below hbA Ba.out.lt)
  replace Tr := hide (Tr.out.below hbA)
  replace Br := hide (Br.out.below hbA Br.out.lt)
  replace Tt := hide (Tt.out.below hbA)
  have Hw8b := hide hw8b
  clear hw8b hbA
  obtain ⟨w9, hw9⟩ : ∃ W, W = w8b.alloc (.cells #[.int .i64 s, .int .i64 p, .int .i64 1] 3) := ⟨_, rfl⟩
  have hbA : Below w8b.heap.size w8b w9 := by rw [hw9]; exact (Below.refl _ _).alloc (Nat.le_refl _) _
  have SQ : Hid (Has w9 (w8.heap.size + 1) 3 [.int .i64 s, .int .i64 p, .int .i64 1]) := hide (by rw [hw9]; exact box_at _ _ _ _ (by rw [Hw8b.out]; simp))
  replace HB := hide (HB.out.trans (hbA.mono HB.out.size))
  replace Ta := hide (Ta.out.below hbA)
  replace Ba := hide (Ba.out.below hbA Ba.out.lt)
  replace Tr := hide (Tr.out.below hbA)
  replace Br := hide (Br.out.below hbA Br.out.lt)
  replace Tt := hide (Tt.out.below hbA)
  replace Bt := hide (Bt.out.below hbA Bt.out.lt)
  have Hw9 := hide hw9
  clear hw9 hbA
  go_wp2_with fail
  rw [← Hw8b.out]
  rw [← Hw9.out]
  clear Hw8b Hw9 c_Ba0 c_Ba1 c_Ba2 l_Ba c_Br0 c_Br1 c_Br2 l_Br
  obtain ⟨hf, hsh, hds⟩ := Cv.lawful H V 2 K K 2 s p 1 (by rw [hT1.out]; exact Ia.out) (by rw [hT2.out]; exact Ir.out) (by have := BH.out; omega) (by have := BV.out; omega) (by omega) (by have := BK.out; have := BH.out; omega) (by have := BK.out; have := BH.out; omega) (by omega) (by have := Bs.out; omega) (by have := Bp.out; omega) (by decide) (by rw [hT2.out]; have := hT2b.out; omega)
  have HSH := hide hsh
  have HDS := hide hds
  have HFu := hide hf
  clear hsh hds hf
  refine (cv_good [((s : Nat) : Int), (p : Int), 1] (some ⟨w8.heap.size + 1, 0, none⟩) 3 a r ah am ar _ HFu.out (SQ.out.ri (zs := [((s : Nat) : Int), (p : Int), 1]) (fun q hq => by simp at hq; have := Bs.out; have := Bp.out; rcases hq with rfl | rfl | rfl <;> exact wf_i64 _ (by omega))) (by simp) Ta.out Tr.out (HE.out _ HB.out)).mono ?_
  rintro e w10 ⟨⟨u, rfl, hu, huz, -, hud, -⟩, hb⟩
  replace HB := hide (HB.out.trans (hb.mono HB.out.size))
  replace Ta := hide (Ta.out.below hb)
  replace Ba := hide (Ba.out.below hb Ba.out.lt)
  replace Tr := hide (Tr.out.below hb)
  replace Br := hide (Br.out.below hb Br.out.lt)
  replace Tt := hide (Tt.out.below hb)
  replace Bt := hide (Bt.out.below hb Bt.out.lt)
  replace SQ := hide (SQ.out.below hb SQ.out.lt)
  clear hb
  clear SQ
  rw [HSH.out] at huz
  rw [HDS.out] at hud
  have Zu := hide huz
  have Du := hide hud
  have Eu := hide HDS.out
  clear huz hud HSH HDS
  have Tu := hide hu
  clear hu
  obtain ⟨hk, hhk⟩ : ∃ n, Hid (H + 2 * p - K = n) := ⟨_, hide rfl⟩
  obtain ⟨vk, hvk⟩ : ∃ n, Hid (V + 2 * p - K = n) := ⟨_, hide rfl⟩
  obtain ⟨O1, hO1⟩ : ∃ n, Hid (hk + 1 = n) := ⟨_, hide rfl⟩
  obtain ⟨W1, hW1⟩ : ∃ n, Hid (vk + 1 = n) := ⟨_, hide rfl⟩
  obtain ⟨qh, hqh⟩ : ∃ n, Hid (hk / s = n) := ⟨_, hide rfl⟩
  obtain ⟨qw, hqw⟩ : ∃ n, Hid (vk / s = n) := ⟨_, hide rfl⟩
  obtain ⟨OH, hOH⟩ : ∃ n, Hid (qh + 1 = n) := ⟨_, hide rfl⟩
  obtain ⟨OW, hOW⟩ : ∃ n, Hid (qw + 1 = n) := ⟨_, hide rfl⟩
  obtain ⟨nt, hnt⟩ : ∃ n, Hid (O1 * W1 * 2 = n) := ⟨_, hide rfl⟩
  obtain ⟨nu, hnu⟩ : ∃ n, Hid (OH * OW * 2 = n) := ⟨_, hide rfl⟩
  have e1 : (Cv.mk H V 2 K K 2 1 p 1).oh = O1 := by show (H + 2 * p - K) / 1 + 1 = O1; rw [Nat.div_one, hhk.out, hO1.out]
  have e2 : (Cv.mk H V 2 K K 2 1 p 1).ow = W1 := by show (V + 2 * p - K) / 1 + 1 = W1; rw [Nat.div_one, hvk.out, hW1.out]
  have e3 : (Cv.mk H V 2 K K 2 s p 1).oh = OH := by show (H + 2 * p - K) / s + 1 = OH; rw [hhk.out, hqh.out, hOH.out]
  have e4 : (Cv.mk H V 2 K K 2 s p 1).ow = OW := by show (V + 2 * p - K) / s + 1 = OW; rw [hvk.out, hqw.out, hOW.out]
  have HW1 := hide e2
  have HW2 := hide e4
  have Bk : Hid (hk ≤ 10 ∧ vk ≤ 10 ∧ 1 ≤ OW ∧ OW ≤ 11 ∧ OH ≤ 11 ∧ O1 ≤ 11 ∧ W1 ≤ 11) := hide (by
    have h1 : hk ≤ 10 := by have := hhk.out; have := BH.out; have := BK.out; have := Bp.out; omega
    have h2 : vk ≤ 10 := by have := hvk.out; have := BV.out; have := BK.out; have := Bp.out; omega
    have h3 := Nat.div_le_self hk s
    have h4 := Nat.div_le_self vk s
    rw [hqh.out] at h3
    rw [hqw.out] at h4
    have := hO1.out
    have := hW1.out
    have := hOH.out
    have := hOW.out
    omega)
  have Bn : Hid (nt ≤ 242 ∧ nu ≤ 242) := hide ⟨by rw [← hnt.out]; exact Nat.mul_le_mul (Nat.mul_le_mul Bk.out.2.2.2.2.2.1 Bk.out.2.2.2.2.2.2) (Nat.le_refl 2), by rw [← hnu.out]; exact Nat.mul_le_mul (Nat.mul_le_mul Bk.out.2.2.2.2.1 Bk.out.2.2.2.1) (Nat.le_refl 2)⟩
  rw [e1, e2] at Zt Dt
  rw [e3, e4] at Zu Du
  rw [e3, e4] at Eu
  rw [hnt.out] at Dt
  rw [hnu.out] at Du Eu
  have Hlt : Hid (t.ds.length = nt) := hide (by rw [Dt.out, Cv.part_length])
  have Hlu : Hid (u.ds.length = nu) := hide (by rw [Du.out, Cv.part_length])
  have Hnu0 : Hid (1 ≤ nu) := hide (by have h1 := Nat.mul_le_mul (Nat.mul_le_mul (show 1 ≤ OH by have := hOH.out; omega) Bk.out.2.2.1) (show 1 ≤ 2 by omega); rw [hnu.out] at h1; exact h1)
  have Hnt0 : Hid (1 ≤ nt) := hide (by have h1 := Nat.mul_le_mul (Nat.mul_le_mul (show 1 ≤ O1 by have := hO1.out; omega) (show 1 ≤ W1 by have := hW1.out; omega)) (show 1 ≤ 2 by omega); rw [hnt.out] at h1; exact h1)
  clear e1 e2 e3 e4
  obtain ⟨w10b, hw10b⟩ : ∃ W, W = w10.alloc (.cells #[.slice u.P u.zs.length u.cap, .bool u.u, .slice u.D u.ds.length u.dcap] 26) := ⟨_, rfl⟩
  have hbA : Below w10.heap.size w10 w10b := by rw [hw10b]; exact (Below.refl _ _).alloc (Nat.le_refl _) _
  have Bu : Hid (Has w10b w10.heap.size 26 [.slice u.P u.zs.length u.cap, .bool u.u, .slice u.D u.ds.length u.dcap]) := hide (by rw [hw10b]; exact Has.new _ _ _)
  replace HB := hide (HB.out.trans (hbA.mono HB.out.size))
  replace Ta := hide (Ta.out.below hbA)
  replace Ba := hide (Ba.out.below hbA Ba.out.lt)
  replace Tr := hide (Tr.out.below hbA)
  replace Br := hide (Br.out.below hbA Br.out.lt)
  replace Tt := hide (Tt.out.below hbA)
  replace Bt := hide (Bt.out.below hbA Bt.out.lt)
  replace Tu := hide (Tu.out.below hbA)
  have Hw10b := hide hw10b
  clear hw10b hbA
  go_wp2_with fail
  rw [← Hw10b.out]
  clear Hw10b
  have hrt := Tt.out.shp
  rw [Zt.out] at hrt
  obtain ⟨pt, e1, Ptl, c0, c1, -⟩ := ri_three hrt
  obtain ⟨dt, e2, Dtl, Dtc⟩ := ri_row Tt.out.dat (by intro h; have h1 := Hlt.out; rw [h] at h1; have := Hnt0.out; simp at h1; omega)
  have Bt0 : Hid (Has w10b w8.heap.size 26 [.slice (some pt) 3 t.cap, .bool t.u, .slice (some dt) nt t.dcap]) := hide (by have h := Bt.out; rw [e1, e2, Hlt.out, Zt.out] at h; exact h)
  have Pt0 := hide c0
  have Pt1 := hide c1
  have Ct := hide Dtc
  have PtL := hide Ptl
  have DtL := hide Dtl
  clear c0 c1 Dtc Ptl Dtl hrt
  have ht1 := hide e1
  have ht2 := hide e2
  clear e1 e2
  have hru := Tu.out.shp
  rw [Zu.out] at hru
  obtain ⟨pu, e1, Pul, c0, c1, -⟩ := ri_three hru
  obtain ⟨du, e2, Dul, Duc⟩ := ri_row Tu.out.dat (by intro h; have h1 := Hlu.out; rw [h] at h1; have := Hnu0.out; simp at h1; omega)
  have Bu0 : Hid (Has w10b w10.heap.size 26 [.slice (some pu) 3 u.cap, .bool u.u, .slice (some du) nu u.dcap]) := hide (by have h := Bu.out; rw [e1, e2, Hlu.out, Zu.out] at h; exact h)
  have Pu0 := hide c0
  have Pu1 := hide c1
  have Cu := hide Duc
  have PuL := hide Pul
  have DuL := hide Dul
  clear c0 c1 Duc Pul Dul hru
  have hu1 := hide e1
  have hu2 := hide e2
  clear e1 e2
  go_loopg [20, 21, 22] nu (fun gq k _ _ wr => ∃ i : Nat, gq + i = nu ∧ k = .int .i64 i ∧ Hid (Below w10b.heap.size w10b wr))
  case atStart => exact ⟨0, by omega, rfl, hide (Below.refl _ _)⟩
  case round =>
    obtain ⟨i, hi9, rfl, HR⟩ := hrel
    have hRs := hide HR.out.size
    have y_u0 := (Bu0.out.below HR.out Bu0.out.lt).cell 0
    have y_u2 := (Bu0.out.below HR.out Bu0.out.lt).cell 2
    have y_t0 := (Bt0.out.below HR.out Bt0.out.lt).cell 0
    by_cases hlt : i < nu
    case neg =>
      obtain rfl : nu = i := by omega
      have hii : ¬ (nu : Int) < (nu : Int) := by omega
      have y_p0 := (HR.out.cell PuL.out).trans Pu0.out
      have y_q0 := (HR.out.cell PtL.out).trans Pt0.out
      have b1 := Bs.out
      have b2 := Bk.out
      have hsz : ¬ ((s : Int) = 0) := by omega
      have hsz2 : ¬ s = 0 := by omega
      have f1 : Hid (wrap64 ((O1 : Int) - 1) = (hk : Int)) := hide (by rw [show (O1 : Int) - 1 = (hk : Int) by have := hO1.out; omega]; exact Cv.small _ (by omega) (by omega))
      have f2 : Hid ((hk : Int) / (s : Int) = (qh : Int)) := hide (by rw [← hqh.out]; exact (Int.natCast_ediv hk s).symm)
      have f3 : Hid ((hk : Int).tdiv (s : Int) = (qh : Int)) := hide (by rw [Int.tdiv_eq_ediv_of_nonneg (by omega)]; exact f2.out)
      have g1 := Nat.div_le_self hk s
      rw [hqh.out] at g1
      have f4 : Hid (wrap64 (qh : Int) = (qh : Int)) := hide (Cv.small _ (by omega) (by omega))
      have f5 : Hid (wrap64 ((qh : Int) + 1) = (OH : Int)) := hide (by rw [show (qh : Int) + 1 = (OH : Int) by have := hOH.out; omega]; exact Cv.small _ (by omega) (by omega))
      have HBr := hide (HB.out.trans (HR.out.mono HB.out.size))
      clear b1 b2 g1
      have h1 := f1.out
      have h2 := f2.out
      have h3 := f3.out
      have h4 := f4.out
      have h5 := f5.out
      go_wp2_with fail
      go_region
      go_wp2_with fail
      go_ret
      exact ⟨rfl, HBr.out.drew⟩
    case pos =>
      have hii : (i : Int) < (nu : Int) := by omega
      have hi0 : (0 : Int) ≤ (i : Int) := by omega
      have hi242 : (i : Int) ≤ 242 := by have := Bn.out; omega
      obtain ⟨i2, hi2⟩ : ∃ q_, Hid (i / 2 = q_) := ⟨_, hide rfl⟩
      obtain ⟨b, hb⟩ : ∃ q_, Hid (i2 % OW = q_) := ⟨_, hide rfl⟩
      obtain ⟨c, hc⟩ : ∃ q_, Hid (i2 / OW = q_) := ⟨_, hide rfl⟩
      obtain ⟨e, he⟩ : ∃ q_, Hid (i % 2 = q_) := ⟨_, hide rfl⟩
      obtain ⟨x, hx⟩ : ∃ q_, Hid (b * s = q_) := ⟨_, hide rfl⟩
      obtain ⟨y, hy⟩ : ∃ q_, Hid (c * s = q_) := ⟨_, hide rfl⟩
      obtain ⟨m, hm⟩ : ∃ q_, Hid (y * W1 = q_) := ⟨_, hide rfl⟩
      obtain ⟨n, hn⟩ : ∃ q_, Hid (m + x = q_) := ⟨_, hide rfl⟩
      obtain ⟨n2, hn2⟩ : ∃ q_, Hid (n * 2 = q_) := ⟨_, hide rfl⟩
      obtain ⟨d, hd⟩ : ∃ q_, Hid (n2 + e = q_) := ⟨_, hide rfl⟩
      have Ki : Hid (i2 ≤ 121 ∧ e ≤ 1) := hide (by have h1 := hi2.out; have h2 := he.out; omega)
      have Kb : Hid (b + 1 ≤ OW ∧ c + 1 ≤ OH) := hide (by
        have h1 : i2 % OW < OW := Nat.mod_lt _ Bk.out.2.2.1
        have h2 : i2 / OW < OH := Nat.div_lt_of_lt_mul (by have h3 := hnu.out; have h4 := hi2.out; rw [Nat.mul_comm OW OH]; omega)
        rw [hb.out] at h1
        rw [hc.out] at h2
        exact ⟨h1, h2⟩)
      have Kx : Hid (x < W1 ∧ y < O1) := hide (by
        have h1 : b * s ≤ qw * s := Nat.mul_le_mul_right s (by have := Kb.out; have := hOW.out; omega)
        have h2 : c * s ≤ qh * s := Nat.mul_le_mul_right s (by have := Kb.out; have := hOH.out; omega)
        have h3 : vk / s * s ≤ vk := Nat.div_mul_le_self vk s
        have h4 : hk / s * s ≤ hk := Nat.div_mul_le_self hk s
        rw [hqw.out] at h3
        rw [hqh.out] at h4
        rw [hx.out] at h1
        rw [hy.out] at h2
        have := hW1.out
        have := hO1.out
        omega)
      have Kd : Hid (d < nt ∧ m ≤ 121 ∧ n ≤ 121 ∧ n2 ≤ 242) := hide (by
        have h1 := Nat.mul_le_mul_right W1 (Nat.succ_le_of_lt Kx.out.2)
        rw [Nat.succ_mul, hm.out] at h1
        have h2 := hnt.out
        have h3 := hn.out
        have h4 := hn2.out
        have h5 := hd.out
        have h6 := Kx.out
        have h7 := Ki.out
        have h8 := Bn.out
        have h9 : O1 * W1 = O1 * W1 := rfl
        generalize O1 * W1 = q at h1 h2
        omega)
      have D1 : Hid ((i : Int) / 2 = (i2 : Int)) := hide (by have h1 := hi2.out; omega)
      have B1 : Hid ((i2 : Int) % (OW : Int) = (b : Int)) := hide (by rw [← hb.out]; exact (Int.natCast_emod i2 OW).symm)
      have C1 : Hid ((i2 : Int) / (OW : Int) = (c : Int)) := hide (by rw [← hc.out]; exact (Int.natCast_ediv i2 OW).symm)
      have X1 : Hid (wrap64 ((b : Int) * (s : Int)) = (x : Int)) := hide (by rw [← Int.natCast_mul, hx.out]; exact Cv.small _ (by omega) (by have := Kx.out; have := Bk.out; omega))
      have Y1 : Hid (wrap64 ((c : Int) * (s : Int)) = (y : Int)) := hide (by rw [← Int.natCast_mul, hy.out]; exact Cv.small _ (by omega) (by have := Kx.out; have := Bk.out; omega))
      have M1 : Hid (IntKind.i64.wrap ((y : Int) * (W1 : Int)) = (m : Int)) := hide (by rw [← Int.natCast_mul, hm.out]; exact Cv.smallk _ (by omega) (by have := Kd.out; omega))
      have N1 : Hid (IntKind.i64.wrap ((m : Int) + (x : Int)) = (n : Int)) := hide (by rw [show (m : Int) + (x : Int) = (n : Int) by have := hn.out; omega]; exact Cv.smallk _ (by omega) (by have := Kd.out; omega))
      have N2 : Hid (IntKind.i64.wrap ((n : Int) * 2) = (n2 : Int)) := hide (by rw [show (n : Int) * 2 = (n2 : Int) by have := hn2.out; omega]; exact Cv.smallk _ (by omega) (by have := Kd.out; omega))
      have E1 : Hid ((i : Int) % 2 = (e : Int)) := hide (by have h1 := he.out; omega)
      have E2 : Hid ((i : Int).tmod 2 = (e : Int)) := hide (by rw [Int.tmod_eq_emod_of_nonneg hi0]; exact E1.out)
      have N3 : Hid (IntKind.i64.wrap ((n2 : Int) + (e : Int)) = (d : Int)) := hide (by rw [show (n2 : Int) + (e : Int) = (d : Int) by have := hd.out; omega]; exact Cv.smallk _ (by omega) (by have := Kd.out; have := Bn.out; omega))
      obtain ⟨v, hv⟩ : ∃ v, u.ds[i]? = some v := ⟨_, List.getElem?_eq_getElem (by rw [Hlu.out]; exact hlt)⟩
      have hw : t.ds[d]? = some v := by
        have h := Cv.stride_at H V K p s 1 a.ds r.ds i c b e W1 nu nt HW1.out hlt (by rw [HW2.out, hi2.out]; exact hc.out) (by rw [HW2.out, hi2.out]; exact hb.out) he.out (by rw [hx.out]; exact Kx.out.1) (by rw [hy.out, hm.out, hx.out, hn.out, hn2.out, hd.out]; exact Kd.out.1)
        rw [hy.out, hm.out, hx.out, hn.out, hn2.out, hd.out, ← Dt.out, ← Du.out] at h
        rw [h]
        exact hv
      have hcv : Cv.cell [(s : Int), (p : Int), 1] a r (i : Int) = v := by
        unfold Cv.cell
        rw [if_pos HFu.out, if_pos hi0, Eu.out, ← Du.out, Int.toNat_natCast, List.getD_eq_getElem?_getD, hv]
        rfl
      have y_p1 := (HR.out.cell (p := ⟨pu.block, pu.off + 1, none⟩) PuL.out).trans Pu1.out
      have hnz : ¬ ((OW : Int) = 0) := by have := Bk.out; omega
      have hnz2 : ¬ OW = 0 := by have := Bk.out; omega
      have HV := hide hv
      have HWv := hide hw
      have HCV := hide hcv
      clear hv hw hcv
      go_wp2_with fail
      rw [D1.out, B1.out, C1.out, X1.out, Y1.out]
      clear y_p1 y_u0 y_u2 y_t0 hnz hnz2
      have hv := HV.out
      have hw := HWv.out
      have hcv := HCV.out
      have k0 := (Bu0.out.below HR.out Bu0.out.lt).cell 2
      have l0 : (⟨w10.heap.size, 2, none⟩ : Addr).block < wr.heap.size := Nat.lt_of_lt_of_le Bu0.out.lt hRs.out
      have k1 := (HR.out.cell (p := du.add i) (by rw [elm_block]; exact DuL.out)).trans (Cu.out _ _ hv)
      have l1 : ((du.add i) : Addr).block < wr.heap.size := Nat.lt_of_lt_of_le (by rw [elm_block]; exact DuL.out) hRs.out
      have k2 := (Bt0.out.below HR.out Bt0.out.lt).cell 2
      have l2 : (⟨w8.heap.size, 2, none⟩ : Addr).block < wr.heap.size := Nat.lt_of_lt_of_le Bt0.out.lt hRs.out
      have k3 := (Bt0.out.below HR.out Bt0.out.lt).cell 0
      have l3 : (⟨w8.heap.size, 0, none⟩ : Addr).block < wr.heap.size := Nat.lt_of_lt_of_le Bt0.out.lt hRs.out
      have k4 := (HR.out.cell (p := ⟨pt.block, pt.off + 1, none⟩) PtL.out).trans Pt1.out
      have l4 : (⟨pt.block, pt.off + 1, none⟩ : Addr).block < wr.heap.size := Nat.lt_of_lt_of_le PtL.out hRs.out
      have k5 := (HR.out.cell (p := dt.add d) (by rw [elm_block]; exact DtL.out)).trans (Ct.out _ _ hw)
      have l5 : ((dt.add d) : Addr).block < wr.heap.size := Nat.lt_of_lt_of_le (by rw [elm_block]; exact DtL.out) hRs.out
      have k6 := (Ba.out.below HR.out Ba.out.lt).cell 0
      have l6 : (⟨w3.heap.size, 0, none⟩ : Addr).block < wr.heap.size := Nat.lt_of_lt_of_le Ba.out.lt hRs.out
      have k7 := (Ba.out.below HR.out Ba.out.lt).cell 1
      have l7 : (⟨w3.heap.size, 1, none⟩ : Addr).block < wr.heap.size := Nat.lt_of_lt_of_le Ba.out.lt hRs.out
      have k8 := (Ba.out.below HR.out Ba.out.lt).cell 2
      have l8 : (⟨w3.heap.size, 2, none⟩ : Addr).block < wr.heap.size := Nat.lt_of_lt_of_le Ba.out.lt hRs.out
      have k9 := (Br.out.below HR.out Br.out.lt).cell 0
      have l9 : (⟨w6.heap.size, 0, none⟩ : Addr).block < wr.heap.size := Nat.lt_of_lt_of_le Br.out.lt hRs.out
      have k10 := (Br.out.below HR.out Br.out.lt).cell 1
      have l10 : (⟨w6.heap.size, 1, none⟩ : Addr).block < wr.heap.size := Nat.lt_of_lt_of_le Br.out.lt hRs.out
      have k11 := (Br.out.below HR.out Br.out.lt).cell 2
      have l11 : (⟨w6.heap.size, 2, none⟩ : Addr).block < wr.heap.size := Nat.lt_of_lt_of_le Br.out.lt hRs.out
      have hS00 : StS wr ⟨w10.heap.size, 2, none⟩ (du.add i) ⟨w8.heap.size, 2, none⟩ ⟨w8.heap.size, 0, none⟩ ⟨pt.block, pt.off + 1, none⟩ (dt.add d) ⟨w3.heap.size, 0, none⟩ ⟨w3.heap.size, 1, none⟩ ⟨w3.heap.size, 2, none⟩ ⟨w6.heap.size, 0, none⟩ ⟨w6.heap.size, 1, none⟩ ⟨w6.heap.size, 2, none⟩ (.slice (some du) nu u.dcap) (.int .i64 v) (.slice (some dt) nt t.dcap) (.slice (some pt) 3 t.cap) (.int .i64 W1) (.int .i64 v) (.slice a.P a.zs.length a.cap) (.bool a.u) (.slice a.D a.ds.length a.dcap) (.slice r.P r.zs.length r.cap) (.bool r.u) (.slice r.D r.ds.length r.dcap) wr := ⟨k0, k1, k2, k3, k4, k5, k6, k7, k8, k9, k10, k11, hide (Below.refl _ _)⟩
      have hS0 : StS wr ⟨w10.heap.size, 2, none⟩ (du.add i) ⟨w8.heap.size, 2, none⟩ ⟨w8.heap.size, 0, none⟩ ⟨pt.block, pt.off + 1, none⟩ (dt.add d) ⟨w3.heap.size, 0, none⟩ ⟨w3.heap.size, 1, none⟩ ⟨w3.heap.size, 2, none⟩ ⟨w6.heap.size, 0, none⟩ ⟨w6.heap.size, 1, none⟩ ⟨w6.heap.size, 2, none⟩ (.slice (some du) nu u.dcap) (.int .i64 v) (.slice (some dt) nt t.dcap) (.slice (some pt) 3 t.cap) (.int .i64 W1) (.int .i64 v) (.slice a.P a.zs.length a.cap) (.bool a.u) (.slice a.D a.ds.length a.dcap) (.slice r.P r.zs.length r.cap) (.bool r.u) (.slice r.D r.ds.length r.dcap) wr.drew := ⟨k0, k1, k2, k3, k4, k5, k6, k7, k8, k9, k10, k11, hide (Below.refl _ _).drew⟩
      have hBq : Below wr.heap.size wr (wr.alloc (.cells #[.int .i64 s, .int .i64 p, .int .i64 1] 3)) := (Below.refl _ _).alloc (Nat.le_refl _) _
      have hS1 : StS wr ⟨w10.heap.size, 2, none⟩ (du.add i) ⟨w8.heap.size, 2, none⟩ ⟨w8.heap.size, 0, none⟩ ⟨pt.block, pt.off + 1, none⟩ (dt.add d) ⟨w3.heap.size, 0, none⟩ ⟨w3.heap.size, 1, none⟩ ⟨w3.heap.size, 2, none⟩ ⟨w6.heap.size, 0, none⟩ ⟨w6.heap.size, 1, none⟩ ⟨w6.heap.size, 2, none⟩ (.slice (some du) nu u.dcap) (.int .i64 v) (.slice (some dt) nt t.dcap) (.slice (some pt) 3 t.cap) (.int .i64 W1) (.int .i64 v) (.slice a.P a.zs.length a.cap) (.bool a.u) (.slice a.D a.ds.length a.dcap) (.slice r.P r.zs.length r.cap) (.bool r.u) (.slice r.D r.ds.length r.dcap) (wr.alloc (.cells #[.int .i64 s, .int .i64 p, .int .i64 1] 3)).drew := StS.keep hS00 l0 l1 l2 l3 l4 l5 l6 l7 l8 l9 l10 l11 hBq.drew
      have hRq : Hid (Ri (wr.alloc (.cells #[.int .i64 s, .int .i64 p, .int .i64 1] 3)).drew (some ⟨wr.heap.size, 0, none⟩) [(s : Int), (p : Int), 1]) := hide (((Has.new wr 3 (i64s [(s : Int), (p : Int), 1])).drewN 1).ri (fun q hq => by simp at hq; have := Bs.out; have := Bp.out; rcases hq with rfl | rfl | rfl <;> exact wf_i64 _ (by omega)))
      have HC : Hid (∀ W, Below wr.heap.size wr W → Ri W (some ⟨wr.heap.size, 0, none⟩) [(s : Int), (p : Int), 1] → Calls Tryd.prog 37 #[.agg #[.slice a.P a.zs.length a.cap, .bool a.u, .slice a.D a.ds.length a.dcap], .agg #[.slice r.P r.zs.length r.cap, .bool r.u, .slice r.D r.ds.length r.dcap], .int .i64 i, .slice (some ⟨wr.heap.size, 0, none⟩) 3 3] W fun e w' => e = .returned (.int .i64 v) ∧ Below W.heap.size W w') := hide (fun W hb hq => by
        have h := cvcell_c [(s : Int), (p : Int), 1] (some ⟨wr.heap.size, 0, none⟩) 3 a r (i : Int) ah am ar W hq (by simp) ((Ta.out.below HR.out).below (hb.mono (Nat.le_refl _))) ((Tr.out.below HR.out).below (hb.mono (Nat.le_refl _))) (by omega) (HE.out _ ((HB.out.trans (HR.out.mono HB.out.size)).trans (hb.mono (by have := HB.out.size; have := hRs.out; omega))))
        rw [hcv] at h
        exact h)
      have hd0 : (0 : Int) ≤ (d : Int) := by omega
      have hd1 : (d : Int) < (nt : Int) := by have := Kd.out; omega
      clear hS00 hv hw hcv
      have o_M1 := M1.out
      have o_N1 := N1.out
      have o_N2 := N2.out
      have o_N3 := N3.out
      have o_E1 := E1.out
      have o_E2 := E2.out
      go_region_held3 (fun W => W.cell? ⟨w10.heap.size, 2, none⟩ = some (.slice (some du) nu u.dcap) ∧ W.cell? (du.add i) = some (.int .i64 v) ∧ W.cell? ⟨w8.heap.size, 2, none⟩ = some (.slice (some dt) nt t.dcap) ∧ W.cell? ⟨w8.heap.size, 0, none⟩ = some (.slice (some pt) 3 t.cap) ∧ W.cell? ⟨pt.block, pt.off + 1, none⟩ = some (.int .i64 W1) ∧ W.cell? (dt.add d) = some (.int .i64 v) ∧ W.cell? ⟨w3.heap.size, 0, none⟩ = some (.slice a.P a.zs.length a.cap) ∧ W.cell? ⟨w3.heap.size, 1, none⟩ = some (.bool a.u) ∧ W.cell? ⟨w3.heap.size, 2, none⟩ = some (.slice a.D a.ds.length a.dcap) ∧ W.cell? ⟨w6.heap.size, 0, none⟩ = some (.slice r.P r.zs.length r.cap) ∧ W.cell? ⟨w6.heap.size, 1, none⟩ = some (.bool r.u) ∧ W.cell? ⟨w6.heap.size, 2, none⟩ = some (.slice r.D r.ds.length r.dcap) ∧ Hid (Below wr.heap.size wr W))
        (first | exact hS0 | exact hS1 | exact hS2 | assumption)
        (first | (go_at_call 37; (with_reducible refine (HC.out (wr.alloc (.cells #[.int .i64 s, .int .i64 p, .int .i64 1] 3)).drew hBq.drew hRq.out).mono ?_); rintro e Wc ⟨rfl, hb⟩; have hBc : Below wr.heap.size wr Wc := hBq.drew.trans (hb.mono (by simp)); have hS2 : StS wr ⟨w10.heap.size, 2, none⟩ (du.add i) ⟨w8.heap.size, 2, none⟩ ⟨w8.heap.size, 0, none⟩ ⟨pt.block, pt.off + 1, none⟩ (dt.add d) ⟨w3.heap.size, 0, none⟩ ⟨w3.heap.size, 1, none⟩ ⟨w3.heap.size, 2, none⟩ ⟨w6.heap.size, 0, none⟩ ⟨w6.heap.size, 1, none⟩ ⟨w6.heap.size, 2, none⟩ (.slice (some du) nu u.dcap) (.int .i64 v) (.slice (some dt) nt t.dcap) (.slice (some pt) 3 t.cap) (.int .i64 W1) (.int .i64 v) (.slice a.P a.zs.length a.cap) (.bool a.u) (.slice a.D a.ds.length a.dcap) (.slice r.P r.zs.length r.cap) (.bool r.u) (.slice r.D r.ds.length r.dcap) Wc := StS.keep hS1 l0 l1 l2 l3 l4 l5 l6 l7 l8 l9 l10 l11 hb))
      clear o_M1 o_N1 o_N2 o_N3 o_E1 o_E2
      go_wp2_with fail
      go_roundg (nu - (i + 1))
      case measure => omega
      case rel => exact ⟨i + 1, by omega, by go_num, hide (HR.out.trans (hBc.mono HR.out.size))⟩
end Go.Proofs.YtkehdgjdieemkaaDoor
