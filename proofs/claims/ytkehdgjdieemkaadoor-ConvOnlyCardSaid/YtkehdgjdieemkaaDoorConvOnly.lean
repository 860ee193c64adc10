/-
  The law ConvOnly, walked. By an AI agent. No person has read it.
-/
import Derived.Test.YtkehdgjdieemkaaDoorMatE
import Derived.Test.YtkehdgjdieemkaaDoorCnvD
import Derived.Test.YtkehdgjdieemkaaDoorCnvG
namespace Go.Proofs.YtkehdgjdieemkaaDoor
open Go.RowKit

theorem Cv.small (z : Int) (h1 : 0 ≤ z) (h2 : z ≤ 1000000) : wrap64 z = z := by
  unfold wrap64
  omega
theorem Cv.small2 (z : Int) (h1 : -1000000 ≤ z) (h2 : z ≤ 1000000) : wrap64 z = z := by
  unfold wrap64
  omega
theorem Cv.mulb (a b : Int) (h1 : 0 ≤ a) (h2 : a ≤ 1000) (h3 : -128 ≤ b) (h4 : b ≤ 127) : -1000000 ≤ a * b ∧ a * b ≤ 1000000 := by
  have e1 : a * (-128) ≤ a * b := Int.mul_le_mul_of_nonneg_left h3 h1
  have e2 : a * b ≤ a * 127 := Int.mul_le_mul_of_nonneg_left h4 h1
  omega
/-- The one place's numbers, by place. -/
theorem Cv.only_at (H V y x : Nat) (v : Int) (hx : x < V) (hq : y * V + x < H * V) (Y X : Nat) (hY : Y < H) (hX : X < V) : ((List.replicate (H * V) (0 : Int)).set (y * V + x) v).getD (Y * V + X) 0 = if Y = y ∧ X = x then v else 0 := by
  have hl : Y * V + X < H * V := by
    have h := Nat.mul_le_mul_right V hY
    rw [Nat.succ_mul] at h
    omega
  rw [List.getD_eq_getElem?_getD, List.getElem?_set]
  by_cases e : y * V + x = Y * V + X
  · have e1 : y = Y := by
      have h1 : (y * V + x) / V = y := by rw [Nat.add_comm, Nat.add_mul_div_right _ _ (by omega), Nat.div_eq_of_lt hx, Nat.zero_add]
      have h2 : (Y * V + X) / V = Y := by rw [Nat.add_comm, Nat.add_mul_div_right _ _ (by omega), Nat.div_eq_of_lt hX, Nat.zero_add]
      rw [← h1, ← h2, e]
    subst e1
    rw [if_pos e, if_pos (by rw [List.length_replicate]; exact hq), if_pos ⟨rfl, by omega⟩]
    rfl
  · rw [if_neg e, if_neg (fun h => e (by rw [h.1, h.2])), List.getElem?_replicate, if_pos hl]
    rfl
set_option maxRecDepth 100000 in
set_option maxHeartbeats 1600000 in

theorem cvonlylaw_c (h w0 k y x v : Int) (l : List Int) (A : Option Addr) (cap : Nat) (ah am ar : Addr) (w : World) (hr : Ri w A l) (hE : E3 w ah am ar) :
    Calls Tryd.prog 12 #[.int .i64 h, .int .i64 w0, .int .i64 k, .int .i64 y, .int .i64 x, .int .i64 v, .slice A l.length cap] w fun e w' => e = .returned (.bool true) ∧ Below w.heap.size w w' := by
  have HF := hide (first9_c ah am ar w hE)
  have HE := hide (fun W (hb : Below w.heap.size w W) => hE.below hb)
  have HL := hide (fun W (hb : Below w.heap.size w W) => hr.below hb)
  have HO := hide (fun W (hb : Below w.heap.size w W) (h : l.length ≤ 1000000) => refints_o l A cap W (hr.below hb) h)
  obtain ⟨h1, hh0, hh1, NH⟩ := number_n h 6 (by decide) (by decide) 6 rfl
  obtain ⟨g1, hg0, hg1, NW⟩ := number_n w0 6 (by decide) (by decide) 6 rfl
  obtain ⟨H, hH⟩ : ∃ M, Hid (h1.toNat + 1 = M) := ⟨_, hide rfl⟩
  obtain ⟨V, hV⟩ : ∃ M, Hid (g1.toNat + 1 = M) := ⟨_, hide rfl⟩
  have EH : Hid (h1 + 1 = (H : Int)) := hide (by rw [← hH.out]; omega)
  have EV : Hid (g1 + 1 = (V : Int)) := hide (by rw [← hV.out]; omega)
  have BH : Hid (1 ≤ H ∧ H ≤ 6) := hide (by rw [← hH.out]; omega)
  have BV : Hid (1 ≤ V ∧ V ≤ 6) := hide (by rw [← hV.out]; omega)
  obtain ⟨mn, hmn⟩ : ∃ M, Hid (min H V = M) := ⟨_, hide rfl⟩
  have Bm : Hid (1 ≤ mn ∧ mn ≤ H ∧ mn ≤ V) := hide (by have := BH.out; have := BV.out; have := hmn.out; omega)
  have M1 : (if g1 < h1 then g1 + 1 else h1 + 1) = (mn : Int) := by have := EH.out; have := EV.out; have := hmn.out; split <;> omega
  have M2 : (if h1 < g1 then h1 + 1 else g1 + 1) = (mn : Int) := by have := EH.out; have := EV.out; have := hmn.out; split <;> omega
  have M3 : (if g1 + 1 < h1 + 1 then g1 + 1 else h1 + 1) = (mn : Int) := by have := EH.out; have := EV.out; have := hmn.out; split <;> omega
  have M4 : (if h1 + 1 < g1 + 1 then h1 + 1 else g1 + 1) = (mn : Int) := by have := EH.out; have := EV.out; have := hmn.out; split <;> omega
  have HM1 := hide M1
  have HM2 := hide M2
  have HM3 := hide M3
  have HM4 := hide M4
  clear M1 M2 M3 M4
  obtain ⟨k1, hk0, hk1, NK⟩ := number_n k mn (by have := Bm.out; omega) (by have := Bm.out; have := BH.out; omega) mn rfl
  obtain ⟨K, hK⟩ : ∃ M, Hid (k1.toNat + 1 = M) := ⟨_, hide rfl⟩
  have EK : Hid (k1 + 1 = (K : Int)) := hide (by rw [← hK.out]; omega)
  have BK : Hid (1 ≤ K ∧ K ≤ H ∧ K ≤ V) := hide (by rw [← hK.out]; have := Bm.out; omega)
  have hk6 : k1 ≤ 5 := by have := Bm.out; have := BH.out; omega
  obtain ⟨y1, hy0, hy1, NY⟩ := number_n y H BH.out.1 (by have := BH.out; omega) H rfl
  obtain ⟨x1, hx0, hx1, NX⟩ := number_n x V BV.out.1 (by have := BV.out; omega) V rfl
  obtain ⟨v1, hv0, hv1, NV⟩ := number_n v 100 (by decide) (by decide) 100 rfl
  obtain ⟨yn, rfl⟩ : ∃ n : Nat, y1 = n := ⟨y1.toNat, by omega⟩
  obtain ⟨xn, rfl⟩ : ∃ n : Nat, x1 = n := ⟨x1.toNat, by omega⟩
  have By : Hid (yn < H) := hide (by omega)
  have Bx : Hid (xn < V) := hide (by omega)
  clear hy0 hx0 hy1 hx1 hk1
  obtain ⟨ln, hln⟩ : ∃ n, Hid (l.length = n) := ⟨_, hide rfl⟩
  rw [hln.out] at HO ⊢
  clear hr hE
  by_cases hbig : 30 < ln
  case pos =>
    have hb2 : (30 : Int) < ln := by omega
    clear hbig

    go_enter Tryd.func12, Tryd.ntmps12
    go_wp2_with fail
    refine (HF.out).mono ?_
    rintro e w1 ⟨rfl, hb⟩
    have HB := hide hb
    clear hb HF
    go_wp2_with fail
    go_ret
    exact ⟨rfl, HB.out⟩

  case neg =>
  have hn30 : (ln : Int) ≤ 30 := by omega
  clear hbig
  go_enter Tryd.func12, Tryd.ntmps12
  go_wp2_with fail
  refine (HF.out).mono ?_
  rintro e w1 ⟨rfl, hb⟩
  have HB := hide hb
  clear hb HF
  go_wp2_with fail
  refine (NH.out _).mono ?_
  rintro e wq ⟨rfl, hw⟩
  have hw := hw.symm
  subst hw
  go_wp2_with fail
  refine (NW.out _).mono ?_
  rintro e wq ⟨rfl, hw⟩
  have hw := hw.symm
  subst hw
  have m1 := HM1.out
  have m2 := HM2.out
  have m3 := HM3.out
  have m4 := HM4.out
  go_wp2_with fail
  refine (NK.out _).mono ?_
  rintro e wq ⟨rfl, hw⟩
  have hw := hw.symm
  subst hw
  clear m1 m2 m3 m4 HM1 HM2 HM3 HM4
  rw [EH.out, EV.out]
  go_wp2_with fail
  refine (NY.out _).mono ?_
  rintro e wq ⟨rfl, hw⟩
  have hw := hw.symm
  subst hw
  go_wp2_with fail
  refine (NX.out _).mono ?_
  rintro e wq ⟨rfl, hw⟩
  have hw := hw.symm
  subst hw
  go_wp2_with fail
  refine (NV.out _).mono ?_
  rintro e wq ⟨rfl, hw⟩
  have hw := hw.symm
  subst hw
  obtain ⟨T1, hT1⟩ : ∃ x, Hid (H * V * 1 = x) := ⟨_, hide rfl⟩
  obtain ⟨T2, hT2⟩ : ∃ x, Hid (K * K * 1 * 1 = x) := ⟨_, hide rfl⟩
  have hT1b : Hid (T1 ≤ 36) := hide (by rw [← hT1.out]; exact Nat.mul_le_mul (Nat.mul_le_mul BH.out.2 BV.out.2) (Nat.le_refl 1))
  have hT2b : Hid (T2 ≤ 36) := hide (by have h1 : K ≤ 6 := Nat.le_trans BK.out.2.1 BH.out.2; rw [← hT2.out]; exact Nat.mul_le_mul (Nat.mul_le_mul (Nat.mul_le_mul h1 h1) (Nat.le_refl 1)) (Nat.le_refl 1))
  have HS1 : Hid (Shp.elems [(H : Int), (V : Int), ((1 : Nat) : Int)] = (T1 : Int)) := hide (by have := BH.out; have := BV.out; have h9 := hT1b.out; rw [← hT1.out] at h9 ⊢; exact Cv.elems3 H V 1 (by omega) (by omega) (by omega) (by omega))
  have HS2 : Hid (Shp.elems [(K : Int), (K : Int), ((1 : Nat) : Int), ((1 : Nat) : Int)] = (T2 : Int)) := hide (by have := BH.out; have := BK.out; have h9 := hT2b.out; rw [← hT2.out] at h9 ⊢; exact Cv.elems4 K K 1 1 (by omega) (by omega) (by omega) (by omega) (by omega))
  have SA1 := HB.out.size
  obtain ⟨w2, hw2⟩ : ∃ W, W = w1.alloc (.cells #[.int .i64 H, .int .i64 V, .int .i64 1] 3) := ⟨_, rfl⟩
  have hbA : Below w1.heap.size w1 w2 := by rw [hw2]; exact (Below.refl _ _).alloc (Nat.le_refl _) _
  have SA : Hid (Has w2 w1.heap.size 3 [.int .i64 H, .int .i64 V, .int .i64 1]) := hide (by rw [hw2]; exact Has.new _ _ _)
  replace HB := hide (HB.out.trans (hbA.mono HB.out.size))
  have Hw2 := hide hw2
  clear hw2 hbA
  go_wp2_with fail
  rw [← Hw2.out]
  clear Hw2
  have SAl : w1.heap.size < w2.heap.size := SA.out.lt
  rw [EK.out]
  refine (cvtensor_c [(H : Int), (V : Int), ((1 : Nat) : Int)] (some ⟨w1.heap.size, 0, none⟩) 3 T1 [] none 0 _ HS1.out (by have := hT1b.out; omega) (SA.out.ri (zs := [(H : Int), (V : Int), ((1 : Nat) : Int)]) (fun q hq => by simp at hq; have := BH.out; have := BV.out; rcases hq with rfl | rfl | rfl <;> exact wf_i64 _ (by omega))) (by simp) (Ri.nil _ _)).mono ?_
  rintro e w3 ⟨⟨g, ds, rfl, hg, hG, hL, -, hZ⟩, hb⟩
  replace HB := hide (HB.out.trans (hb.mono HB.out.size))
  replace SA := hide (SA.out.below hb SA.out.lt)
  clear hb
  have SAw : w.heap.size ≤ w1.heap.size := SA1
  obtain rfl := hZ rfl
  have G := hide hG
  have hgw := hide hg
  clear hG hL hg hZ
  obtain ⟨q, hq⟩ : ∃ n, Hid (yn * V + xn = n) := ⟨_, hide rfl⟩
  obtain ⟨yv, hyv⟩ : ∃ n, Hid (yn * V = n) := ⟨_, hide rfl⟩
  have hqT : q < T1 := by
    have h1 := Nat.mul_le_mul_right V By.out
    rw [Nat.succ_mul] at h1
    have := Bx.out
    have := hq.out
    rw [← hT1.out, Nat.mul_one]
    omega
  have hqe : yv + xn = q := by rw [← hyv.out]; exact hq.out
  have hqB : (q : Int) < 36 := by have := hT1b.out; omega
  have hyq : (yv : Int) ≤ (q : Int) := by omega
  have hqi : (yv : Int) + (xn : Int) = (q : Int) := by omega
  have Hm1 : Hid (wrap64 ((yn : Int) * (V : Int)) = (yv : Int)) := hide (by
    rw [← Int.natCast_mul, hyv.out]
    exact Cv.small (yv : Int) (by omega) (Int.le_trans hyq (by omega)))
  have Hm2 : Hid (wrap64 ((yv : Int) + (xn : Int)) = (q : Int)) := hide (by rw [hqi]; exact Cv.small (q : Int) (by omega) (by omega))
  have hq0 : (0 : Int) ≤ (q : Int) := by omega
  have hq1 : (q : Int) < (T1 : Int) := by omega
  have gl := G.out.lt
  have gz := G.out.frozen q
  have gq : w3.cell? ⟨g, q, none⟩ = some (.int .i64 0) := by
    rw [G.out.cell]
    unfold i64s
    rw [List.getElem?_map, List.getElem?_replicate, if_pos hqT]
    rfl
  obtain ⟨w4, hw4⟩ : ∃ W, W = ((w3.setCell ⟨g, q, none⟩ (.int .i64 (v1 + 1))).alloc (.cells #[.slice (some ⟨w1.heap.size, 0, none⟩) 3 3, .bool false, .slice (some ⟨g, 0, none⟩) T1 T1] 26)).alloc (.cells #[.int .i64 K, .int .i64 K, .int .i64 1, .int .i64 1] 3) := ⟨_, rfl⟩
  have Ba : Hid (Has w4 w3.heap.size 26 [.slice (some ⟨w1.heap.size, 0, none⟩) 3 3, .bool false, .slice (some ⟨g, 0, none⟩) T1 T1]) := hide (by rw [hw4]; exact (box_at _ 26 [.slice (some ⟨w1.heap.size, 0, none⟩) 3 3, .bool false, .slice (some ⟨g, 0, none⟩) T1 T1] _ (by simp)).alloc _)
  have SB : Hid (Has w4 (w3.heap.size + 1) 3 (i64s [(K : Int), (K : Int), ((1 : Nat) : Int), ((1 : Nat) : Int)])) := hide (by rw [hw4]; exact box_at _ 3 [.int .i64 K, .int .i64 K, .int .i64 1, .int .i64 1] _ (by simp))
  replace SA := hide (show Has w4 w1.heap.size 3 _ by rw [hw4]; exact ((SA.out.far (p := ⟨g, q, none⟩) (by have := hgw.out; have := SAl; show w1.heap.size ≠ g; omega) _).alloc _).alloc _)
  replace G := hide (show Has w4 g 3 (i64s ((List.replicate T1 0).set q (v1 + 1))) by
    rw [hw4]
    have h := ((G.out.set_ q (.int .i64 (v1 + 1))).alloc (.cells #[.slice (some ⟨w1.heap.size, 0, none⟩) 3 3, .bool false, .slice (some ⟨g, 0, none⟩) T1 T1] 26)).alloc (.cells #[.int .i64 K, .int .i64 K, .int .i64 1, .int .i64 1] 3)
    unfold i64s at h ⊢
    rw [List.map_set]
    exact h)
  replace HB := hide (show Below w.heap.size w w4 by
    have h1 := HB.out.size
    have h2 := hgw.out
    rw [hw4]
    exact ((HB.out.setCell (p := ⟨g, q, none⟩) (by show w.heap.size ≤ g; have := SAw; omega) _).alloc (by simp; omega) _).alloc (by simp; omega) _)
  have Hw4 := hide hw4
  clear hw4
  have HQE := hide hqe
  have HQT := hide hqT
  clear hqe hqT SAw SA1 SAl hqB hyq hqi
  have hm1 := Hm1.out
  have hm2 := Hm2.out
  go_wp2_with fail
  rw [← Hw4.out]
  clear Hw4 gl gz gq hm1 hm2
  obtain ⟨ds, hds⟩ : ∃ d, Hid ((List.replicate T1 (0 : Int)).set q (v1 + 1) = d) := ⟨_, hide rfl⟩
  rw [hds.out] at G
  have hdl : Hid (ds.length = T1) := hide (by rw [← hds.out, List.length_set, List.length_replicate])
  refine (HO.out _ HB.out (by omega)).mono ?_
  rintro e wi ⟨⟨v, rfl, hown, hv0⟩, hb⟩
  have hown2 := hide (hown.alloc (.cells #[.int .i64 3] 3))
  have hB3 := hide (hb.alloc hb.size (.cells #[.int .i64 3] 3))
  have hr3 := hide (new_ri wi 3 [3] (by decide))
  have hs3 := hide hB3.out.size
  have hn3 := hide (show ln + 1 ≤ 1000000000000 by omega)
  clear hown hb hv0
  go_wp2_with (at_builtin; refine wpList_append_is rfl (.tmp 73) (.tmp 74) rfl w4.heap.size _ ln (i64s l) rfl hown2.out (some ⟨wi.heap.size, 0, none⟩) 1 1 [3] rfl (hide rfl) hr3.out hn3.out hs3.out ?_)
  intro v4 w5 o1 o2 o3
  have hb : Below w4.heap.size w4 w5 := elm_grown hB3.out hown2.out hB3.out.size o2
  replace HB := hide (HB.out.trans (hb.mono HB.out.size))
  replace SA := hide (SA.out.below hb SA.out.lt)
  replace G := hide (G.out.below hb G.out.lt)
  replace Ba := hide (Ba.out.below hb Ba.out.lt)
  replace SB := hide (SB.out.below hb SB.out.lt)
  have o4 : w5.ownsRow w4.heap.size 3 1 v4 (ln + 1) (i64s (l ++ [3])) := by simpa [i64s] using o1
  have hvn : v4 ≠ .slice none 0 0 := by
    rintro rfl
    have h := o4.2
    rcases h with ⟨-, h⟩ | ⟨g, c, cur, h, -⟩
    · omega
    · cases h
  obtain ⟨g4, c4, r4, rfl, hl4, -, -, -, hA4⟩ := own_has o4 hvn
  have hR4 := hide (hA4.ri_app (fun q hq => by
    rcases List.mem_append.1 hq with h | h
    · exact (HL.out _ HB.out).1 q h
    · simp at h
      subst h
      decide))
  have HL4 := hide hl4
  clear hb o1 o2 o3 o4 hvn hl4 hA4 hown2 hB3 hr3 hs3 hn3
  go_wp2_with fail
  refine (cvtensor_good [(K : Int), (K : Int), ((1 : Nat) : Int), ((1 : Nat) : Int)] 4 rfl (some ⟨w3.heap.size + 1, 0, none⟩) 4 T2 (l ++ [3]) (ln + 1) HL4.out (some ⟨g4, 0, none⟩) c4 _ HS2.out (by have := hT2b.out; omega) (SB.out.ri (fun q hq => by simp at hq; have := BK.out; have := BH.out; rcases hq with rfl | rfl <;> exact wf_i64 _ (by omega))) (by simp) hR4.out).mono ?_
  rintro e w6 ⟨⟨r, rfl, hr_, hri⟩, hb⟩
  replace HB := hide (HB.out.trans (hb.mono HB.out.size))
  replace SA := hide (SA.out.below hb SA.out.lt)
  replace G := hide (G.out.below hb G.out.lt)
  replace Ba := hide (Ba.out.below hb Ba.out.lt)
  replace SB := hide (SB.out.below hb SB.out.lt)
  clear hb
  clear HL4 hR4 HO SB
  have hr := hr_
  clear hr_
  have hds9 : Hid (∀ z ∈ ds, -128 ≤ z ∧ z ≤ 127) := hide (fun z hz => by
    rw [← hds.out] at hz
    rcases List.mem_or_eq_of_mem_set hz with h | h
    · rw [(List.mem_replicate.1 h).2]
      exact ⟨by decide, by decide⟩
    · rw [h]
      exact ⟨by omega, by omega⟩)
  obtain ⟨a, hav⟩ : ∃ a : Ten, Hid (a = ⟨some ⟨w1.heap.size, 0, none⟩, [(H : Int), (V : Int), ((1 : Nat) : Int)], 3, false, some ⟨g, 0, none⟩, ds, T1⟩) := ⟨_, hide rfl⟩
  have Ia : Hid (CvIs a [(H : Int), (V : Int), ((1 : Nat) : Int)] (H * V * 1) 1) := hide (by rw [hav.out]; exact ⟨rfl, rfl, by rw [hT1.out]; exact hdl.out, hds9.out, fun h => by cases h⟩)
  have Ta : Hid (a.In w6) := hide (by rw [hav.out]; exact ⟨SA.out.ri (fun q hq => by simp at hq; have := BH.out; have := BV.out; rcases hq with rfl | rfl | rfl <;> exact wf_i64 _ (by omega)), G.out.ri (fun z hz => wf_i64 _ (by have := hds9.out z hz; omega)), by show 3 ≤ 1000000; omega, by show ds.length ≤ 1000000; rw [hdl.out]; have := hT1b.out; omega⟩)
  replace Ba : Hid (Has w6 w3.heap.size 26 [.slice a.P a.zs.length a.cap, .bool a.u, .slice a.D a.ds.length a.dcap]) := hide (by have h := Ba.out; rw [hav.out]; show Has w6 w3.heap.size 26 [.slice (some ⟨w1.heap.size, 0, none⟩) 3 3, .bool false, .slice (some ⟨g, 0, none⟩) ds.length T1]; rw [hdl.out]; exact h)
  have Da : Hid (a.ds = (List.replicate T1 (0 : Int)).set q (v1 + 1)) := hide (by rw [hav.out]; exact hds.out.symm)
  clear SA G hav hds9
  have Tr := hide hr
  have Ir := hide hri
  clear hr hri
  have c_Ba0 := Ba.out.cell 0
  have c_Ba1 := Ba.out.cell 1
  have c_Ba2 := Ba.out.cell 2
  have l_Ba := Ba.out.lt
  obtain ⟨w6b, hw6b⟩ : ∃ W, W = w6.alloc (.cells #[.slice r.P r.zs.length r.cap, .bool r.u, .slice r.D r.ds.length r.dcap] 26) := ⟨_, rfl⟩
  have hbA : Below w6.heap.size w6 w6b := by rw [hw6b]; exact (Below.refl _ _).alloc (Nat.le_refl _) _
  have Br : Hid (Has w6b w6.heap.size 26 [.slice r.P r.zs.length r.cap, .bool r.u, .slice r.D r.ds.length r.dcap]) := hide (by rw [hw6b]; exact Has.new _ _ _)
  replace HB := hide (HB.out.trans (hbA.mono HB.out.size))
  replace Ba := hide (Ba.out.below hbA Ba.out.lt)
  replace Ta := hide (Ta.out.below hbA)
  replace Tr := hide (Tr.out.below hbA)
  have Hw6b := hide hw6b
  clear hw6b hbA
  obtain ⟨w7, hw7⟩ : ∃ W, W = w6b.alloc (.cells #[.int .i64 1, .int .i64 0, .int .i64 0] 3) := ⟨_, rfl⟩
  have hbA : Below w6b.heap.size w6b w7 := by rw [hw7]; exact (Below.refl _ _).alloc (Nat.le_refl _) _
  have SQ : Hid (Has w7 (w6.heap.size + 1) 3 [.int .i64 1, .int .i64 0, .int .i64 0]) := hide (by rw [hw7]; exact box_at _ _ _ _ (by rw [Hw6b.out]; simp))
  replace HB := hide (HB.out.trans (hbA.mono HB.out.size))
  replace Ba := hide (Ba.out.below hbA Ba.out.lt)
  replace Ta := hide (Ta.out.below hbA)
  replace Tr := hide (Tr.out.below hbA)
  replace Br := hide (Br.out.below hbA Br.out.lt)
  have Hw7 := hide hw7
  clear hw7 hbA
  go_wp2_with fail
  rw [← Hw6b.out]
  rw [← Hw7.out]
  clear Hw6b Hw7 c_Ba0 c_Ba1 c_Ba2 l_Ba
  obtain ⟨hf, hsh, hds2⟩ := Cv.lawful H V 1 K K 1 1 0 0 Ia.out (by rw [hT2.out]; exact Ir.out) (by have := BH.out; omega) (by have := BV.out; omega) (by omega) (by have := BK.out; have := BH.out; omega) (by have := BK.out; have := BH.out; omega) (by omega) (by omega) (by omega) (by omega) (by rw [hT2.out]; have := hT2b.out; omega)
  have HSH := hide hsh
  have HDS := hide hds2
  clear hsh hds2
  refine (cv_good [((1 : Nat) : Int), ((0 : Nat) : Int), 0] (some ⟨w6.heap.size + 1, 0, none⟩) 3 a r ah am ar _ hf (SQ.out.ri (zs := [((1 : Nat) : Int), ((0 : Nat) : Int), 0]) (by decide)) (by simp) Ta.out Tr.out (HE.out _ HB.out)).mono ?_
  rintro e w8 ⟨⟨t, rfl, ht, htz, -, htd, -⟩, hb⟩
  replace HB := hide (HB.out.trans (hb.mono HB.out.size))
  replace Ba := hide (Ba.out.below hb Ba.out.lt)
  replace Ta := hide (Ta.out.below hb)
  replace Tr := hide (Tr.out.below hb)
  replace Br := hide (Br.out.below hb Br.out.lt)
  replace SQ := hide (SQ.out.below hb SQ.out.lt)
  clear hb
  clear SQ hf
  rw [HDS.out] at htd
  have Dt := hide htd
  clear htz htd HSH HDS
  have Tt := hide ht
  clear ht
  obtain ⟨hk, hhk⟩ : ∃ n, Hid (H - K = n) := ⟨_, hide rfl⟩
  obtain ⟨vk, hvk⟩ : ∃ n, Hid (V - K = n) := ⟨_, hide rfl⟩
  obtain ⟨OH, hOH⟩ : ∃ n, Hid (hk + 1 = n) := ⟨_, hide rfl⟩
  obtain ⟨OW, hOW⟩ : ∃ n, Hid (vk + 1 = n) := ⟨_, hide rfl⟩
  obtain ⟨nt, hnt⟩ : ∃ n, Hid (OH * OW = n) := ⟨_, hide rfl⟩
  have eo : (Cv.mk H V 1 K K 1 1 0 0).oh = OH := by show (H + 2 * 0 - K) / 1 + 1 = OH; rw [Nat.div_one, ← hOH.out, ← hhk.out]; rfl
  have ew : (Cv.mk H V 1 K K 1 1 0 0).ow = OW := by show (V + 2 * 0 - K) / 1 + 1 = OW; rw [Nat.div_one, ← hOW.out, ← hvk.out]; rfl
  have HW := hide ew
  have Ht : Hid (t.ds = (Cv.mk H V 1 K K 1 1 0 0).part a.ds r.ds 0 nt) := hide (by rw [Dt.out, eo, ew, Nat.mul_one, hnt.out])
  have hlt : Hid (t.ds.length = nt) := hide (by rw [Ht.out, Cv.part_length])
  have Bo : Hid (OH ≤ 6 ∧ OW ≤ 6 ∧ nt ≤ 36 ∧ 1 ≤ OW ∧ hk ≤ 6 ∧ vk ≤ 6) := hide (by
    have h1 : OH ≤ 6 := by have := BH.out; have := BK.out; have := hhk.out; have := hOH.out; omega
    have h2 : OW ≤ 6 := by have := BV.out; have := BK.out; have := hvk.out; have := hOW.out; omega
    have h3 : nt ≤ 6 * 6 := by rw [← hnt.out]; exact Nat.mul_le_mul h1 h2
    have := hOW.out
    have := hOH.out
    omega)
  have Hn1 : Hid (wrap64 ((H : Int) - (K : Int)) = (hk : Int)) := hide (by rw [show (H : Int) - (K : Int) = (hk : Int) by have := BK.out; have := hhk.out; omega]; exact Cv.small _ (by omega) (by have := Bo.out; omega))
  have Hn2 : Hid (wrap64 ((hk : Int) + 1) = (OH : Int)) := hide (by rw [show (hk : Int) + 1 = (OH : Int) by have := hOH.out; omega]; exact Cv.small _ (by omega) (by have := Bo.out; omega))
  have Hn3 : Hid (wrap64 ((V : Int) - (K : Int)) = (vk : Int)) := hide (by rw [show (V : Int) - (K : Int) = (vk : Int) by have := BK.out; have := hvk.out; omega]; exact Cv.small _ (by omega) (by have := Bo.out; omega))
  have Hn4 : Hid (wrap64 ((vk : Int) + 1) = (OW : Int)) := hide (by rw [show (vk : Int) + 1 = (OW : Int) by have := hOW.out; omega]; exact Cv.small _ (by omega) (by have := Bo.out; omega))
  have Hn5 : Hid (wrap64 ((OH : Int) * (OW : Int)) = (nt : Int)) := hide (by rw [← Int.natCast_mul, hnt.out]; exact Cv.small _ (by omega) (by have := Bo.out; omega))
  have hlt2 := hlt
  rw [hlt2.out]
  clear eo ew Dt hlt
  have n1 := Hn1.out
  have n2 := Hn2.out
  have n3 := Hn3.out
  have n4 := Hn4.out
  have n5 := Hn5.out
  obtain ⟨w8b, hw8b⟩ : ∃ W, W = w8.alloc (.cells #[.slice t.P t.zs.length t.cap, .bool t.u, .slice t.D nt t.dcap] 26) := ⟨_, rfl⟩
  have hbA : Below w8.heap.size w8 w8b := by rw [hw8b]; exact (Below.refl _ _).alloc (Nat.le_refl _) _
  have Bt : Hid (Has w8b w8.heap.size 26 [.slice t.P t.zs.length t.cap, .bool t.u, .slice t.D nt t.dcap]) := hide (by rw [hw8b]; exact Has.new _ _ _)
  replace HB := hide (HB.out.trans (hbA.mono HB.out.size))
  replace Ba := hide (Ba.out.below hbA Ba.out.lt)
  replace Ta := hide (Ta.out.below hbA)
  replace Tr := hide (Tr.out.below hbA)
  replace Br := hide (Br.out.below hbA Br.out.lt)
  replace Tt := hide (Tt.out.below hbA)
  have Hw8b := hide hw8b
  clear hw8b hbA
  go_wp2_with fail
  rw [← Hw8b.out]
  clear Hw8b
  have HLd := hide (show ∀ i, i < nt → t.ds[i]? = some (Tens.wide (if i / OW ≤ yn ∧ i % OW ≤ xn ∧ yn - i / OW < K ∧ xn - i % OW < K then (v1 + 1) * r.ds.getD ((yn - i / OW) * K + (xn - i % OW)) 0 else 0)) from fun i hi => by
    rw [Ht.out, Cv.part_at _ _ _ _ _ _ hi, HW.out]
    show some (Tens.wide ((Cv.mk H V 1 K K 1 1 0 0).el a.ds r.ds ((0 + i) / 1 / OW) ((0 + i) / 1 % OW) ((0 + i) % 1))) = _
    have h1 : i / OW < OH := Nat.div_lt_of_lt_mul (by rw [Nat.mul_comm, hnt.out]; exact hi)
    have h2 : i % OW < OW := Nat.mod_lt _ Bo.out.2.2.2.1
    rw [Nat.zero_add, Nat.div_one, Nat.mod_one, Cv.only_el H V K (v1 + 1) a.ds r.ds yn xn _ _ (by have := hOH.out; have := hhk.out; have := BK.out; omega) (by have := hOW.out; have := hvk.out; have := BK.out; omega) (fun Y X hY hX => by
      rw [Da.out, ← hq.out, ← hT1.out, Nat.mul_one]
      exact Cv.only_at H V yn xn (v1 + 1) Bx.out (by have := HQT.out; rw [hq.out, ← Nat.mul_one (H * V), hT1.out]; exact this) Y X hY hX)])
  rw [n3, n4]
  clear n1 n2 n3 n4 n5
  go_loopg [20, 21, 22, 23] nt (fun gq k _ _ _ wr => ∃ i : Nat, gq + i = nt ∧ k = .int .i64 i ∧ w8b = wr)
  case atStart => exact ⟨0, by omega, rfl, rfl⟩
  case round =>
    obtain ⟨i, hi9, rfl, hwr⟩ := hrel
    subst hwr
    by_cases hlt : i < nt
    case neg =>
      obtain rfl : nt = i := by omega
      have hii : ¬ (nt : Int) < (nt : Int) := by omega
      have c_Bt2 := Bt.out.cell 2
      go_wp2_with fail
      clear c_Bt2
      go_ret
      exact ⟨rfl, HB.out⟩
    case pos =>
      have hii : (i : Int) < (nt : Int) := by omega
      have hi0 : (0 : Int) ≤ (i : Int) := by omega
      have hi36 : (i : Int) ≤ 36 := by have := Bo.out; omega
      obtain ⟨a1, ha1⟩ : ∃ n, Hid (i / OW = n) := ⟨_, hide rfl⟩
      obtain ⟨b1, hb1⟩ : ∃ n, Hid (i % OW = n) := ⟨_, hide rfl⟩
      have hOWn : ¬ OW = 0 := by have := Bo.out; omega
      have Ha1 : Hid ((i : Int) / (OW : Int) = (a1 : Int)) := hide (by rw [← ha1.out]; exact (Int.natCast_ediv i OW).symm)
      have Ha2 : Hid ((i : Int).tdiv (OW : Int) = (a1 : Int)) := hide (by rw [Int.tdiv_eq_ediv_of_nonneg hi0]; exact Ha1.out)
      have Hb1 : Hid ((i : Int) % (OW : Int) = (b1 : Int)) := hide (by rw [← hb1.out]; exact (Int.natCast_emod i OW).symm)
      have Hb2 : Hid ((i : Int).tmod (OW : Int) = (b1 : Int)) := hide (by rw [Int.tmod_eq_emod_of_nonneg hi0]; exact Hb1.out)
      have Hb : Hid (a1 ≤ 36 ∧ b1 ≤ 36 ∧ yn ≤ 6 ∧ xn ≤ 6 ∧ K ≤ 6) := hide (by
        have h1 : a1 ≤ i := by rw [← ha1.out]; exact Nat.div_le_self i OW
        have h2 : b1 ≤ i := by rw [← hb1.out]; exact Nat.mod_le i OW
        have := BH.out
        have := BV.out
        have := BK.out
        have := By.out
        have := Bx.out
        omega)
      obtain ⟨dy, hdy⟩ : ∃ z : Int, Hid ((yn : Int) - (a1 : Int) = z) := ⟨_, hide rfl⟩
      obtain ⟨dx, hdx⟩ : ∃ z : Int, Hid ((xn : Int) - (b1 : Int) = z) := ⟨_, hide rfl⟩
      have hdy1 := hdy
      have hdx1 := hdx
      have Hdy : Hid (wrap64 ((yn : Int) - (a1 : Int)) = dy) := hide (by rw [hdy.out]; have := hdy.out; have := Hb.out; exact Cv.small2 dy (by omega) (by omega))
      have Hdx : Hid (wrap64 ((xn : Int) - (b1 : Int)) = dx) := hide (by rw [hdx.out]; have := hdx.out; have := Hb.out; exact Cv.small2 dx (by omega) (by omega))
      have hl := HLd.out i hlt
      rw [ha1.out, hb1.out] at hl
      obtain ⟨td, tv, tdD, tde, tdc⟩ := ri_at Tt.out.dat i (by rw [hlt2.out]; exact hlt)
      rw [tdD] at Bt
      clear tdD
      have x2 := Bt.out.cell 2
      have HTV := tde
      clear tde
      have Hwa : Hid (wrap64 (a1 : Int) = (a1 : Int)) := hide (Cv.small _ (by omega) (by have := Hb.out; omega))
      have hnz : ¬ ((OW : Int) = 0) := by omega
      by_cases hin : a1 ≤ yn ∧ b1 ≤ xn ∧ yn - a1 < K ∧ xn - b1 < K
      case neg =>
        have htv : tv = 0 := by
          have h := HTV.out.symm.trans hl
          rw [if_neg hin] at h
          exact Option.some.inj h
        subst htv
        have HC : Hid (dy < 0 ∨ (0 ≤ dy ∧ dx < 0) ∨ (0 ≤ dy ∧ 0 ≤ dx ∧ (K : Int) ≤ dy) ∨ (0 ≤ dy ∧ 0 ≤ dx ∧ dy < (K : Int) ∧ (K : Int) ≤ dx)) := hide (by have h1 := hdy1.out; have h2 := hdx1.out; omega)
        clear hl hin HTV HLd
        rcases HC.out with c1 | ⟨c1, c2⟩ | ⟨c1, c2, c3⟩ | ⟨c1, c2, c3, c4⟩
        all_goals clear HC
        case inl =>
          have d1 : ¬ (0 : Int) ≤ dy := by omega
          have ha1 := Ha1.out
          have ha2 := Ha2.out
          have hb1 := Hb1.out
          have hb2 := Hb2.out
          have n3 := Hn3.out
          have n4 := Hn4.out
          have hdy := Hdy.out
          have hdx := Hdx.out
          have hwa := Hwa.out
          go_wp2_with fail
          clear ha1 ha2 hb1 hb2 n3 n4 hdy hdx hwa
          go_roundg (nt - (i + 1))
          case measure => omega
          case rel => exact ⟨i + 1, by omega, by go_num, rfl⟩
        case inr.inl =>
          have d1 : ¬ (0 : Int) ≤ dx := by omega
          have ha1 := Ha1.out
          have ha2 := Ha2.out
          have hb1 := Hb1.out
          have hb2 := Hb2.out
          have n3 := Hn3.out
          have n4 := Hn4.out
          have hdy := Hdy.out
          have hdx := Hdx.out
          have hwa := Hwa.out
          go_wp2_with fail
          clear ha1 ha2 hb1 hb2 n3 n4 hdy hdx hwa
          go_roundg (nt - (i + 1))
          case measure => omega
          case rel => exact ⟨i + 1, by omega, by go_num, rfl⟩
        case inr.inr.inl =>
          have d1 : ¬ dy < (K : Int) := by omega
          have ha1 := Ha1.out
          have ha2 := Ha2.out
          have hb1 := Hb1.out
          have hb2 := Hb2.out
          have n3 := Hn3.out
          have n4 := Hn4.out
          have hdy := Hdy.out
          have hdx := Hdx.out
          have hwa := Hwa.out
          go_wp2_with fail
          clear ha1 ha2 hb1 hb2 n3 n4 hdy hdx hwa
          go_roundg (nt - (i + 1))
          case measure => omega
          case rel => exact ⟨i + 1, by omega, by go_num, rfl⟩
        case inr.inr.inr =>
          have d1 : ¬ dx < (K : Int) := by omega
          have ha1 := Ha1.out
          have ha2 := Ha2.out
          have hb1 := Hb1.out
          have hb2 := Hb2.out
          have n3 := Hn3.out
          have n4 := Hn4.out
          have hdy := Hdy.out
          have hdx := Hdx.out
          have hwa := Hwa.out
          go_wp2_with fail
          clear ha1 ha2 hb1 hb2 n3 n4 hdy hdx hwa
          go_roundg (nt - (i + 1))
          case measure => omega
          case rel => exact ⟨i + 1, by omega, by go_num, rfl⟩
      case pos =>
        obtain ⟨dn, hdn⟩ : ∃ n, Hid (yn - a1 = n) := ⟨_, hide rfl⟩
        obtain ⟨en, hen⟩ : ∃ n, Hid (xn - b1 = n) := ⟨_, hide rfl⟩
        have edy : dy = (dn : Int) := by have h1 := hdy1.out; have h2 := hdn.out; omega
        have edx : dx = (en : Int) := by have h1 := hdx1.out; have h2 := hen.out; omega
        subst edy
        subst edx
        rw [if_pos hin, hdn.out, hen.out] at hl
        have hdK : dn < K := by have h2 := hdn.out; omega
        have heK : en < K := by have h2 := hen.out; omega
        obtain ⟨p, hp⟩ : ∃ n, Hid (dn * K = n) := ⟨_, hide rfl⟩
        obtain ⟨s, hs⟩ : ∃ n, Hid (p + en = n) := ⟨_, hide rfl⟩
        have hsT : s < T2 := by
          have h1 := Nat.mul_le_mul_right K hdK
          rw [Nat.succ_mul] at h1
          have h2 := hs.out
          have h3 := hp.out
          rw [← hT2.out, Nat.mul_one, Nat.mul_one]
          omega
        have hT3 := hT2b.out
        have Hp : Hid (wrap64 ((dn : Int) * (K : Int)) = (p : Int)) := hide (by rw [← Int.natCast_mul, hp.out]; have h2 := hs.out; exact Cv.small _ (by omega) (by omega))
        have Hs : Hid (wrap64 ((p : Int) + (en : Int)) = (s : Int)) := hide (by rw [show (p : Int) + (en : Int) = (s : Int) by have h2 := hs.out; omega]; exact Cv.small _ (by omega) (by omega))
        obtain ⟨rd, rv, rdD, rde, rdc⟩ := ri_at Tr.out.dat s (by rw [Ir.out.len]; exact hsT)
        have hrv := Ir.out.sm rv (List.mem_of_getElem? rde.out)
        obtain ⟨P, hP⟩ : ∃ z, Hid ((v1 + 1) * rv = z) := ⟨_, hide rfl⟩
        have hPb : -1000000 ≤ P ∧ P ≤ 1000000 := by
          rw [← hP.out]
          have h1 := Cv.mulb (v1 + 1) rv (by omega) (by omega) hrv.1 hrv.2
          omega
        have HP : Hid (wrap64 ((v1 + 1) * rv) = P) := hide (by rw [hP.out]; exact Cv.small2 P hPb.1 hPb.2)
        have htv : tv = P := by
          have h := HTV.out.symm.trans hl
          rw [hp.out, hs.out, List.getD_eq_getElem?_getD, rde.out] at h
          have h := Option.some.inj h
          rw [h]
          show Tens.wide ((v1 + 1) * rv) = P
          rw [hP.out]
          unfold Tens.wide
          omega
        subst htv
        have HRL : Hid (r.ds.length = T2) := hide Ir.out.len
        have y2 : w8b.cell? ⟨w6.heap.size, 2, none⟩ = some (.slice (some rd) T2 r.dcap) := by
          have h := Br.out.cell 2
          rw [rdD, HRL.out] at h
          exact h
        clear rdD
        have c1 : (0 : Int) ≤ (dn : Int) := by omega
        have c2 : (0 : Int) ≤ (en : Int) := by omega
        have c3 : (dn : Int) < (K : Int) := by omega
        have c4 : (en : Int) < (K : Int) := by omega
        have hs0 : (0 : Int) ≤ (s : Int) := by omega
        have hs1 : (s : Int) < (T2 : Int) := by omega
        clear hl hin HTV HLd hPb hrv hdK heK hsT hT3
        have hpp := Hp.out
        have hss := Hs.out
        have hPP := HP.out
        have ha1 := Ha1.out
        have ha2 := Ha2.out
        have hb1 := Hb1.out
        have hb2 := Hb2.out
        have n3 := Hn3.out
        have n4 := Hn4.out
        have hdy := Hdy.out
        have hdx := Hdx.out
        have hwa := Hwa.out
        go_wp2_with fail
        clear ha1 ha2 hb1 hb2 n3 n4 hdy hdx hwa hpp hss hPP
        go_roundg (nt - (i + 1))
        case measure => omega
        case rel => exact ⟨i + 1, by omega, by go_num, rfl⟩
end Go.Proofs.YtkehdgjdieemkaaDoor
