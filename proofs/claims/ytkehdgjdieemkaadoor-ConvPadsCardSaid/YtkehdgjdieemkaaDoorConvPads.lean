/-
  The law ConvPads, walked. By an AI agent. No person has read it.
-/
import Derived.Test.YtkehdgjdieemkaaDoorMatE
import Derived.Test.YtkehdgjdieemkaaDoorCnvD
import Derived.Test.YtkehdgjdieemkaaDoorCnvG
namespace Go.Proofs.YtkehdgjdieemkaaDoor
open Go.RowKit

theorem Cv.small (z : Int) (h1 : 0 ≤ z) (h2 : z ≤ 1000000) : wrap64 z = z := by
  unfold wrap64
  omega
theorem Cv.small2 (z : Int) (h1 : -1000000 ≤ z) (h2 : z ≤ 1000000) : wrap64 z = z := by
  unfold wrap64
  omega
/-- What stands at a place, with the zero laid round. -/
def Cv.ring (H V p : Nat) (z : Int) (xs : List Int) (y x : Nat) : Int :=
  if p ≤ y ∧ y < H + p ∧ p ≤ x ∧ x < V + p then xs.getD ((y - p) * V + (x - p)) 0 else z
theorem Cv.pads_part (H V K p : Nat) (za : Int) (xs bs ks : List Int) (n : Nat) (h1 : K ≤ H) (h2 : K ≤ V) (hn : n ≤ (H + 2 * p - K + 1) * (V + 2 * p - K + 1)) (hb : ∀ i, i < (H + 2 * p) * (V + 2 * p) → bs[i]? = some (Cv.ring H V p za xs (i / (V + 2 * p)) (i % (V + 2 * p)))) :
    (Cv.mk H V 1 K K 1 1 p za).part xs ks 0 n = (Cv.mk (H + 2 * p) (V + 2 * p) 1 K K 1 1 0 za).part bs ks 0 n := by
  refine List.ext_getElem? fun i => ?_
  rcases Nat.lt_or_ge i n with h | h
  · have ow1 : (Cv.mk H V 1 K K 1 1 p za).ow = V + 2 * p - K + 1 := by
      show (V + 2 * p - K) / 1 + 1 = _
      rw [Nat.div_one]
    have ow2 : (Cv.mk (H + 2 * p) (V + 2 * p) 1 K K 1 1 0 za).ow = V + 2 * p - K + 1 := by
      show (V + 2 * p + 2 * 0 - K) / 1 + 1 = _
      rw [Nat.div_one]
      omega
    rw [Cv.part_at _ _ _ _ _ _ h, Cv.part_at _ _ _ _ _ _ h, ow1, ow2]
    show some (Tens.wide ((Cv.mk H V 1 K K 1 1 p za).el xs ks ((0 + i) / 1 / _) ((0 + i) / 1 % _) ((0 + i) % 1))) = some (Tens.wide ((Cv.mk (H + 2 * p) (V + 2 * p) 1 K K 1 1 0 za).el bs ks ((0 + i) / 1 / _) ((0 + i) / 1 % _) ((0 + i) % 1)))
    rw [Nat.zero_add, Nat.div_one, Nat.mod_one]
    have e1 : i / (V + 2 * p - K + 1) < H + 2 * p - K + 1 := Nat.div_lt_of_lt_mul (by rw [Nat.mul_comm]; omega)
    have e2 : i % (V + 2 * p - K + 1) < V + 2 * p - K + 1 := Nat.mod_lt _ (by omega)
    rw [Cv.pads_el H V K K p za xs bs ks _ _ _ (by omega) (by omega) (fun Y X hY hX => by
      have hl : Y * (V + 2 * p) + X < (H + 2 * p) * (V + 2 * p) := by
        have h := Nat.mul_le_mul_right (V + 2 * p) hY
        rw [Nat.succ_mul] at h
        omega
      have ed : (Y * (V + 2 * p) + X) / (V + 2 * p) = Y := by rw [Nat.add_comm, Nat.add_mul_div_right _ _ (by omega), Nat.div_eq_of_lt hX, Nat.zero_add]
      have em : (Y * (V + 2 * p) + X) % (V + 2 * p) = X := by rw [Nat.add_comm, Nat.add_mul_mod_self_right, Nat.mod_eq_of_lt hX]
      rw [List.getD_eq_getElem?_getD, hb _ hl, ed, em]
      rfl)]
  · rw [List.getElem?_eq_none (by rw [Cv.part_length]; exact h), List.getElem?_eq_none (by rw [Cv.part_length]; exact h)]
theorem Cv.ring_small {H V p : Nat} {z : Int} {xs : List Int} (hx : Mat.small xs) (hz : -128 ≤ z ∧ z ≤ 127) (y x : Nat) : -128 ≤ Cv.ring H V p z xs y x ∧ Cv.ring H V p z xs y x ≤ 127 := by
  unfold Cv.ring
  split
  · exact Mat.small_get hx _
  · exact hz
/-- One place more. -/
theorem Cv.ring_next {H V p : Nat} {z : Int} {xs ds : List Int} {W2 i T : Nat} {v : Int} (hl : ds.length = T) (hi : i < T) (h : ∀ j, j < i → ds[j]? = some (Cv.ring H V p z xs (j / W2) (j % W2))) (hv : v = Cv.ring H V p z xs (i / W2) (i % W2)) :
    ∀ j, j < i + 1 → (ds.set i v)[j]? = some (Cv.ring H V p z xs (j / W2) (j % W2)) := by
  intro j hj
  rw [List.getElem?_set]
  by_cases e : i = j
  · subst e
    rw [if_pos rfl, if_pos (by rw [hl]; exact hi), hv]
  · rw [if_neg e]
    exact h j (by omega)
set_option maxRecDepth 100000 in
set_option maxHeartbeats 1600000 in

theorem cvpadslaw_c (h w0 k pad : Int) (l : List Int) (A : Option Addr) (cap : Nat) (za : Int) (ah am ar : Addr) (w : World) (hr : Ri w A l) (hE : E3 w ah am ar) :
    Calls Tryd.prog 10 #[.int .i64 h, .int .i64 w0, .int .i64 k, .int .i64 pad, .slice A l.length cap, .int .i64 za] w fun e w' => e = .returned (.bool true) ∧ Below w.heap.size w w' := by
  have HF := hide (first9_c ah am ar w hE)
  have HE := hide (fun W (hb : Below w.heap.size w W) => hE.below hb)
  have HL := hide (fun W (hb : Below w.heap.size w W) => hr.below hb)
  have HO := hide (fun W (hb : Below w.heap.size w W) (h : l.length ≤ 1000000) => refints_o l A cap W (hr.below hb) h)
  obtain ⟨h1, hh0, hh1, NH⟩ := number_n h 5 (by decide) (by decide) 5 rfl
  obtain ⟨g1, hg0, hg1, NW⟩ := number_n w0 5 (by decide) (by decide) 5 rfl
  obtain ⟨H, hH⟩ : ∃ M, Hid (h1.toNat + 1 = M) := ⟨_, hide rfl⟩
  obtain ⟨V, hV⟩ : ∃ M, Hid (g1.toNat + 1 = M) := ⟨_, hide rfl⟩
  have EH : Hid (h1 + 1 = (H : Int)) := hide (by rw [← hH.out]; omega)
  have EV : Hid (g1 + 1 = (V : Int)) := hide (by rw [← hV.out]; omega)
  have BH : Hid (1 ≤ H ∧ H ≤ 5) := hide (by rw [← hH.out]; omega)
  have BV : Hid (1 ≤ V ∧ V ≤ 5) := hide (by rw [← hV.out]; omega)
  obtain ⟨mn, hmn⟩ : ∃ M, Hid (min H V = M) := ⟨_, hide rfl⟩
  have Bm : Hid (1 ≤ mn ∧ mn ≤ H ∧ mn ≤ V) := hide (by have := BH.out; have := BV.out; have := hmn.out; omega)
  have M1 : (if g1 < h1 then g1 + 1 else h1 + 1) = (mn : Int) := by have := EH.out; have := EV.out; have := hmn.out; split <;> omega
  have M2 : (if h1 < g1 then h1 + 1 else g1 + 1) = (mn : Int) := by have := EH.out; have := EV.out; have := hmn.out; split <;> omega
  have M3 : (if g1 + 1 < h1 + 1 then g1 + 1 else h1 + 1) = (mn : Int) := by have := EH.out; have := EV.out; have := hmn.out; split <;> omega
  have M4 : (if h1 + 1 < g1 + 1 then h1 + 1 else g1 + 1) = (mn : Int) := by have := EH.out; have := EV.out; have := hmn.out; split <;> omega
  have HM1 := hide M1
  have HM2 := hide M2
  have HM3 := hide M3
  have HM4 := hide M4
  clear M1 M2 M3 M4
  obtain ⟨k1, hk0, hk1, NK⟩ := number_n k mn (by have := Bm.out; omega) (by have := Bm.out; have := BH.out; omega) mn rfl
  obtain ⟨K, hK⟩ : ∃ M, Hid (k1.toNat + 1 = M) := ⟨_, hide rfl⟩
  have EK : Hid (k1 + 1 = (K : Int)) := hide (by rw [← hK.out]; omega)
  have BK : Hid (1 ≤ K ∧ K ≤ H ∧ K ≤ V) := hide (by rw [← hK.out]; have := Bm.out; omega)
  have hk6 : k1 ≤ 5 := by have := Bm.out; have := BH.out; omega
  obtain ⟨p1, hp0, hp1, NP⟩ := number_n pad 4 (by decide) (by decide) 4 rfl
  obtain ⟨p, rfl⟩ : ∃ n : Nat, p1 = n := ⟨p1.toNat, by omega⟩
  have Bp : Hid (p ≤ 3) := hide (by omega)
  obtain ⟨a1, ha0, ha1, NA⟩ := number_n za 256 (by decide) (by decide) 256 rfl
  obtain ⟨z, hz⟩ : ∃ x : Int, Hid (a1 - 128 = x) := ⟨_, hide rfl⟩
  have Hz : Hid (-128 ≤ z ∧ z ≤ 127) := hide (by have := hz.out; omega)
  obtain ⟨P2, hP2⟩ : ∃ n, Hid (2 * p = n) := ⟨_, hide rfl⟩
  obtain ⟨H2, hH2⟩ : ∃ n, Hid (H + P2 = n) := ⟨_, hide rfl⟩
  obtain ⟨V2, hV2⟩ : ∃ n, Hid (V + P2 = n) := ⟨_, hide rfl⟩
  have B2 : Hid (P2 ≤ 6 ∧ 1 ≤ H2 ∧ H2 ≤ 11 ∧ 1 ≤ V2 ∧ V2 ≤ 11 ∧ H ≤ H2 ∧ V ≤ V2) := hide (by have := BH.out; have := BV.out; have := Bp.out; have := hP2.out; have := hH2.out; have := hV2.out; omega)
  have HW1 : Hid (wrap64 (2 * (p : Int)) = (P2 : Int)) := hide (by rw [show 2 * (p : Int) = (P2 : Int) by rw [← hP2.out]; omega]; exact Cv.small _ (by omega) (by have := B2.out; omega))
  have HW2 : Hid (wrap64 ((H : Int) + (P2 : Int)) = (H2 : Int)) := hide (by rw [show (H : Int) + (P2 : Int) = (H2 : Int) by rw [← hH2.out]; omega]; exact Cv.small _ (by omega) (by have := B2.out; omega))
  have HW3 : Hid (wrap64 ((V : Int) + (P2 : Int)) = (V2 : Int)) := hide (by rw [show (V : Int) + (P2 : Int) = (V2 : Int) by rw [← hV2.out]; omega]; exact Cv.small _ (by omega) (by have := B2.out; omega))
  clear hk1 hp0 hp1
  obtain ⟨ln, hln⟩ : ∃ n, Hid (l.length = n) := ⟨_, hide rfl⟩
  rw [hln.out] at HO ⊢
  clear hr hE
  by_cases hbig : 30 < ln
  case pos =>
    have hb2 : (30 : Int) < ln := by omega
    clear hbig

    go_enter Tryd.func10, Tryd.ntmps10
    go_wp2_with fail
    refine (HF.out).mono ?_
    rintro e w1 ⟨rfl, hb⟩
    have HB := hide hb
    clear hb HF
    go_wp2_with fail
    go_ret
    exact ⟨rfl, HB.out⟩

  case neg =>
  have hn30 : (ln : Int) ≤ 30 := by omega
  clear hbig
  go_enter Tryd.func10, Tryd.ntmps10
  go_wp2_with fail
  refine (HF.out).mono ?_
  rintro e w1 ⟨rfl, hb⟩
  have HB := hide hb
  clear hb HF
  go_wp2_with fail
  refine (NH.out _).mono ?_
  rintro e wq ⟨rfl, hw⟩
  have hw := hw.symm
  subst hw
  go_wp2_with fail
  refine (NW.out _).mono ?_
  rintro e wq ⟨rfl, hw⟩
  have hw := hw.symm
  subst hw
  have m1 := HM1.out
  have m2 := HM2.out
  have m3 := HM3.out
  have m4 := HM4.out
  go_wp2_with fail
  refine (NK.out _).mono ?_
  rintro e wq ⟨rfl, hw⟩
  have hw := hw.symm
  subst hw
  clear m1 m2 m3 m4 HM1 HM2 HM3 HM4
  rw [EH.out, EV.out]
  go_wp2_with fail
  refine (NP.out _).mono ?_
  rintro e wq ⟨rfl, hw⟩
  have hw := hw.symm
  subst hw
  go_wp2_with fail
  refine (NA.out _).mono ?_
  rintro e wq ⟨rfl, hw⟩
  have hw := hw.symm
  subst hw
  obtain ⟨T1, hT1⟩ : ∃ x, Hid (H * V * 1 = x) := ⟨_, hide rfl⟩
  obtain ⟨T2, hT2⟩ : ∃ x, Hid (K * K * 1 * 1 = x) := ⟨_, hide rfl⟩
  obtain ⟨TB, hTB⟩ : ∃ x, Hid (H2 * V2 * 1 = x) := ⟨_, hide rfl⟩
  have hT1b : Hid (T1 ≤ 25) := hide (by rw [← hT1.out]; exact Nat.mul_le_mul (Nat.mul_le_mul BH.out.2 BV.out.2) (Nat.le_refl 1))
  have hT2b : Hid (T2 ≤ 25) := hide (by have h1 : K ≤ 5 := Nat.le_trans BK.out.2.1 BH.out.2; rw [← hT2.out]; exact Nat.mul_le_mul (Nat.mul_le_mul (Nat.mul_le_mul h1 h1) (Nat.le_refl 1)) (Nat.le_refl 1))
  have hTBb : Hid (TB ≤ 121) := hide (by rw [← hTB.out]; exact Nat.mul_le_mul (Nat.mul_le_mul B2.out.2.2.1 B2.out.2.2.2.2.1) (Nat.le_refl 1))
  have HS1 : Hid (Shp.elems [(H : Int), (V : Int), ((1 : Nat) : Int)] = (T1 : Int)) := hide (by have := BH.out; have := BV.out; have h9 := hT1b.out; rw [← hT1.out] at h9 ⊢; exact Cv.elems3 H V 1 (by omega) (by omega) (by omega) (by omega))
  have HSB : Hid (Shp.elems [(H2 : Int), (V2 : Int), ((1 : Nat) : Int)] = (TB : Int)) := hide (by have := B2.out; have h9 := hTBb.out; rw [← hTB.out] at h9 ⊢; exact Cv.elems3 H2 V2 1 (by omega) (by omega) (by omega) (by omega))
  have HS2 : Hid (Shp.elems [(K : Int), (K : Int), ((1 : Nat) : Int), ((1 : Nat) : Int)] = (T2 : Int)) := hide (by have := BH.out; have := BK.out; have h9 := hT2b.out; rw [← hT2.out] at h9 ⊢; exact Cv.elems4 K K 1 1 (by omega) (by omega) (by omega) (by omega) (by omega))
  obtain ⟨w2, hw2⟩ : ∃ W, W = w1.alloc (.cells #[.int .i64 H, .int .i64 V, .int .i64 1] 3) := ⟨_, rfl⟩
  have hbA : Below w1.heap.size w1 w2 := by rw [hw2]; exact (Below.refl _ _).alloc (Nat.le_refl _) _
  have SA : Hid (Has w2 w1.heap.size 3 [.int .i64 H, .int .i64 V, .int .i64 1]) := hide (by rw [hw2]; exact Has.new _ _ _)
  replace HB := hide (HB.out.trans (hbA.mono HB.out.size))
  have Hw2 := hide hw2
  clear hw2 hbA
  go_wp2_with fail
  rw [← Hw2.out]
  clear Hw2
  rw [EK.out, hz.out]
  refine (cvtensor_good [(H : Int), (V : Int), ((1 : Nat) : Int)] 3 rfl (some ⟨w1.heap.size, 0, none⟩) 3 T1 l ln hln.out A cap _ HS1.out (by have := hT1b.out; omega) (SA.out.ri (zs := [(H : Int), (V : Int), ((1 : Nat) : Int)]) (fun q hq => by simp at hq; have := BH.out; have := BV.out; have := B2.out; rcases hq with rfl | rfl | rfl <;> exact wf_i64 _ (by omega))) (by simp) (HL.out _ HB.out)).mono ?_
  rintro e w3 ⟨⟨a, rfl, ha, hai⟩, hb⟩
  replace HB := hide (HB.out.trans (hb.mono HB.out.size))
  replace SA := hide (SA.out.below hb SA.out.lt)
  clear hb
  clear SA
  have Ta := hide ha
  have Ia := hide hai
  clear ha hai
  obtain ⟨w3b, hw3b⟩ : ∃ W, W = w3.alloc (.cells #[.slice a.P a.zs.length a.cap, .bool a.u, .slice a.D a.ds.length a.dcap] 26) := ⟨_, rfl⟩
  have hbA : Below w3.heap.size w3 w3b := by rw [hw3b]; exact (Below.refl _ _).alloc (Nat.le_refl _) _
  have Ba : Hid (Has w3b w3.heap.size 26 [.slice a.P a.zs.length a.cap, .bool a.u, .slice a.D a.ds.length a.dcap]) := hide (by rw [hw3b]; exact Has.new _ _ _)
  replace HB := hide (HB.out.trans (hbA.mono HB.out.size))
  replace Ta := hide (Ta.out.below hbA)
  have Hw3b := hide hw3b
  clear hw3b hbA
  obtain ⟨w4, hw4⟩ : ∃ W, W = w3b.alloc (.cells #[.int .i64 K, .int .i64 K, .int .i64 1, .int .i64 1] 3) := ⟨_, rfl⟩
  have hbA : Below w3b.heap.size w3b w4 := by rw [hw4]; exact (Below.refl _ _).alloc (Nat.le_refl _) _
  have SB : Hid (Has w4 (w3.heap.size + 1) 3 [.int .i64 K, .int .i64 K, .int .i64 1, .int .i64 1]) := hide (by rw [hw4]; exact box_at _ _ _ _ (by rw [Hw3b.out]; simp))
  replace HB := hide (HB.out.trans (hbA.mono HB.out.size))
  replace Ta := hide (Ta.out.below hbA)
  replace Ba := hide (Ba.out.below hbA Ba.out.lt)
  have Hw4 := hide hw4
  clear hw4 hbA
  go_wp2_with fail
  rw [← Hw3b.out]
  rw [← Hw4.out]
  clear Hw3b Hw4
  refine (HO.out _ HB.out (by omega)).mono ?_
  rintro e wi ⟨⟨v, rfl, hown, hv0⟩, hb⟩
  have hown2 := hide (hown.alloc (.cells #[.int .i64 3] 3))
  have hB3 := hide (hb.alloc hb.size (.cells #[.int .i64 3] 3))
  have hr3 := hide (new_ri wi 3 [3] (by decide))
  have hs3 := hide hB3.out.size
  have hn3 := hide (show ln + 1 ≤ 1000000000000 by omega)
  clear hown hb hv0
  go_wp2_with (at_builtin; refine wpList_append_is rfl (.tmp 61) (.tmp 62) rfl w4.heap.size _ ln (i64s l) rfl hown2.out (some ⟨wi.heap.size, 0, none⟩) 1 1 [3] rfl (hide rfl) hr3.out hn3.out hs3.out ?_)
  intro v4 w5 o1 o2 o3
  have hb : Below w4.heap.size w4 w5 := elm_grown hB3.out hown2.out hB3.out.size o2
  replace HB := hide (HB.out.trans (hb.mono HB.out.size))
  replace Ta := hide (Ta.out.below hb)
  replace Ba := hide (Ba.out.below hb Ba.out.lt)
  replace SB := hide (SB.out.below hb SB.out.lt)
  have o4 : w5.ownsRow w4.heap.size 3 1 v4 (ln + 1) (i64s (l ++ [3])) := by simpa [i64s] using o1
  have hvn : v4 ≠ .slice none 0 0 := by
    rintro rfl
    have h := o4.2
    rcases h with ⟨-, h⟩ | ⟨g, c, cur, h, -⟩
    · omega
    · cases h
  obtain ⟨g4, c4, r4, rfl, hl4, -, -, -, hA4⟩ := own_has o4 hvn
  have hR4 := hide (hA4.ri_app (fun q hq => by
    rcases List.mem_append.1 hq with h | h
    · exact (HL.out _ HB.out).1 q h
    · simp at h
      subst h
      decide))
  have HL4 := hide hl4
  clear hb o1 o2 o3 o4 hvn hl4 hA4 hown2 hB3 hr3 hs3 hn3
  go_wp2_with fail
  refine (cvtensor_good [(K : Int), (K : Int), ((1 : Nat) : Int), ((1 : Nat) : Int)] 4 rfl (some ⟨w3.heap.size + 1, 0, none⟩) 4 T2 (l ++ [3]) (ln + 1) HL4.out (some ⟨g4, 0, none⟩) c4 _ HS2.out (by have := hT2b.out; omega) (SB.out.ri (fun q hq => by simp at hq; have := BK.out; have := BH.out; rcases hq with rfl | rfl <;> exact wf_i64 _ (by omega))) (by simp) hR4.out).mono ?_
  rintro e w6 ⟨⟨r, rfl, hr_, hri⟩, hb⟩
  replace HB := hide (HB.out.trans (hb.mono HB.out.size))
  replace Ta := hide (Ta.out.below hb)
  replace Ba := hide (Ba.out.below hb Ba.out.lt)
  replace SB := hide (SB.out.below hb SB.out.lt)
  clear hb
  clear HL4 hR4 HO SB HL
  have hr := hr_
  clear hr_
  have Tr := hide hr
  have Ir := hide hri
  clear hr hri
  have c_Ba0 := Ba.out.cell 0
  have c_Ba1 := Ba.out.cell 1
  have c_Ba2 := Ba.out.cell 2
  have l_Ba := Ba.out.lt
  obtain ⟨w6b, hw6b⟩ : ∃ W, W = w6.alloc (.cells #[.slice r.P r.zs.length r.cap, .bool r.u, .slice r.D r.ds.length r.dcap] 26) := ⟨_, rfl⟩
  have hbA : Below w6.heap.size w6 w6b := by rw [hw6b]; exact (Below.refl _ _).alloc (Nat.le_refl _) _
  have Br : Hid (Has w6b w6.heap.size 26 [.slice r.P r.zs.length r.cap, .bool r.u, .slice r.D r.ds.length r.dcap]) := hide (by rw [hw6b]; exact Has.new _ _ _)
  replace HB := hide (HB.out.trans (hbA.mono HB.out.size))
  replace Ta := hide (Ta.out.below hbA)
  replace Ba := hide (Ba.out.below hbA Ba.out.lt)
  replace Tr := hide (Tr.out.below hbA)
  have Hw6b := hide hw6b
  clear hw6b hbA
  obtain ⟨w7, hw7⟩ : ∃ W, W = w6b.alloc (.cells #[.int .i64 1, .int .i64 p, .int .i64 z] 3) := ⟨_, rfl⟩
  have hbA : Below w6b.heap.size w6b w7 := by rw [hw7]; exact (Below.refl _ _).alloc (Nat.le_refl _) _
  have SQ : Hid (Has w7 (w6.heap.size + 1) 3 [.int .i64 1, .int .i64 p, .int .i64 z]) := hide (by rw [hw7]; exact box_at _ _ _ _ (by rw [Hw6b.out]; simp))
  replace HB := hide (HB.out.trans (hbA.mono HB.out.size))
  replace Ta := hide (Ta.out.below hbA)
  replace Ba := hide (Ba.out.below hbA Ba.out.lt)
  replace Tr := hide (Tr.out.below hbA)
  replace Br := hide (Br.out.below hbA Br.out.lt)
  have Hw7 := hide hw7
  clear hw7 hbA
  go_wp2_with fail
  rw [← Hw6b.out]
  rw [← Hw7.out]
  clear Hw6b Hw7 c_Ba0 c_Ba1 c_Ba2 l_Ba
  obtain ⟨hf, hsh, hds⟩ := Cv.lawful H V 1 K K 1 1 p z (by rw [hT1.out]; exact Ia.out) (by rw [hT2.out]; exact Ir.out) (by have := BH.out; omega) (by have := BV.out; omega) (by omega) (by have := BK.out; have := BH.out; omega) (by have := BK.out; have := BH.out; omega) (by omega) (by omega) Bp.out Hz.out (by rw [hT2.out]; have := hT2b.out; omega)
  have HSH := hide hsh
  have HDS := hide hds
  clear hsh hds
  refine (cv_good [((1 : Nat) : Int), (p : Int), z] (some ⟨w6.heap.size + 1, 0, none⟩) 3 a r ah am ar _ hf (SQ.out.ri (zs := [((1 : Nat) : Int), (p : Int), z]) (fun q hq => by simp at hq; have := Hz.out; have := Bp.out; rcases hq with rfl | rfl | rfl <;> exact wf_i64 _ (by omega))) (by simp) Ta.out Tr.out (HE.out _ HB.out)).mono ?_
  rintro e w8 ⟨⟨t, rfl, ht, htz, htu, htd, -⟩, hb⟩
  replace HB := hide (HB.out.trans (hb.mono HB.out.size))
  replace Ta := hide (Ta.out.below hb)
  replace Ba := hide (Ba.out.below hb Ba.out.lt)
  replace Tr := hide (Tr.out.below hb)
  replace Br := hide (Br.out.below hb Br.out.lt)
  replace SQ := hide (SQ.out.below hb SQ.out.lt)
  clear hb
  clear SQ hf
  rw [HSH.out] at htz
  rw [HDS.out] at htd
  have Zt := hide htz
  have Ut := hide htu
  have Dt := hide htd
  clear htz htd htu HSH HDS
  have Tt := hide ht
  clear ht
  have w_1 := HW1.out
  have w_2 := HW2.out
  have w_3 := HW3.out
  obtain ⟨w8b, hw8b⟩ : ∃ W, W = w8.alloc (.cells #[.slice t.P t.zs.length t.cap, .bool t.u, .slice t.D t.ds.length t.dcap] 26) := ⟨_, rfl⟩
  have hbA : Below w8.heap.size w8 w8b := by rw [hw8b]; exact (Below.refl _ _).alloc (Nat.le_refl _) _
  have Bt : Hid (Has w8b w8.heap.size 26 [.slice t.P t.zs.length t.cap, .bool t.u, .slice t.D t.ds.length t.dcap]) := hide (by rw [hw8b]; exact Has.new _ _ _)
  replace HB := hide (HB.out.trans (hbA.mono HB.out.size))
  replace Ta := hide (Ta.out.below hbA)
  replace Ba := hide (Ba.out.below hbA Ba.out.lt)
  replace Tr := hide (Tr.out.below hbA)
  replace Br := hide (Br.out.below hbA Br.out.lt)
  replace Tt := hide (Tt.out.below hbA)
  have Hw8b := hide hw8b
  clear hw8b hbA
  have HBs : Hid (w.heap.size ≤ w8b.heap.size) := hide HB.out.size
  have HT : Hid (Below w8b.heap.size w8b w8b) := hide (Below.refl _ _)
  have Ta0 := Ta
  have Tr0 := Tr
  have Tt0 := Tt
  have Ba0 := Ba
  have Br0 := Br
  have Bt0 := Bt
  have HB0 := HB
  obtain ⟨w8c, hw8c⟩ : ∃ W, W = w8b.alloc (.cells #[.int .i64 H2, .int .i64 V2, .int .i64 1] 3) := ⟨_, rfl⟩
  have hbA : Below w8b.heap.size w8b w8c := by rw [hw8c]; exact (Below.refl _ _).alloc (Nat.le_refl _) _
  have SX : Hid (Has w8c (w8.heap.size + 1) 3 [.int .i64 H2, .int .i64 V2, .int .i64 1]) := hide (by rw [hw8c]; exact box_at _ _ _ _ (by rw [Hw8b.out]; simp))
  replace HB := hide (HB.out.trans (hbA.mono HB.out.size))
  replace Ta := hide (Ta.out.below hbA)
  replace Ba := hide (Ba.out.below hbA Ba.out.lt)
  replace Tr := hide (Tr.out.below hbA)
  replace Br := hide (Br.out.below hbA Br.out.lt)
  replace Tt := hide (Tt.out.below hbA)
  replace Bt := hide (Bt.out.below hbA Bt.out.lt)
  replace HT := hide (HT.out.trans (hbA.mono HT.out.size))
  have Hw8c := hide hw8c
  clear hw8c hbA
  go_wp2_with fail
  rw [← Hw8b.out]
  rw [← Hw8c.out]
  clear Hw8b Hw8c
  clear w_1 w_2 w_3
  have GX : Hid (w8b.heap.size ≤ w8c.heap.size ∧ w8.heap.size + 1 < w8c.heap.size) := hide ⟨HT.out.size, SX.out.lt⟩
  refine (cvtensor_c [(H2 : Int), (V2 : Int), ((1 : Nat) : Int)] (some ⟨w8.heap.size + 1, 0, none⟩) 3 TB [] none 0 _ HSB.out (by have := hTBb.out; omega) (SX.out.ri (zs := [(H2 : Int), (V2 : Int), ((1 : Nat) : Int)]) (fun q hq => by simp at hq; have := BH.out; have := BV.out; have := B2.out; rcases hq with rfl | rfl | rfl <;> exact wf_i64 _ (by omega))) (by simp) (Ri.nil _ _)).mono ?_
  rintro e w9 ⟨⟨g, ds, rfl, hg, hG, hL, -, hZ⟩, hb⟩
  replace HB := hide (HB.out.trans (hb.mono HB.out.size))
  replace Ta := hide (Ta.out.below hb)
  replace Ba := hide (Ba.out.below hb Ba.out.lt)
  replace Tr := hide (Tr.out.below hb)
  replace Br := hide (Br.out.below hb Br.out.lt)
  replace Tt := hide (Tt.out.below hb)
  replace Bt := hide (Bt.out.below hb Bt.out.lt)
  replace HT := hide (HT.out.trans (hb.mono HT.out.size))
  replace SX := hide (SX.out.below hb SX.out.lt)
  clear hb
  obtain rfl := hZ rfl
  have G := hide hG
  have GW : Hid (w8b.heap.size < g ∧ w8.heap.size + 1 < g ∧ g < w9.heap.size ∧ w.heap.size ≤ w8b.heap.size) := hide (by have h1 := GX.out; have h2 := HBs.out; have h3 := hG.lt; omega)
  clear hG hL hg hZ GX HBs
  have w_1 := HW1.out
  have w_2 := HW2.out
  have w_3 := HW3.out
  obtain ⟨w9b, hw9b⟩ : ∃ W, W = w9.alloc (.cells #[.slice (some ⟨w8.heap.size + 1, 0, none⟩) 3 3, .bool false, .slice (some ⟨g, 0, none⟩) TB TB] 26) := ⟨_, rfl⟩
  have hbA : Below w9.heap.size w9 w9b := by rw [hw9b]; exact (Below.refl _ _).alloc (Nat.le_refl _) _
  have Bb : Hid (Has w9b w9.heap.size 26 [.slice (some ⟨w8.heap.size + 1, 0, none⟩) 3 3, .bool false, .slice (some ⟨g, 0, none⟩) TB TB]) := hide (by rw [hw9b]; exact Has.new _ _ _)
  replace HB := hide (HB.out.trans (hbA.mono HB.out.size))
  replace Ta := hide (Ta.out.below hbA)
  replace Ba := hide (Ba.out.below hbA Ba.out.lt)
  replace Tr := hide (Tr.out.below hbA)
  replace Br := hide (Br.out.below hbA Br.out.lt)
  replace Tt := hide (Tt.out.below hbA)
  replace Bt := hide (Bt.out.below hbA Bt.out.lt)
  replace HT := hide (HT.out.trans (hbA.mono HT.out.size))
  replace SX := hide (SX.out.below hbA SX.out.lt)
  replace G := hide (G.out.below hbA G.out.lt)
  have Hw9b := hide hw9b
  clear hw9b hbA
  go_wp2_with fail
  rw [← Hw9b.out]
  clear Hw9b
  clear w_1 w_2 w_3
  go_loopg [19, 20, 21] TB (fun gq k _ _ wr => ∃ (i : Nat) (ds : List Int), gq + i = TB ∧ k = .int .i64 i ∧ Hid (ds.length = TB) ∧ Hid (∀ j, j < i → ds[j]? = some (Cv.ring H V p z a.ds (j / V2) (j % V2))) ∧ Hid (Has wr g 3 (i64s ds)) ∧ Hid (Has wr w9.heap.size 26 [.slice (some ⟨w8.heap.size + 1, 0, none⟩) 3 3, .bool false, .slice (some ⟨g, 0, none⟩) TB TB]) ∧ Hid (Has wr (w8.heap.size + 1) 3 (i64s [(H2 : Int), (V2 : Int), ((1 : Nat) : Int)])) ∧ Hid (Below w8b.heap.size w8b wr))
  case atStart => exact ⟨0, _, by omega, rfl, hide (by simp), hide (fun j hj => by omega), G, Bb, SX, HT⟩
  case round =>
    obtain ⟨i, ds, hi9, rfl, HDl, HDv, G, Bb, SX, HT⟩ := hrel
    by_cases hlt : i < TB
    case pos =>
      have hii : (i : Int) < (TB : Int) := by omega
      have hi0 : (0 : Int) ≤ (i : Int) := by omega
      have hi121 : (i : Int) ≤ 121 := by have := hTBb.out; omega
      obtain ⟨a2, ha2⟩ : ∃ n, Hid (i / V2 = n) := ⟨_, hide rfl⟩
      obtain ⟨b2, hb2⟩ : ∃ n, Hid (i % V2 = n) := ⟨_, hide rfl⟩
      have hnz : ¬ ((V2 : Int) = 0) := by have := B2.out; omega
      have hnz2 : ¬ V2 = 0 := by have := B2.out; omega
      have Ha1 : Hid ((i : Int) / (V2 : Int) = (a2 : Int)) := hide (by rw [← ha2.out]; exact (Int.natCast_ediv i V2).symm)
      have Ha2 : Hid ((i : Int).tdiv (V2 : Int) = (a2 : Int)) := hide (by rw [Int.tdiv_eq_ediv_of_nonneg hi0]; exact Ha1.out)
      have Hb1 : Hid ((i : Int) % (V2 : Int) = (b2 : Int)) := hide (by rw [← hb2.out]; exact (Int.natCast_emod i V2).symm)
      have Hb2 : Hid ((i : Int).tmod (V2 : Int) = (b2 : Int)) := hide (by rw [Int.tmod_eq_emod_of_nonneg hi0]; exact Hb1.out)
      have Hb : Hid (a2 ≤ 121 ∧ b2 ≤ 121) := hide (by
        have h1 : a2 ≤ i := by rw [← ha2.out]; exact Nat.div_le_self i V2
        have h2 : b2 ≤ i := by rw [← hb2.out]; exact Nat.mod_le i V2
        omega)
      obtain ⟨dy, hdy⟩ : ∃ z : Int, Hid ((a2 : Int) - (p : Int) = z) := ⟨_, hide rfl⟩
      obtain ⟨dx, hdx⟩ : ∃ z : Int, Hid ((b2 : Int) - (p : Int) = z) := ⟨_, hide rfl⟩
      have Hdy : Hid (wrap64 ((a2 : Int) - (p : Int)) = dy) := hide (by rw [hdy.out]; have := hdy.out; have := Hb.out; have := Bp.out; exact Cv.small2 dy (by omega) (by omega))
      have Hdx : Hid (wrap64 ((b2 : Int) - (p : Int)) = dx) := hide (by rw [hdx.out]; have := hdx.out; have := Hb.out; have := Bp.out; exact Cv.small2 dx (by omega) (by omega))
      have Hwa : Hid (wrap64 (a2 : Int) = (a2 : Int)) := hide (Cv.small _ (by omega) (by have := Hb.out; omega))
      have Hnx := hide (fun v hv => Cv.ring_next (v := v) HDl.out hlt HDv.out hv)
      rw [ha2.out, hb2.out] at Hnx
      have y2 := Bb.out.cell 2
      have gf := G.out.frozen i
      have gb := GW.out
      have gc : wr.cell? ⟨g, i, none⟩ = some (.int .i64 (ds[i]'(by rw [HDl.out]; exact hlt))) := by
        rw [G.out.cell]
        unfold i64s
        rw [List.getElem?_map, List.getElem?_eq_getElem (by rw [HDl.out]; exact hlt)]
        rfl
      obtain ⟨wz, hwz⟩ : ∃ W, Hid (W = wr.setCell ⟨g, i, none⟩ (.int .i64 z)) := ⟨_, hide rfl⟩
      have GZ : Hid (Has wz g 3 (i64s (ds.set i z))) := hide (by rw [hwz.out]; have h := G.out.set_ i (.int .i64 z); unfold i64s at h ⊢; rw [List.map_set]; exact h)
      have BbZ : Hid (Has wz w9.heap.size 26 [.slice (some ⟨w8.heap.size + 1, 0, none⟩) 3 3, .bool false, .slice (some ⟨g, 0, none⟩) TB TB]) := hide (by rw [hwz.out]; exact Bb.out.far (p := ⟨g, i, none⟩) (by show w9.heap.size ≠ g; omega) _)
      have SXZ : Hid (Has wz (w8.heap.size + 1) 3 (i64s [(H2 : Int), (V2 : Int), ((1 : Nat) : Int)])) := hide (by rw [hwz.out]; exact SX.out.far (p := ⟨g, i, none⟩) (by show w8.heap.size + 1 ≠ g; omega) _)
      have HTZ : Hid (Below w8b.heap.size w8b wz) := hide (by rw [hwz.out]; exact HT.out.setCell (p := ⟨g, i, none⟩) (by show w8b.heap.size ≤ g; omega) _)
      have HLS : Hid ((ds.set i z).length = TB) := hide (by rw [List.length_set]; exact HDl.out)
      clear gb G Bb SX HT HDv
      have hVH := BH.out
      have hVV := BV.out
      by_cases hin : p ≤ a2 ∧ a2 < H + p ∧ p ≤ b2 ∧ b2 < V + p
      case neg =>
        have hval : Hid (z = Cv.ring H V p z a.ds a2 b2) := hide (by unfold Cv.ring; rw [if_neg hin])
        have HC : Hid (dy < 0 ∨ (0 ≤ dy ∧ dx < 0) ∨ (0 ≤ dy ∧ 0 ≤ dx ∧ (H : Int) ≤ dy) ∨ (0 ≤ dy ∧ 0 ≤ dx ∧ dy < (H : Int) ∧ (V : Int) ≤ dx)) := hide (by have h1 := hdy.out; have h2 := hdx.out; omega)
        clear hin
        rcases HC.out with c1 | ⟨c1, c2⟩ | ⟨c1, c2, c3⟩ | ⟨c1, c2, c3, c4⟩
        all_goals clear HC
        case inl =>
          have d1 : ¬ (0 : Int) ≤ dy := by omega
          have o_Ha1 := Ha1.out
          have o_Ha2 := Ha2.out
          have o_Hb1 := Hb1.out
          have o_Hb2 := Hb2.out
          have o_Hdy := Hdy.out
          have o_Hdx := Hdx.out
          have o_Hwa := Hwa.out
          have w_1 := HW1.out
          have w_2 := HW2.out
          have w_3 := HW3.out
          go_wp2_with fail
          rw [← hwz.out]
          clear w_1 w_2 w_3 o_Ha1 o_Ha2 o_Hb1 o_Hb2 o_Hdy o_Hdx o_Hwa
          go_roundg (TB - (i + 1))
          case measure => omega
          case rel =>
            exact ⟨i + 1, _, by omega, by go_num, HLS, hide (Hnx.out _ hval.out), GZ, BbZ, SXZ, HTZ⟩
        case inr.inl =>
          have d1 : ¬ (0 : Int) ≤ dx := by omega
          have o_Ha1 := Ha1.out
          have o_Ha2 := Ha2.out
          have o_Hb1 := Hb1.out
          have o_Hb2 := Hb2.out
          have o_Hdy := Hdy.out
          have o_Hdx := Hdx.out
          have o_Hwa := Hwa.out
          have w_1 := HW1.out
          have w_2 := HW2.out
          have w_3 := HW3.out
          go_wp2_with fail
          rw [← hwz.out]
          clear w_1 w_2 w_3 o_Ha1 o_Ha2 o_Hb1 o_Hb2 o_Hdy o_Hdx o_Hwa
          go_roundg (TB - (i + 1))
          case measure => omega
          case rel =>
            exact ⟨i + 1, _, by omega, by go_num, HLS, hide (Hnx.out _ hval.out), GZ, BbZ, SXZ, HTZ⟩
        case inr.inr.inl =>
          have d1 : ¬ dy < (H : Int) := by omega
          have o_Ha1 := Ha1.out
          have o_Ha2 := Ha2.out
          have o_Hb1 := Hb1.out
          have o_Hb2 := Hb2.out
          have o_Hdy := Hdy.out
          have o_Hdx := Hdx.out
          have o_Hwa := Hwa.out
          have w_1 := HW1.out
          have w_2 := HW2.out
          have w_3 := HW3.out
          go_wp2_with fail
          rw [← hwz.out]
          clear w_1 w_2 w_3 o_Ha1 o_Ha2 o_Hb1 o_Hb2 o_Hdy o_Hdx o_Hwa
          go_roundg (TB - (i + 1))
          case measure => omega
          case rel =>
            exact ⟨i + 1, _, by omega, by go_num, HLS, hide (Hnx.out _ hval.out), GZ, BbZ, SXZ, HTZ⟩
        case inr.inr.inr =>
          have d1 : ¬ dx < (V : Int) := by omega
          have o_Ha1 := Ha1.out
          have o_Ha2 := Ha2.out
          have o_Hb1 := Hb1.out
          have o_Hb2 := Hb2.out
          have o_Hdy := Hdy.out
          have o_Hdx := Hdx.out
          have o_Hwa := Hwa.out
          have w_1 := HW1.out
          have w_2 := HW2.out
          have w_3 := HW3.out
          go_wp2_with fail
          rw [← hwz.out]
          clear w_1 w_2 w_3 o_Ha1 o_Ha2 o_Hb1 o_Hb2 o_Hdy o_Hdx o_Hwa
          go_roundg (TB - (i + 1))
          case measure => omega
          case rel =>
            exact ⟨i + 1, _, by omega, by go_num, HLS, hide (Hnx.out _ hval.out), GZ, BbZ, SXZ, HTZ⟩
      case pos =>
        obtain ⟨dn, hdn⟩ : ∃ n, Hid (a2 - p = n) := ⟨_, hide rfl⟩
        obtain ⟨en, hen⟩ : ∃ n, Hid (b2 - p = n) := ⟨_, hide rfl⟩
        have edy : dy = (dn : Int) := by have h1 := hdy.out; have h2 := hdn.out; omega
        have edx : dx = (en : Int) := by have h1 := hdx.out; have h2 := hen.out; omega
        subst edy
        subst edx
        have hdK : dn < H := by have h2 := hdn.out; omega
        have heK : en < V := by have h2 := hen.out; omega
        obtain ⟨m, hm⟩ : ∃ n, Hid (dn * V = n) := ⟨_, hide rfl⟩
        obtain ⟨s, hs⟩ : ∃ n, Hid (m + en = n) := ⟨_, hide rfl⟩
        have hsT : s < T1 := by
          have h1 := Nat.mul_le_mul_right V hdK
          rw [Nat.succ_mul] at h1
          have h2 := hs.out
          have h3 := hm.out
          rw [← hT1.out, Nat.mul_one]
          omega
        have hT3 := hT1b.out
        have Hp : Hid (wrap64 ((dn : Int) * (V : Int)) = (m : Int)) := hide (by rw [← Int.natCast_mul, hm.out]; have h2 := hs.out; exact Cv.small _ (by omega) (by omega))
        have Hs : Hid (wrap64 ((m : Int) + (en : Int)) = (s : Int)) := hide (by rw [show (m : Int) + (en : Int) = (s : Int) by have h2 := hs.out; omega]; exact Cv.small _ (by omega) (by omega))
        obtain ⟨rd, rv, rdD, rde, rdc⟩ := ri_at (Ta0.out.below HTZ.out).dat s (by rw [Ia.out.len]; exact hsT)
        have hval : Hid (rv = Cv.ring H V p z a.ds a2 b2) := hide (by unfold Cv.ring; rw [if_pos hin, hdn.out, hen.out, hm.out, hs.out, List.getD_eq_getElem?_getD, rde.out]; rfl)
        have HAL : Hid (a.ds.length = T1) := hide Ia.out.len
        have x2 : wz.cell? ⟨w3.heap.size, 2, none⟩ = some (.slice (some rd) T1 a.dcap) := by
          have h := (Ba0.out.below HTZ.out Ba0.out.lt).cell 2
          rw [rdD, HAL.out] at h
          exact h
        clear rdD rde
        have y2z := BbZ.out.cell 2
        have gfz := GZ.out.frozen i
        have gcz : wz.cell? ⟨g, i, none⟩ = some (.int .i64 z) := by
          rw [GZ.out.cell]
          unfold i64s
          rw [List.getElem?_map, List.getElem?_set, if_pos rfl, if_pos (by rw [HDl.out]; exact hlt)]
          rfl
        have c1 : (0 : Int) ≤ (dn : Int) := by omega
        have c2 : (0 : Int) ≤ (en : Int) := by omega
        have c3 : (dn : Int) < (H : Int) := by omega
        have c4 : (en : Int) < (V : Int) := by omega
        have hs0 : (0 : Int) ≤ (s : Int) := by omega
        have hs1 : (s : Int) < (T1 : Int) := by omega
        have Hnx2 := hide (Hnx.out _ hval.out)
        clear hin hdK heK hsT hT3 Hnx hval
        have o_Ha1 := Ha1.out
        have o_Ha2 := Ha2.out
        have o_Hb1 := Hb1.out
        have o_Hb2 := Hb2.out
        have o_Hdy := Hdy.out
        have o_Hdx := Hdx.out
        have o_Hwa := Hwa.out
        have w_1 := HW1.out
        have w_2 := HW2.out
        have w_3 := HW3.out
        go_wp2_with fail
        rw [← hwz.out]
        try rw [o_Hdy]
        try rw [o_Hdx]
        clear w_1 w_2 w_3 o_Ha1 o_Ha2 o_Hb1 o_Hb2 o_Hdy o_Hdx o_Hwa
        have o_p := Hp.out
        have o_s := Hs.out
        go_region
        clear o_p o_s x2 y2z gfz gcz
        obtain ⟨wy, hwy⟩ : ∃ W, Hid (W = (wz.setCell ⟨g, i, none⟩ (.int .i64 rv)).drew) := ⟨_, hide rfl⟩
        rw [← hwy.out]
        have gb := GW.out
        have GY : Hid (Has wy g 3 (i64s (ds.set i rv))) := hide (by rw [hwy.out]; have h := (GZ.out.set_ i (.int .i64 rv)).drewN 1; unfold i64s at h ⊢; rw [show ds.set i rv = (ds.set i z).set i rv by rw [List.set_set], List.map_set]; exact h)
        have BbY : Hid (Has wy w9.heap.size 26 [.slice (some ⟨w8.heap.size + 1, 0, none⟩) 3 3, .bool false, .slice (some ⟨g, 0, none⟩) TB TB]) := hide (by rw [hwy.out]; exact (BbZ.out.far (p := ⟨g, i, none⟩) (by show w9.heap.size ≠ g; omega) _).drewN 1)
        have SXY : Hid (Has wy (w8.heap.size + 1) 3 (i64s [(H2 : Int), (V2 : Int), ((1 : Nat) : Int)])) := hide (by rw [hwy.out]; exact (SXZ.out.far (p := ⟨g, i, none⟩) (by show w8.heap.size + 1 ≠ g; omega) _).drewN 1)
        have HTY : Hid (Below w8b.heap.size w8b wy) := hide (by rw [hwy.out]; exact (HTZ.out.setCell (p := ⟨g, i, none⟩) (by show w8b.heap.size ≤ g; omega) _).drew)
        have HLY : Hid ((ds.set i rv).length = TB) := hide (by rw [List.length_set]; exact HDl.out)
        clear gb GZ BbZ SXZ HTZ HLS hwy hwz
        go_wp2_with fail
        go_roundg (TB - (i + 1))
        case measure => omega
        case rel => exact ⟨i + 1, _, by omega, by go_num, HLY, Hnx2, GY, BbY, SXY, HTY⟩
    case neg =>
      obtain rfl : TB = i := by omega
      have hii : ¬ (TB : Int) < (TB : Int) := by omega
      have HBr := hide (HB0.out.trans (HT.out.mono HB0.out.size))
      have Tar := hide (Ta0.out.below HT.out)
      have Trr := hide (Tr0.out.below HT.out)
      have Ttr := hide (Tt0.out.below HT.out)
      have Brr := hide (Br0.out.below HT.out Br0.out.lt)
      have Btr := hide (Bt0.out.below HT.out Bt0.out.lt)
      clear Ta Tr Tt Ba Br Bt HB Ta0 Tr0 Tt0 Ba0 Br0 Bt0 HB0 HT
      have hds9 : Mat.small ds := by
        intro y hy
        obtain ⟨j, hj⟩ := List.mem_iff_getElem?.1 hy
        have hjl : j < TB := by rw [← HDl.out]; exact (List.getElem?_eq_some_iff.1 hj).1
        have h := HDv.out j hjl
        rw [hj] at h
        rw [Option.some.inj h]
        exact Cv.ring_small Ia.out.sm Hz.out _ _
      obtain ⟨b, hbv⟩ : ∃ b : Ten, Hid (b = ⟨some ⟨w8.heap.size + 1, 0, none⟩, [(H2 : Int), (V2 : Int), ((1 : Nat) : Int)], 3, false, some ⟨g, 0, none⟩, ds, TB⟩) := ⟨_, hide rfl⟩
      have Ib : Hid (CvIs b [(H2 : Int), (V2 : Int), ((1 : Nat) : Int)] (H2 * V2 * 1) 1) := hide (by rw [hbv.out]; exact ⟨rfl, rfl, by rw [hTB.out]; exact HDl.out, hds9, fun h => by cases h⟩)
      have Tb : Hid (b.In wr) := hide (by rw [hbv.out]; exact ⟨SX.out.ri (fun q hq => by simp at hq; have := B2.out; rcases hq with rfl | rfl | rfl <;> exact wf_i64 _ (by omega)), G.out.ri (fun z hz => wf_i64 _ (by have := hds9 z hz; omega)), by show 3 ≤ 1000000; omega, by show ds.length ≤ 1000000; rw [HDl.out]; have := hTBb.out; omega⟩)
      have Bbr : Hid (Has wr w9.heap.size 26 [.slice b.P b.zs.length b.cap, .bool b.u, .slice b.D b.ds.length b.dcap]) := hide (by have h := Bb.out; rw [hbv.out]; show Has wr w9.heap.size 26 [.slice (some ⟨w8.heap.size + 1, 0, none⟩) 3 3, .bool false, .slice (some ⟨g, 0, none⟩) ds.length TB]; rw [HDl.out]; exact h)
      have Db : Hid (b.ds = ds) := hide (by rw [hbv.out])
      have Hlb : Hid (b.ds.length = TB) := hide (by rw [Db.out]; exact HDl.out)
      have x2 := Bbr.out.cell 2
      rw [Hlb.out] at x2
      clear Bb G SX hbv hds9
      have c_Bbr0 := Bbr.out.cell 0
      have c_Bbr1 := Bbr.out.cell 1
      have l_Bbr := Bbr.out.lt
      have c_Brr0 := Brr.out.cell 0
      have c_Brr1 := Brr.out.cell 1
      have c_Brr2 := Brr.out.cell 2
      have l_Brr := Brr.out.lt
      obtain ⟨w10, hw10⟩ : ∃ W, W = wr.alloc (.cells #[.int .i64 1, .int .i64 0, .int .i64 z] 3) := ⟨_, rfl⟩
      have hbA : Below wr.heap.size wr w10 := by rw [hw10]; exact (Below.refl _ _).alloc (Nat.le_refl _) _
      have SQ : Hid (Has w10 wr.heap.size 3 [.int .i64 1, .int .i64 0, .int .i64 z]) := hide (by rw [hw10]; exact Has.new _ _ _)
      replace HBr := hide (HBr.out.trans (hbA.mono HBr.out.size))
      replace Tar := hide (Tar.out.below hbA)
      replace Trr := hide (Trr.out.below hbA)
      replace Ttr := hide (Ttr.out.below hbA)
      replace Brr := hide (Brr.out.below hbA Brr.out.lt)
      replace Btr := hide (Btr.out.below hbA Btr.out.lt)
      replace Tb := hide (Tb.out.below hbA)
      replace Bbr := hide (Bbr.out.below hbA Bbr.out.lt)
      have Hw10 := hide hw10
      clear hw10 hbA
      go_wp2_with fail
      rw [← Hw10.out]
      clear Hw10 c_Bbr0 c_Bbr1 l_Bbr c_Brr0 c_Brr1 c_Brr2 l_Brr
      clear x2
      obtain ⟨hf, hsh, hds⟩ := Cv.lawful H2 V2 1 K K 1 1 0 z Ib.out (by rw [hT2.out]; exact Ir.out) (by have := B2.out; omega) (by have := B2.out; omega) (by omega) (by have := BK.out; have := BH.out; have := B2.out; omega) (by have := BK.out; have := BV.out; have := B2.out; omega) (by omega) (by omega) (by omega) Hz.out (by rw [hT2.out]; have := hT2b.out; omega)
      have HSH := hide hsh
      have HDS := hide hds
      clear hsh hds
      have HCV := hide (cv_good [((1 : Nat) : Int), ((0 : Nat) : Int), z] (some ⟨wr.heap.size, 0, none⟩) 3 b r ah am ar _ hf (SQ.out.ri (zs := [((1 : Nat) : Int), ((0 : Nat) : Int), z]) (fun q hq => by simp at hq; have := Hz.out; rcases hq with rfl | rfl | rfl <;> exact wf_i64 _ (by omega))) (by simp) Tb.out Trr.out (HE.out _ HBr.out))
      rw [Hlb.out] at HCV
      refine (HCV.out).mono ?_
      rintro e w11 ⟨⟨u, rfl, hu, huz, huu, hud, -⟩, hb⟩
      replace HBr := hide (HBr.out.trans (hb.mono HBr.out.size))
      replace Tar := hide (Tar.out.below hb)
      replace Trr := hide (Trr.out.below hb)
      replace Ttr := hide (Ttr.out.below hb)
      replace Brr := hide (Brr.out.below hb Brr.out.lt)
      replace Btr := hide (Btr.out.below hb Btr.out.lt)
      replace Tb := hide (Tb.out.below hb)
      replace Bbr := hide (Bbr.out.below hb Bbr.out.lt)
      replace SQ := hide (SQ.out.below hb SQ.out.lt)
      clear hb
      clear SQ hf
      rw [HSH.out] at huz
      rw [HDS.out] at hud
      have Zu := hide huz
      have Uu := hide huu
      have Du := hide hud
      clear huz hud huu HSH HDS
      have Tu := hide hu
      clear hu
      have c_Btr0 := Btr.out.cell 0
      have c_Btr1 := Btr.out.cell 1
      have c_Btr2 := Btr.out.cell 2
      have l_Btr := Btr.out.lt
      obtain ⟨w12, hw12⟩ : ∃ W, W = w11.alloc (.cells #[.slice u.P u.zs.length u.cap, .bool u.u, .slice u.D u.ds.length u.dcap] 26) := ⟨_, rfl⟩
      have hbA : Below w11.heap.size w11 w12 := by rw [hw12]; exact (Below.refl _ _).alloc (Nat.le_refl _) _
      have Bu : Hid (Has w12 w11.heap.size 26 [.slice u.P u.zs.length u.cap, .bool u.u, .slice u.D u.ds.length u.dcap]) := hide (by rw [hw12]; exact Has.new _ _ _)
      replace HBr := hide (HBr.out.trans (hbA.mono HBr.out.size))
      replace Tar := hide (Tar.out.below hbA)
      replace Trr := hide (Trr.out.below hbA)
      replace Ttr := hide (Ttr.out.below hbA)
      replace Brr := hide (Brr.out.below hbA Brr.out.lt)
      replace Btr := hide (Btr.out.below hbA Btr.out.lt)
      replace Tb := hide (Tb.out.below hbA)
      replace Bbr := hide (Bbr.out.below hbA Bbr.out.lt)
      replace Tu := hide (Tu.out.below hbA)
      have Hw12 := hide hw12
      clear hw12 hbA
      go_wp2_with fail
      rw [← Hw12.out]
      clear Hw12 c_Btr0 c_Btr1 c_Btr2 l_Btr
      have e1 : H2 = H + 2 * p := by rw [← hH2.out, ← hP2.out]
      have e2 : V2 = V + 2 * p := by rw [← hV2.out, ← hP2.out]
      have o1 : (Cv.mk H V 1 K K 1 1 p z).oh = H + 2 * p - K + 1 := by show (H + 2 * p - K) / 1 + 1 = _; rw [Nat.div_one]
      have o2 : (Cv.mk H V 1 K K 1 1 p z).ow = V + 2 * p - K + 1 := by show (V + 2 * p - K) / 1 + 1 = _; rw [Nat.div_one]
      have o3 : (Cv.mk (H + 2 * p) (V + 2 * p) 1 K K 1 1 0 z).oh = H + 2 * p - K + 1 := by show (H + 2 * p + 2 * 0 - K) / 1 + 1 = _; rw [Nat.div_one]; omega
      have o4 : (Cv.mk (H + 2 * p) (V + 2 * p) 1 K K 1 1 0 z).ow = V + 2 * p - K + 1 := by show (V + 2 * p + 2 * 0 - K) / 1 + 1 = _; rw [Nat.div_one]; omega
      have zz : t.zs = u.zs := by rw [Zt.out, Zu.out, e1, e2, o1, o2, o3, o4]
      have dd : t.ds = u.ds := by
        rw [Dt.out, Du.out, Db.out, e1, e2, o1, o2, o3, o4, Nat.mul_one]
        exact Cv.pads_part H V K p z a.ds ds r.ds _ BK.out.2.1 BK.out.2.2 (Nat.le_refl _) (fun i hi => by
          have h := HDv.out i (by rw [← hTB.out, e1, e2, Nat.mul_one]; exact hi)
          rw [e2] at h
          exact h)
      have HSM := hide (same_good t u _ Ttr.out Tu.out zz (Ut.out.trans Uu.out.symm) dd)
      clear e1 e2 o1 o2 o3 o4 zz dd
      refine (HSM.out).mono ?_
      rintro e w13 ⟨rfl, hb⟩
      replace HBr := hide (HBr.out.trans (hb.mono HBr.out.size))
      replace Tar := hide (Tar.out.below hb)
      replace Trr := hide (Trr.out.below hb)
      replace Ttr := hide (Ttr.out.below hb)
      replace Brr := hide (Brr.out.below hb Brr.out.lt)
      replace Btr := hide (Btr.out.below hb Btr.out.lt)
      replace Tb := hide (Tb.out.below hb)
      replace Bbr := hide (Bbr.out.below hb Bbr.out.lt)
      replace Tu := hide (Tu.out.below hb)
      replace Bu := hide (Bu.out.below hb Bu.out.lt)
      clear hb
      go_wp2_with fail
      go_ret
      exact ⟨rfl, HBr.out⟩
end Go.Proofs.YtkehdgjdieemkaaDoor
