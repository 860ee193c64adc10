/-
  The law ShapeBounds of package lodgelaw5, walked. By an AI agent. No person has read it.
-/
import Derived.Test.YtnbjcdmiehnceaaDoorShpE
namespace Go.Proofs.YtnbjcdmiehnceaaDoor
open Go.RowKit

/-- Valid of a slice that reads so, then Is of what it tells. -/
theorem isvalid_two {es : List Addr} {am ar : Addr} (ham : es[3]? = some am) (har : es[1]? = some ar) (zs : List Int) (P : Option Addr) (n cap k : Nat) (hn : zs.length = n) (hk : Shp.code zs = k) (hm : n ≤ 1000000) (w : World) (hr : Ri w P zs) (hz : Ez w es) (hE : E2 w am ar) :
    ∃ v : Value, (Calls Tryd.prog 18 #[.agg (dcells P n cap false)] w fun e w' => e = .returned v ∧ Below w.heap.size w w') ∧
      ∀ w', Below w.heap.size w w' → Calls Tryd.prog 17 #[v, .int .i64 k] w' fun e w2 => e = .returned (.bool true) ∧ Below w'.heap.size w' w2 := by
  subst hn
  subst hk
  exact ⟨_, valid_c zs P cap false am ar w hr (by omega) hE, fun w' hb => is_shp ham har _ (Shp.code_is zs) w' (hz.below hb)⟩
set_option maxRecDepth 100000 in
set_option maxHeartbeats 4000000 in
theorem bounds_c (es : List Addr) (what n : Int) (w : World) (hz : Ez w es) :
    Calls Tryd.prog 7 #[.int .i64 what, .int .i64 n] w fun e w' => e = .returned (.bool true) ∧ Below w.heap.size w w' := by
  obtain ⟨am, ar, ham, har, hE⟩ := e2_of hz
  have H0 := hide (first_c am ar w hE)
  have HZ := hide hz
  have HE := hide hE
  clear hz hE
  go_enter Tryd.func7, Tryd.ntmps7
  go_wp2_with fail
  refine H0.out.mono ?_
  rintro e w1 ⟨rfl, hb1⟩
  have HB1 := hide hb1
  have HZ1 := hide (HZ.out.below hb1)
  have HE1 := hide (HE.out.below hb1)
  clear hb1 H0 HZ HE
  go_wp2_with fail
  refine (number_c what 3 (by decide) (by decide) 3 rfl w1).mono ?_
  rintro e w1 ⟨⟨k, hk, rfl⟩, rfl⟩
  have hk3 : k = 0 ∨ k = 1 ∨ k = 2 := by omega
  clear hk
  rcases hk3 with rfl | rfl | rfl
  · go_wp2_with fail
    refine (number_c n 8 (by decide) (by decide) 8 rfl w1).mono ?_
    rintro e w1 ⟨⟨m, hm, rfl⟩, rfl⟩
    obtain ⟨Z, hZ, hmk⟩ := made_ints m (by omega)
    have HI0 : Hid (Has (w1.alloc (.cells Z 3)) w1.heap.size 3 (i64s (List.replicate m 0))) := by
      rw [hZ.out]
      exact hide (Has.new w1 _ _)
    have HB2 := hide (HB1.out.alloc HB1.out.size (.cells Z 3))
    have hw1s := HB1.out.size
    clear hZ
    go_wp2_with fail
    go_loopw [7] (fun k wr => ∃ i : Nat, i ≤ m ∧ k = .int .i64 i ∧ Hid (Has wr w1.heap.size 3 (i64s (List.replicate i 1 ++ List.replicate (m - i) 0))) ∧ Hid (Below w1.heap.size w1 wr)) (fun k _ => m - (intOf k).toNat)
    case atStart => exact ⟨0, by omega, rfl, by simpa using HI0, hide ((Below.refl _ w1).alloc (Nat.le_refl _) _)⟩
    case round =>
      obtain ⟨i, hi, rfl, hI, hB⟩ := hrel
      clear HI0 HB2
      by_cases hlt : i < m
      · have him : (i : Int) < m := by omega
        have hc : wr.cell? ⟨w1.heap.size, i, none⟩ = some (.int .i64 0) := by
          have := hI.out.cell i
          rw [this, List.getElem?_map, List.getElem?_append_right (by simp), List.length_replicate, Nat.sub_self, List.getElem?_replicate, if_pos (by omega)]
          rfl
        have hf := hI.out.frozen i
        have hset := hI.out.set_ i (.int .i64 1)
        rw [ones_next m i hlt] at hset
        have HS := hide hset
        have HB3 := hide (hB.out.setCell (p := ⟨w1.heap.size, i, none⟩) (Nat.le_refl _) (.int .i64 1))
        clear hset
        go_wp2_with fail
        go_roundw
        case rel => exact ⟨i + 1, by omega, by go_num, HS, HB3⟩
        case measure => simp [intOf]; omega
      · obtain rfl : i = m := by omega
        have hri : Ri wr (some ⟨w1.heap.size, 0, none⟩) (List.replicate i 1) := by
          have h := hI.out
          rw [Nat.sub_self, List.replicate_zero, List.append_nil] at h
          exact h.ri fun z hz => by rw [(List.mem_replicate.1 hz).2]; decide
        have hbw := HB1.out.trans (hB.out.mono HB1.out.size)
        obtain ⟨v, hv1, hv2⟩ := isvalid_two ham har (List.replicate i 1) (some ⟨w1.heap.size, 0, none⟩) i i (if 4 < i then 104 else 0) (by simp) (ones_code i hm) (by omega) wr hri (HZ1.out.below hB.out) (HE1.out.below hB.out)
        have HV1 := hide hv1
        have HV2 := hide hv2
        have HBW := hide hbw
        clear hv1 hv2 hri hbw
        by_cases h4 : 4 < i
        · have h4' : (4 : Int) < i := by omega
          rw [if_pos h4] at HV2
          go_wp2_with fail
          refine HV1.out.mono ?_
          rintro e w5 ⟨rfl, hb5⟩
          go_wp2_with fail
          refine (HV2.out w5 hb5).mono ?_
          rintro e w6 ⟨rfl, hb6⟩
          have hfin := HBW.out.trans ((hb5.trans (hb6.mono hb5.size)).mono HBW.out.size)
          clear hb5 hb6
          go_wp2_with fail
          go_ret
          exact ⟨rfl, hfin⟩
        · have h4' : ¬ (4 : Int) < i := by omega
          rw [if_neg h4] at HV2
          go_wp2_with fail
          refine HV1.out.mono ?_
          rintro e w5 ⟨rfl, hb5⟩
          go_wp2_with fail
          refine (HV2.out w5 hb5).mono ?_
          rintro e w6 ⟨rfl, hb6⟩
          have hfin := HBW.out.trans ((hb5.trans (hb6.mono hb5.size)).mono HBW.out.size)
          clear hb5 hb6
          go_wp2_with fail
          go_ret
          exact ⟨rfl, hfin⟩
  · go_wp2_with fail
    refine (number_c n 600 (by decide) (by decide) 600 rfl w1).mono ?_
    rintro e w1 ⟨⟨k, hk, rfl⟩, rfl⟩
    obtain ⟨m, hm⟩ : ∃ m : Int, (k : Int) - 100 = m := ⟨_, rfl⟩
    have hm1 : -100 ≤ m := by omega
    have hm2 : m < 500 := by omega
    have hr1 := new_ri w1 3 [m] (by intro z hz; rw [List.mem_singleton] at hz; omega)
    have hb2 : Below w1.heap.size w1 (w1.alloc (.cells (i64s [m]).toArray 3)) := (Below.refl _ w1).alloc (Nat.le_refl _) _
    obtain ⟨v, hv1, hv2⟩ := isvalid_two ham har [m] _ 1 1 (if m < 1 ∨ 256 < m then 102 else 0) rfl (one_code m) (by decide) _ hr1 (HZ1.out.below hb2) (HE1.out.below hb2)
    have HV1 : Hid (Calls Tryd.prog 18 #[.agg (dcells (some ⟨w1.heap.size, 0, none⟩) 1 1 false)] (w1.alloc (.cells #[.int .i64 m] 3)) fun e w' => e = .returned v ∧ Below (w1.alloc (.cells #[.int .i64 m] 3)).heap.size (w1.alloc (.cells #[.int .i64 m] 3)) w') := hide hv1
    have HV2 := hide hv2
    have HB2 := hide hb2
    clear hv1 hv2 hr1 hb2
    by_cases hbad : m < 1 ∨ 256 < m
    · rw [if_pos hbad] at HV2
      by_cases hm3 : m < 1
      · go_wp2_with fail
        refine HV1.out.mono ?_
        rintro e w5 ⟨rfl, hb5⟩
        go_wp2_with fail
        refine (HV2.out w5 hb5).mono ?_
        rintro e w6 ⟨rfl, hb6⟩
        have hfin := HB1.out.trans ((HB2.out.trans ((hb5.trans (hb6.mono hb5.size)).mono HB2.out.size)).mono HB1.out.size)
        clear hb5 hb6
        go_wp2_with fail
        go_ret
        exact ⟨rfl, hfin⟩
      · have hm4 : 256 < m := by omega
        go_wp2_with fail
        refine HV1.out.mono ?_
        rintro e w5 ⟨rfl, hb5⟩
        go_wp2_with fail
        refine (HV2.out w5 hb5).mono ?_
        rintro e w6 ⟨rfl, hb6⟩
        have hfin := HB1.out.trans ((HB2.out.trans ((hb5.trans (hb6.mono hb5.size)).mono HB2.out.size)).mono HB1.out.size)
        clear hb5 hb6
        go_wp2_with fail
        go_ret
        exact ⟨rfl, hfin⟩
    · rw [if_neg hbad] at HV2
      have hel : Shp.elems [m] = m := by
        unfold Shp.elems Shp.ok
        rw [one_code, if_neg hbad, if_pos (by decide)]
        simp [Shp.prod]
      have hm3 : ¬ m < 1 := by omega
      have hm4 : ¬ 256 < m := by omega
      clear hbad
      go_wp2_with fail
      refine HV1.out.mono ?_
      rintro e w5 ⟨rfl, hb5⟩
      go_wp2_with fail
      refine (HV2.out w5 hb5).mono ?_
      rintro e w6 ⟨rfl, hb6⟩
      have hb7 := HB1.out.trans ((HB2.out.trans ((hb5.trans (hb6.mono hb5.size)).mono HB2.out.size)).mono HB1.out.size)
      have HE6 := hide (HE1.out.below (HB2.out.trans ((hb5.trans (hb6.mono hb5.size)).mono HB2.out.size)))
      have hb8 : Below w6.heap.size w6 (w6.alloc (.cells (i64s [m]).toArray 3)) := (Below.refl _ w6).alloc (Nat.le_refl _) _
      have hec := elems_c [m] (some ⟨w6.heap.size, 0, none⟩) 1 am ar _ (new_ri w6 3 [m] (by intro z hz; rw [List.mem_singleton] at hz; omega)) (by simp) (HE6.out.below hb8)
      rw [hel] at hec
      have HEC : Hid (Calls Tryd.prog 20 #[.slice (some ⟨w6.heap.size, 0, none⟩) 1 1] (w6.alloc (.cells #[.int .i64 m] 3)) fun e w' => e = .returned (.int .i64 m) ∧ Below (w6.alloc (.cells #[.int .i64 m] 3)).heap.size (w6.alloc (.cells #[.int .i64 m] 3)) w') := hide hec
      have HB7 := hide hb7
      have HB8 := hide hb8
      clear hb5 hb6 hb7 hb8 hec hel
      go_wp2_with fail
      refine HEC.out.mono ?_
      rintro e w9 ⟨rfl, hb9⟩
      have hfin := HB7.out.trans ((HB8.out.trans (hb9.mono HB8.out.size)).mono HB7.out.size)
      clear hb9
      go_wp2_with fail
      go_ret
      exact ⟨rfl, hfin⟩
  · go_wp2_with fail
    refine (number_c n 256 (by decide) (by decide) 256 rfl w1).mono ?_
    rintro e w1 ⟨⟨k, hk, rfl⟩, rfl⟩
    obtain ⟨m, hm⟩ : ∃ m : Int, (k : Int) + 1 = m := ⟨_, rfl⟩
    have hm1 : 1 ≤ m := by omega
    have hm2 : m ≤ 256 := by omega
    have hr1 := new_ri w1 3 [m, 128] (by intro z hz; simp at hz; omega)
    have hb2 : Below w1.heap.size w1 (w1.alloc (.cells (i64s [m, 128]).toArray 3)) := (Below.refl _ w1).alloc (Nat.le_refl _) _
    obtain ⟨v, hv1, hv2⟩ := isvalid_two ham har [m, 128] _ 2 2 (if 128 < m then 104 else 0) rfl (two_code m hm1 hm2) (by decide) _ hr1 (HZ1.out.below hb2) (HE1.out.below hb2)
    have HV1 : Hid (Calls Tryd.prog 18 #[.agg (dcells (some ⟨w1.heap.size, 0, none⟩) 2 2 false)] (w1.alloc (.cells #[.int .i64 m, .int .i64 128] 3)) fun e w' => e = .returned v ∧ Below (w1.alloc (.cells #[.int .i64 m, .int .i64 128] 3)).heap.size (w1.alloc (.cells #[.int .i64 m, .int .i64 128] 3)) w') := hide hv1
    have HV2 := hide hv2
    have HB2 := hide hb2
    clear hv1 hv2 hr1 hb2
    have hel : Shp.elems [m, 128] = if 128 < m then 0 else 128 * m := by
      unfold Shp.elems Shp.ok
      rw [two_code m hm1 hm2]
      by_cases h : 128 < m
      · rw [if_pos h, if_pos h]
        rfl
      · rw [if_neg h, if_neg h, if_pos (by decide)]
        simp [Shp.prod]
        omega
    by_cases hbig : 128 < m
    · rw [if_pos hbig] at HV2 hel
      have hmul : wrap64 (128 * m) = 128 * m := by unfold wrap64; omega
      obtain ⟨p, hp⟩ : ∃ p, 128 * m = p := ⟨_, rfl⟩
      have hpb : 16384 < p := by omega
      have hne : ((0 : Int) == p) = false := by simp; omega
      rw [hp] at hmul
      go_wp2_with fail
      refine HV1.out.mono ?_
      rintro e w5 ⟨rfl, hb5⟩
      go_wp2_with fail
      refine (HV2.out w5 hb5).mono ?_
      rintro e w6 ⟨rfl, hb6⟩
      have hb7 := HB1.out.trans ((HB2.out.trans ((hb5.trans (hb6.mono hb5.size)).mono HB2.out.size)).mono HB1.out.size)
      have HE6 := hide (HE1.out.below (HB2.out.trans ((hb5.trans (hb6.mono hb5.size)).mono HB2.out.size)))
      have hb8 : Below w6.heap.size w6 (w6.alloc (.cells (i64s [m, 128]).toArray 3)) := (Below.refl _ w6).alloc (Nat.le_refl _) _
      have hec := elems_c [m, 128] (some ⟨w6.heap.size, 0, none⟩) 2 am ar _ (new_ri w6 3 [m, 128] (by intro z hz; simp at hz; omega)) (by simp) (HE6.out.below hb8)
      rw [hel] at hec
      have HEC : Hid (Calls Tryd.prog 20 #[.slice (some ⟨w6.heap.size, 0, none⟩) 2 2] (w6.alloc (.cells #[.int .i64 m, .int .i64 128] 3)) fun e w' => e = .returned (.int .i64 0) ∧ Below (w6.alloc (.cells #[.int .i64 m, .int .i64 128] 3)).heap.size (w6.alloc (.cells #[.int .i64 m, .int .i64 128] 3)) w') := hide hec
      have HB7 := hide hb7
      have HB8 := hide hb8
      clear hb5 hb6 hb7 hb8 hec hel
      go_wp2_with fail
      refine HEC.out.mono ?_
      rintro e w9 ⟨rfl, hb9⟩
      have hfin := HB7.out.trans ((HB8.out.trans (hb9.mono HB8.out.size)).mono HB7.out.size)
      clear hb9
      go_wp2_with fail
      go_ret
      exact ⟨rfl, hfin⟩
    · rw [if_neg hbig] at HV2 hel
      have hmul : wrap64 (128 * m) = 128 * m := by unfold wrap64; omega
      obtain ⟨p, hp⟩ : ∃ p, 128 * m = p := ⟨_, rfl⟩
      have hpb : ¬ 16384 < p := by omega
      rw [hp] at hel
      rw [hp] at hmul
      go_wp2_with fail
      refine HV1.out.mono ?_
      rintro e w5 ⟨rfl, hb5⟩
      go_wp2_with fail
      refine (HV2.out w5 hb5).mono ?_
      rintro e w6 ⟨rfl, hb6⟩
      have hb7 := HB1.out.trans ((HB2.out.trans ((hb5.trans (hb6.mono hb5.size)).mono HB2.out.size)).mono HB1.out.size)
      have HE6 := hide (HE1.out.below (HB2.out.trans ((hb5.trans (hb6.mono hb5.size)).mono HB2.out.size)))
      have hb8 : Below w6.heap.size w6 (w6.alloc (.cells (i64s [m, 128]).toArray 3)) := (Below.refl _ w6).alloc (Nat.le_refl _) _
      have hec := elems_c [m, 128] (some ⟨w6.heap.size, 0, none⟩) 2 am ar _ (new_ri w6 3 [m, 128] (by intro z hz; simp at hz; omega)) (by simp) (HE6.out.below hb8)
      rw [hel] at hec
      have HEC : Hid (Calls Tryd.prog 20 #[.slice (some ⟨w6.heap.size, 0, none⟩) 2 2] (w6.alloc (.cells #[.int .i64 m, .int .i64 128] 3)) fun e w' => e = .returned (.int .i64 p) ∧ Below (w6.alloc (.cells #[.int .i64 m, .int .i64 128] 3)).heap.size (w6.alloc (.cells #[.int .i64 m, .int .i64 128] 3)) w') := hide hec
      have HB7 := hide hb7
      have HB8 := hide hb8
      clear hb5 hb6 hb7 hb8 hec hel
      go_wp2_with fail
      refine HEC.out.mono ?_
      rintro e w9 ⟨rfl, hb9⟩
      have hfin := HB7.out.trans ((HB8.out.trans (hb9.mono HB8.out.size)).mono HB7.out.size)
      clear hb9
      go_wp2_with fail
      go_ret
      exact ⟨rfl, hfin⟩
end Go.Proofs.YtnbjcdmiehnceaaDoor
