/-
  The law MacSays of package lodgelaw2, walked. By an AI agent. No person has read it.
-/
import Derived.Test.YtijgomgiinlcoaaDoorShaRefMac
import Derived.Test.YtijgomgiinlcoaaDoorShaMacParts
import Derived.Test.YtijgomgiinlcoaaDoorShaSameBytes
namespace Go.Proofs.YtijgomgiinlcoaaDoor
open Go.RowKit

/-- What is read of a block stays where only new memory turns. -/
theorem row_stays {w w' : World} {g : Nat} {ob : Obj} (h : w.heap[g]? = some ob) (hb : Below w.heap.size w w') : w'.heap[g]? = some ob := by
  have hl : g < w.heap.size := by
    rcases Nat.lt_or_ge g w.heap.size with h' | h'
    · exact h'
    · rw [Array.getElem?_eq_none h'] at h; cases h
  exact (hb.block g hl).trans h

set_option maxRecDepth 100000 in
set_option maxHeartbeats 8000000 in
theorem macsays_c (ks xa bs : List Nat) (KA A B : Option Addr) (ck ca cb : Nat) (W : World) (hK : Rb W KA ks) (hkc : ks.length ≤ ck) (hkc2 : ck ≤ 9223372036854775807) (hA : Rb W A xa) (hB : Rb W B bs) (hca : xa.length ≤ ca) (hca2 : ca ≤ 9223372036854775807) (hcb : bs.length ≤ cb) (hcb2 : cb ≤ 9223372036854775807) (hT : Table W) :
    Calls Tryd.prog 8 #[.slice KA ks.length ck, .slice A xa.length ca, .slice B bs.length cb] W fun e w' => e = .returned (.bool true) ∧ Below W.heap.size W w' := by
  obtain ⟨nk, hnk⟩ : ∃ n, Hid (ks.length = n) := ⟨_, hide rfl⟩
  obtain ⟨n, hn⟩ : ∃ n, Hid (xa.length = n) := ⟨_, hide rfl⟩
  obtain ⟨m, hm⟩ : ∃ m, Hid (bs.length = m) := ⟨_, hide rfl⟩
  rw [hnk.out] at hkc ⊢
  rw [hn.out] at hca ⊢
  rw [hm.out] at hcb ⊢
  have HK := hide hK
  have HA := hide hA
  have HB := hide hB
  have HT := hide hT
  clear hK hA hB hT
  by_cases h_nk : 200 < nk
  · have h_nk' : (200 : Int) < nk := by omega
    go_enter Tryd.func8, Tryd.ntmps8
    go_wp2_with fail
    refine (macfirst_c W HT.out).mono ?_
    rintro e w1 ⟨rfl, hB1⟩
    go_wp2_with fail
    go_ret
    exact ⟨rfl, hB1⟩
  by_cases h_n : 250 < n
  · have h_n' : (250 : Int) < n := by omega
    have h_nk' : (nk : Int) ≤ 200 := by omega
    go_enter Tryd.func8, Tryd.ntmps8
    go_wp2_with fail
    refine (macfirst_c W HT.out).mono ?_
    rintro e w1 ⟨rfl, hB1⟩
    go_wp2_with fail
    go_ret
    exact ⟨rfl, hB1⟩
  by_cases h_m : 250 < m
  · have h_m' : (250 : Int) < m := by omega
    have h_nk' : (nk : Int) ≤ 200 := by omega
    have h_n' : (n : Int) ≤ 250 := by omega
    go_enter Tryd.func8, Tryd.ntmps8
    go_wp2_with fail
    refine (macfirst_c W HT.out).mono ?_
    rintro e w1 ⟨rfl, hB1⟩
    go_wp2_with fail
    go_ret
    exact ⟨rfl, hB1⟩
  have h_nk' : (nk : Int) ≤ 200 := by omega
  have h_n' : (n : Int) ≤ 250 := by omega
  have h_m' : (m : Int) ≤ 250 := by omega
  obtain ⟨i0, hi0, hz0, hz1, hz2⟩ := u8info
  obtain ⟨Z, hZ⟩ : ∃ Z, Hid (madeCells (Value.int .u8 0).cells 500 = Z) := ⟨_, hide rfl⟩
  have hZs : Hid (Z.size = 500) := hide (by rw [← hZ.out, size_madeCells])
  have hmk : ∀ w : World, (Instr.makeSlice 22 (.int .i64 0) (.int .i64 500)).run Tryd.prog w = .ok (.slice (some ⟨w.heap.size, 0, none⟩) 0 500) (w.alloc (.cells Z 5)) := by
    intro w
    have h := run_make (P := Tryd.prog) w 22 5 i0 (.int .u8 0) ubs hi0 hz0 .i64 .i64 0 500 (by omega) (by omega) (by rw [hz2]; omega) (by omega)
    rw [hz1, show (500 : Int).toNat = 500 by rfl, Nat.mul_one, hZ.out] at h
    exact h
  clear hi0 hz0 hz1 hz2
  go_enter Tryd.func8, Tryd.ntmps8
  go_wp2_with fail
  refine (macfirst_c W HT.out).mono ?_
  rintro e w1 ⟨rfl, hB1⟩
  have hown0 : Hid ((w1.alloc (.cells Z 5)).ownsRow W.heap.size 5 1 (.slice (some ⟨w1.heap.size, 0, none⟩) 0 500) 0 (u8s [])) := hide (by
    refine ⟨by simp, .inr ⟨_, 500, Z, rfl, hB1.size, heap_alloc_new w1 _, by omega, by unfold maxLen; omega, by rw [hZs.out], by simp⟩⟩)
  have HB1 := hide (hB1.alloc hB1.size (.cells Z 5))
  have hs1 := hB1.size
  have hrA := hide (HA.out.below HB1.out)
  have hb0 : Hid (0 + n ≤ 1000000000000) := hide (by omega)
  have hsz : Hid (W.heap.size ≤ (w1.alloc (.cells Z 5)).heap.size) := hide (by simp; omega)
  clear hB1
  go_wp2_with (at_builtin; refine wpList_append_bs rfl (.tmp 32) (.tmp 33) rfl W.heap.size _ 0 (u8s []) rfl hown0.out A n ca xa rfl hn hrA.out hb0.out hsz.out ?_)
  intro v1 w2 hown1 hgrow1 _
  have hB2 : Below W.heap.size W w2 := HB1.out.grown hgrow1 hsz.out (fun k hk => (hown0.out.lt k hk).1)
  have hown1' : w2.ownsRow W.heap.size 5 1 v1 n (u8s xa) := by simpa using hown1
  have HO1 := hide hown1'
  have HB2 := hide hB2
  have hrB := hide (HB.out.below hB2)
  have hb1 : Hid (n + m ≤ 1000000000000) := hide (by omega)
  have hsz2 : Hid (W.heap.size ≤ w2.heap.size) := hide hB2.size
  clear hown1 hgrow1 hown1' hB2 hrA hb0 hsz hown0
  go_wp2_with (at_builtin; refine wpList_append_bs rfl (.tmp 34) (.tmp 35) rfl W.heap.size v1 n (u8s xa) rfl HO1.out B m cb bs rfl hm hrB.out hb1.out hsz2.out ?_)
  intro v2 w3 hown2 hgrow2 _
  have hB3 : Below W.heap.size W w3 := HB2.out.grown hgrow2 hsz2.out (fun k hk => (HO1.out.lt k hk).1)
  obtain ⟨both, hboth⟩ : ∃ l, Hid (xa ++ bs = l) := ⟨_, hide rfl⟩
  obtain ⟨L, hL⟩ : ∃ k, Hid (n + m = k) := ⟨_, hide rfl⟩
  have hLl : L ≤ 500 := by rw [← hL.out]; omega
  have hbl : Hid (both.length = L) := hide (by rw [← hboth.out, List.length_append, hn.out, hm.out, hL.out])
  have hbB : Hid (Sha.Bytes both) := hide (by rw [← hboth.out]; exact HA.out.1.append HB.out.1)
  rw [show u8s xa ++ u8s bs = u8s both by rw [← hboth.out]; simp [u8s], hL.out] at hown2
  obtain ⟨A3, c3, rfl, -, hc3, hc32, hr3, -⟩ := own_rb hown2 hbB.out
  have HR3 := hide hr3
  have HB3 := hide hB3
  clear hown2 hgrow2 hr3 hB3 HO1 HB2 hrB hb1 hsz2
  obtain ⟨d, hd⟩ : ∃ d, Hid (Sha.tag ks both = d) := ⟨_, hide rfl⟩
  have hdl : Hid (d.length = 32) := hide (by rw [← hd.out]; exact tag_length _ _)
  have hdb : Hid (Sha.Bytes d) := hide (by rw [← hd.out]; exact tag_bytes _ _)
  obtain ⟨D, hD⟩ : ∃ D, Hid ((u8s d).toArray = D) := ⟨_, hide rfl⟩
  have hDs : Hid ((Tryd.prog.info? 24).map (·.size) = some D.size) := by
    rw [← hD.out]
    show _ = some ((u8s d).toArray).size
    rw [List.size_toArray, List.length_map, hdl.out]
    kernel_rfl
  have hDl : Hid ((u8s (List.replicate 32 0)).toArray.size = D.size) := by
    rw [← hD.out]
    simp [Hid, hdl.out]
  have hD1 : Hid (D.all (·.oneCell') = true) := by
    rw [← hD.out]
    simp [Hid, Function.comp_def, Value.oneCell']
  obtain ⟨f, hf⟩ : ∃ d, Hid (Sha.tag ks xa = d) := ⟨_, hide rfl⟩
  have hfl : Hid (f.length = 32) := hide (by rw [← hf.out]; exact tag_length _ _)
  have hfb : Hid (Sha.Bytes f) := hide (by rw [← hf.out]; exact tag_bytes _ _)
  obtain ⟨F, hF⟩ : ∃ D, Hid ((u8s f).toArray = D) := ⟨_, hide rfl⟩
  have hFs : Hid ((Tryd.prog.info? 24).map (·.size) = some F.size) := by
    rw [← hF.out]
    show _ = some ((u8s f).toArray).size
    rw [List.size_toArray, List.length_map, hfl.out]
    kernel_rfl
  have hFl : Hid ((u8s (List.replicate 32 0)).toArray.size = F.size) := by
    rw [← hF.out]
    simp [Hid, hfl.out]
  have hF1 : Hid (F.all (·.oneCell') = true) := by
    rw [← hF.out]
    simp [Hid, Function.comp_def, Value.oneCell']
  have hw := refmac_c ks both KA A3 ck c3 w3 (HK.out.below HB3.out) (by rw [hnk.out]; omega) HR3.out (by rw [hbl.out]; omega)
  rw [hnk.out, hbl.out, hd.out, hD.out] at hw
  have HW := hide hw
  clear hw
  go_wp2_with fail
  refine HW.out.mono ?_
  rintro e w4 ⟨rfl, hB4⟩
  have HB4 := hide (HB3.out.trans (hB4.mono HB3.out.size))
  have HR4 := hide (HR3.out.below hB4)
  clear hB4 HW
  have hz : Hid ((w4.alloc (.cells (u8s (List.replicate 32 0)).toArray 24)).heap[w4.heap.size]? = some (.cells (u8s (List.replicate 32 0)).toArray 24 (0, 0))) := heap_alloc_new w4 _
  have hzD : Hid (((w4.alloc (.cells (u8s (List.replicate 32 0)).toArray 24)).setRow w4.heap.size D).heap[w4.heap.size]? = some (.cells D 24 (0, 0))) := setRow_heap _ _ _ D _ _ hz.out
  have hBD : Hid (Below w4.heap.size w4 ((w4.alloc (.cells (u8s (List.replicate 32 0)).toArray 24)).setRow w4.heap.size D)) := hide (below_setRow ((Below.refl _ _).alloc (Nat.le_refl _) _) (Nat.le_refl _) _)
  go_wp2_with (refine wpList_store_row rfl 24 (.tmp 9) (.tmp 39) rfl w4.heap.size D rfl rfl _ _ hz.out hDs.out hDl.out hD1.out ?_
               generalize hw8 : World.setRow _ w4.heap.size D = w5
               have hw8' : (w4.alloc (.cells (u8s (List.replicate 32 0)).toArray 24)).setRow w4.heap.size D = w5 := hw8
               rw [hw8'] at hzD hBD
               clear hz hw8 hw8')
  have HB5 := hide (HB4.out.trans (hBD.out.mono HB4.out.size))
  have HR5 := hide (HR4.out.below hBD.out)
  have hw := refmac_c ks xa KA A ck ca w5 (HK.out.below HB5.out) (by rw [hnk.out]; omega) (HA.out.below HB5.out) (by rw [hn.out]; omega)
  rw [hnk.out, hn.out, hf.out, hF.out] at hw
  refine hw.mono ?_
  clear hw
  rintro e w6 ⟨rfl, hB6⟩
  have HB6 := hide (HB5.out.trans (hB6.mono HB5.out.size))
  have HR6 := hide (HR5.out.below hB6)
  have hZ6 := hide (row_stays hzD.out hB6)
  clear hB6 hzD
  have hz : Hid ((w6.alloc (.cells (u8s (List.replicate 32 0)).toArray 24)).heap[w6.heap.size]? = some (.cells (u8s (List.replicate 32 0)).toArray 24 (0, 0))) := heap_alloc_new w6 _
  have hzF : Hid (((w6.alloc (.cells (u8s (List.replicate 32 0)).toArray 24)).setRow w6.heap.size F).heap[w6.heap.size]? = some (.cells F 24 (0, 0))) := setRow_heap _ _ _ F _ _ hz.out
  have hBF : Hid (Below w6.heap.size w6 ((w6.alloc (.cells (u8s (List.replicate 32 0)).toArray 24)).setRow w6.heap.size F)) := hide (below_setRow ((Below.refl _ _).alloc (Nat.le_refl _) _) (Nat.le_refl _) _)
  go_wp2_with (refine wpList_store_row rfl 24 (.tmp 10) (.tmp 42) rfl w6.heap.size F rfl rfl _ _ hz.out hFs.out hFl.out hF1.out ?_
               generalize hw8 : World.setRow _ w6.heap.size F = w8
               have hw8' : (w6.alloc (.cells (u8s (List.replicate 32 0)).toArray 24)).setRow w6.heap.size F = w8 := hw8
               rw [hw8'] at hzF hBF
               clear hz hw8 hw8')
  have HB8 := hide (HB6.out.trans (hBF.out.mono HB6.out.size))
  have HR8 := hide (HR6.out.below hBF.out)
  have HZ8 : Hid (w8.heap[w4.heap.size]? = some (.cells D 24 (0, 0))) := hide (row_stays hZ6.out hBF.out)
  have HS8 := hzF
  clear hBF hBD hZ6 hzF
  have hp1 := parts_two (w := w8.drew) (A := A) (A2 := B) (cap := ca) (cap2 := cb) (HA.out.below HB8.out.drew) (by rw [hn.out]; exact hca) hca2 (HB.out.below HB8.out.drew) (by rw [hm.out]; exact hcb) hcb2
  rw [hn.out, hm.out] at hp1
  have hBa : Hid (Below W.heap.size W (w8.drew.alloc (.cells #[.slice A n ca, .slice B m cb] 22))) := hide (HB8.out.drew.alloc HB8.out.drew.size _)
  have hof := mactag_c ks KA (some ⟨w8.drew.heap.size, 0, none⟩) ck 2 [xa, bs] (w8.drew.alloc (.cells #[.slice A n ca, .slice B m cb] 22)) (HK.out.below hBa.out) (by rw [hnk.out]; omega) (by rw [hnk.out]; exact hkc) hkc2 hp1 (by simp) (by simp [hn.out, hm.out]; omega) (HT.out.below hBa.out)
  rw [show [xa, bs].flatten = xa ++ bs by simp, hboth.out, hnk.out, hd.out, hD.out] at hof
  have HOF := hide hof
  have hza : Hid ((w8.drew.alloc (.cells #[.slice A n ca, .slice B m cb] 22)).heap[w4.heap.size]? = some (.cells D 24 (0, 0))) := hide (row_stays (w := w8.drew) HZ8.out ((Below.refl _ _).alloc (Nat.le_refl _) _))
  clear hof hp1
  refine wp_region_any (by kernel_rfl) ?_
  change wpAny _ _ _ _ _ _ _ (World.drew _)
  refine wpAny_take (i := 0) (v := .slice KA nk ck) rfl (by kernel_rfl) (by kernel_rfl) (by kernel_rfl) (fun _ _ _ h => h) (Or.inl ⟨by rfl, by intro w; go_simp⟩) ?_
  refine wpAny_take (i := 1) (v := .slice A n ca) rfl (by kernel_rfl) (by kernel_rfl) (by kernel_rfl) (fun _ _ _ h => h) (Or.inl ⟨by rfl, by intro w; go_simp⟩) ?_
  refine wpAny_take (i := 2) (v := .slice B m cb) rfl (by kernel_rfl) (by kernel_rfl) (by kernel_rfl) (fun _ _ _ h => h) (Or.inl ⟨by rfl, by intro w; go_simp⟩) ?_
  refine wpAny_ready (rs := [3, 5]) (by kernel_rfl) (by simp) ?_
  refine AllReady.cons rfl (fun K hK => ?_) (AllReady.cons rfl (fun K hK => ?_) AllReady.nil)
  focus
    go_simp
    refine hK _ _ ?_
    clear hK K
    refine wpAny_ready (rs := [4, 5]) (by kernel_rfl) (by simp) ?_
    refine AllReady.cons rfl (fun K hK => ?_) (AllReady.cons rfl (fun K hK => ?_) AllReady.nil)
    focus
      go_simp
      refine HOF.out.mono ?_
      rintro e wy ⟨rfl, hBy⟩
      refine hK _ _ ?_
      clear hK K
      have hzq := hide (row_stays hza.out hBy)
      refine wpAny_ready (rs := [5]) (by kernel_rfl) (by simp) ?_
      refine AllReady.cons rfl (fun K hK => ?_) AllReady.nil
      refine step_load_row (by rfl) 24 (.tmp 9) rfl w4.heap.size rfl 24 D (0, 0) hzq.out _ _ Tryd.underlying24 hDs.out ?_
      refine hK _ _ ?_
      clear hK K
      clear hzq
    rotate_left
    focus
      refine step_load_row (by rfl) 24 (.tmp 9) rfl w4.heap.size rfl 24 D (0, 0) hza.out _ _ Tryd.underlying24 hDs.out ?_
      refine hK _ _ ?_
      clear hK K
      refine wpAny_ready (rs := [4]) (by kernel_rfl) (by simp) ?_
      refine AllReady.cons rfl (fun K hK => ?_) AllReady.nil
      go_simp
      refine HOF.out.mono ?_
      rintro e wy ⟨rfl, hBy⟩
      refine hK _ _ ?_
      clear hK K
    rotate_left
  rotate_left 2
  focus
    refine step_load_row (by rfl) 24 (.tmp 9) rfl w4.heap.size rfl 24 D (0, 0) HZ8.out _ _ Tryd.underlying24 hDs.out ?_
    refine hK _ _ ?_
    clear hK K
    refine wpAny_ready (rs := [3]) (by kernel_rfl) (by simp) ?_
    refine AllReady.cons rfl (fun K hK => ?_) AllReady.nil
    go_simp
    refine hK _ _ ?_
    clear hK K
    refine wpAny_ready (rs := [4]) (by kernel_rfl) (by simp) ?_
    refine AllReady.cons rfl (fun K hK => ?_) AllReady.nil
    go_simp
    refine HOF.out.mono ?_
    rintro e wy ⟨rfl, hBy⟩
    refine hK _ _ ?_
    clear hK K
  all_goals
    have HBy := hide (hBa.out.trans (hBy.mono hBa.out.size))
    have HZy := hide (row_stays hza.out hBy)
    have hb8a : Hid (Below w8.heap.size w8 (w8.drew.alloc (.cells #[.slice A n ca, .slice B m cb] 22))) := hide (((Below.refl _ _).drew).alloc (Nat.le_refl _) _)
    have HRy := hide ((HR8.out.below hb8a.out).below hBy)
    have HSy := hide (row_stays (row_stays HS8.out hb8a.out) hBy)
    clear hBy hb8a
    refine wpAny_ready (rs := [6]) (by kernel_rfl) (by simp) ?_
    refine AllReady.cons rfl (fun K hK => ?_) AllReady.nil
    go_simp
    have hs := samesum_c d hdl.out hdb.out wy
    rw [hD.out] at hs
    refine hs.mono ?_
    clear hs
    rintro e wz ⟨rfl, hBz⟩
    refine hK _ _ ?_
    clear hK K
    have HBz := hide (HBy.out.trans (hBz.mono HBy.out.size))
    have HZz := hide (row_stays HZy.out hBz)
    have HRz := hide (HRy.out.below hBz)
    have HSz := hide (row_stays HSy.out hBz)
    clear hBz HBy HZy HRy HSy
    have hp1 := parts_one (w := wz) (cap := c3) HRz.out (by rw [hbl.out]; exact hc3) hc32
    rw [hbl.out] at hp1
    have hBb : Hid (Below W.heap.size W (wz.alloc (.cells #[.slice A3 L c3] 22))) := hide (HBz.out.alloc HBz.out.size _)
    have hof := mactag_c ks KA (some ⟨wz.heap.size, 0, none⟩) ck 1 [both] (wz.alloc (.cells #[.slice A3 L c3] 22)) (HK.out.below hBb.out) (by rw [hnk.out]; omega) (by rw [hnk.out]; exact hkc) hkc2 hp1 (by simp) (by simp [hbl.out]; omega) (HT.out.below hBb.out)
    rw [show [both].flatten = both by simp, hnk.out, hd.out, hD.out] at hof
    have HOF2 := hide hof
    have hzb : Hid ((wz.alloc (.cells #[.slice A3 L c3] 22)).heap[w4.heap.size]? = some (.cells D 24 (0, 0))) := hide (row_stays HZz.out ((Below.refl _ _).alloc (Nat.le_refl _) _))
    have hsb := hide (row_stays HSz.out ((Below.refl _ wz).alloc (Nat.le_refl _) (.cells #[.slice A3 L c3] 22)))
    clear hof hp1
    refine wpAny_take (i := 7) (v := .bool true) rfl (by kernel_rfl) (by kernel_rfl) (by kernel_rfl) (fun _ _ _ h => h) (Or.inl ⟨by rfl, by intro w; go_simp⟩) ?_
    refine wpAny_take (i := 8) (v := .slice KA nk ck) rfl (by kernel_rfl) (by kernel_rfl) (by kernel_rfl) (fun _ _ _ h => h) (Or.inl ⟨by rfl, by intro w; go_simp⟩) ?_
    refine wpAny_take (i := 9) (v := .slice A3 L c3) rfl (by kernel_rfl) (by kernel_rfl) (by kernel_rfl) (fun _ _ _ h => h) (Or.inl ⟨by rfl, by intro w; go_simp⟩) ?_
    refine wpAny_ready (rs := [10, 12]) (by kernel_rfl) (by simp) ?_
    refine AllReady.cons rfl (fun K hK => ?_) (AllReady.cons rfl (fun K hK => ?_) AllReady.nil)
    focus
      go_simp
      refine hK _ _ ?_
      clear hK K
      refine wpAny_ready (rs := [11, 12]) (by kernel_rfl) (by simp) ?_
      refine AllReady.cons rfl (fun K hK => ?_) (AllReady.cons rfl (fun K hK => ?_) AllReady.nil)
      focus
        go_simp
        refine HOF2.out.mono ?_
        rintro e wv ⟨rfl, hBv⟩
        refine hK _ _ ?_
        clear hK K
        have hzq := hide (row_stays hzb.out hBv)
        refine wpAny_ready (rs := [12]) (by kernel_rfl) (by simp) ?_
        refine AllReady.cons rfl (fun K hK => ?_) AllReady.nil
        refine step_load_row (by rfl) 24 (.tmp 9) rfl w4.heap.size rfl 24 D (0, 0) hzq.out _ _ Tryd.underlying24 hDs.out ?_
        refine hK _ _ ?_
        clear hK K
        clear hzq
      rotate_left
      focus
        refine step_load_row (by rfl) 24 (.tmp 9) rfl w4.heap.size rfl 24 D (0, 0) hzb.out _ _ Tryd.underlying24 hDs.out ?_
        refine hK _ _ ?_
        clear hK K
        refine wpAny_ready (rs := [11]) (by kernel_rfl) (by simp) ?_
        refine AllReady.cons rfl (fun K hK => ?_) AllReady.nil
        go_simp
        refine HOF2.out.mono ?_
        rintro e wv ⟨rfl, hBv⟩
        refine hK _ _ ?_
        clear hK K
      rotate_left
    rotate_left 2
    focus
      refine step_load_row (by rfl) 24 (.tmp 9) rfl w4.heap.size rfl 24 D (0, 0) HZz.out _ _ Tryd.underlying24 hDs.out ?_
      refine hK _ _ ?_
      clear hK K
      refine wpAny_ready (rs := [10]) (by kernel_rfl) (by simp) ?_
      refine AllReady.cons rfl (fun K hK => ?_) AllReady.nil
      go_simp
      refine hK _ _ ?_
      clear hK K
      refine wpAny_ready (rs := [11]) (by kernel_rfl) (by simp) ?_
      refine AllReady.cons rfl (fun K hK => ?_) AllReady.nil
      go_simp
      refine HOF2.out.mono ?_
      rintro e wv ⟨rfl, hBv⟩
      refine hK _ _ ?_
      clear hK K
    all_goals
      have HBv := hide (hBb.out.trans (hBv.mono hBb.out.size))
      have HSv := hide (row_stays hsb.out hBv)
      clear hBv
      refine wpAny_ready (rs := [13]) (by kernel_rfl) (by simp) ?_
      refine AllReady.cons rfl (fun K hK => ?_) AllReady.nil
      go_simp
      have hs := samesum_c d hdl.out hdb.out wv
      rw [hD.out] at hs
      refine hs.mono ?_
      clear hs
      rintro e wu ⟨rfl, hBu⟩
      refine hK _ _ ?_
      clear hK K
      have HBu := hide (HBv.out.trans (hBu.mono HBv.out.size))
      have HSu := hide (row_stays HSv.out hBu)
      clear hBu HBv HSv
      have hcv := str_of (HA.out.below HBu.out) ca
      rw [hn.out] at hcv
      obtain ⟨S, hS⟩ : ∃ S, Hid (strB xa = S) := ⟨_, hide rfl⟩
      rw [hS.out] at hcv
      have hsub := sub_c ks xa KA ck wu (HK.out.below HBu.out) (by rw [hnk.out]; omega) (by rw [hnk.out]; exact hkc) hkc2 HA.out.1 (by rw [hn.out]; omega) (HT.out.below HBu.out)
      rw [hnk.out, hS.out, hf.out] at hsub
      have HSUB := hide hsub
      clear hsub
      refine wpAny_ready (rs := [14]) (by kernel_rfl) (by simp) ?_
      refine AllReady.cons rfl (fun K hK => ?_) AllReady.nil
      go_simp
      refine hK _ _ ?_
      clear hK K
      refine wpAny_take (i := 15) (v := .bool true) rfl (by kernel_rfl) (by kernel_rfl) (by kernel_rfl) (fun _ _ _ h => h) (Or.inl ⟨by rfl, by intro w; go_simp⟩) ?_
      refine wpAny_take (i := 16) (v := .slice KA nk ck) rfl (by kernel_rfl) (by kernel_rfl) (by kernel_rfl) (fun _ _ _ h => h) (Or.inl ⟨by rfl, by intro w; go_simp⟩) ?_
      refine wpAny_take (i := 17) (v := .slice A n ca) rfl (by kernel_rfl) (by kernel_rfl) (by kernel_rfl) (fun _ _ _ h => h) (Or.inl ⟨by rfl, by intro w; go_simp⟩) ?_
      refine wpAny_take (i := 20) (v := .slice (some ⟨w6.heap.size, 0, none⟩) 32 32) rfl (by kernel_rfl) (by kernel_rfl) (by kernel_rfl) (fun _ _ _ h => h) (Or.inl ⟨by rfl, by intro w; go_simp⟩) ?_
      refine wpAny_ready (rs := [18]) (by kernel_rfl) (by simp) ?_
      refine AllReady.cons rfl (fun K hK => ?_) AllReady.nil
      go_simp
      refine hK _ _ ?_
      clear hK K
      refine wpAny_ready (rs := [19]) (by kernel_rfl) (by simp) ?_
      refine AllReady.cons rfl (fun K hK => ?_) AllReady.nil
      go_simp
      refine HSUB.out.mono ?_
      rintro e wt ⟨hBt, gs, rfl, -, hHs⟩
      refine hK _ _ ?_
      clear hK K
      have HBt := hide (HBu.out.trans (hBt.mono HBu.out.size))
      have hHf : Has wt w6.heap.size 24 (u8s f) := by
        unfold Has
        rw [row_stays HSu.out hBt, hF.out]
      have hsm := samebytes_c f f (some ⟨gs, 0, none⟩) (some ⟨w6.heap.size, 0, none⟩) 32 32 wt (has_rb hHs hfb.out) (has_rb hHf hfb.out) (by rw [hfl.out]; decide) (by rw [hfl.out]; decide)
      rw [hfl.out, show decide (f = f) = true by simp] at hsm
      have HSM := hide hsm
      clear hsm hBt hHs hHf
      refine wpAny_ready (rs := [21]) (by kernel_rfl) (by simp) ?_
      refine AllReady.cons rfl (fun K hK => ?_) AllReady.nil
      go_simp
      refine HSM.out.mono ?_
      rintro e ws ⟨rfl, hBs⟩
      refine hK _ _ ?_
      clear hK K
      have hfin := HBt.out.trans (hBs.mono HBt.out.size)
      clear hBs
      refine wpAny_ready (rs := [22]) (by kernel_rfl) (by simp) ?_
      refine AllReady.cons rfl (fun K hK => ?_) AllReady.nil
      go_simp
      refine hK _ _ ?_
      clear hK K
      refine wpAny_ready (rs := [23]) (by kernel_rfl) (by simp) ?_
      refine AllReady.cons rfl (fun K hK => ?_) AllReady.nil
      go_simp
      refine hK _ _ ?_
      clear hK K
      refine wpAny_done (by kernel_rfl) ?_ _
      go_wp2_with fail
      go_ret
      exact ⟨rfl, hfin⟩
end Go.Proofs.YtijgomgiinlcoaaDoor
