/-
  mac.Of for a key longer than a block, walked; the tag for any key. By an AI agent. No person has read it.
-/
import Derived.Test.YtijgomgiinlcoaaDoorShaMacFirst
namespace Go.Proofs.YtijgomgiinlcoaaDoor
open Go.RowKit

/-- The key that is used. -/
def Sha.keyOf (k : List Nat) : List Nat := if k.length ≤ 64 then k else Sha.digest k
def Sha.tag (k m : List Nat) : List Nat := Sha.mac (Sha.keyOf k) m
/-- How far the parts are written. -/
def LInv2 (w0 : World) (r : Nat) (k : List Nat) (ps : List (List Nat)) (i : Nat) (wr : World) : Prop := HashIs wr w0.heap.size (Sha.turned k 54 64 ++ (ps.take i).flatten) ∧ Below w0.heap.size w0 wr ∧ Has wr r 24 (u8s (List.replicate 32 0))

set_option maxRecDepth 100000 in
set_option maxHeartbeats 4000000 in
theorem maclong_c (k : List Nat) (A P : Option Addr) (capk capp : Nat) (ps : List (List Nat)) (w : World) (hk : Rb w A k) (hkl : ¬ k.length ≤ 64) (hkm : k.length ≤ 1000000) (hkc : k.length ≤ capk) (hkc2 : capk ≤ 9223372036854775807) (hP : Parts w P ps) (hn : ps.length ≤ 9223372036854775807) (hlen : ps.flatten.length < 1099511620000) (hT : Table w) :
    Calls Tryd.prog 31 #[.slice A k.length capk, .slice P ps.length capp] w fun e w' => e = .returned (.agg (u8s (Sha.mac (Sha.digest k) ps.flatten)).toArray) ∧ Below w.heap.size w w' := by
  obtain ⟨nk, hnk⟩ : ∃ n, Hid (k.length = n) := ⟨_, hide rfl⟩
  have hkI : (64 : Int) < nk := by have := hnk.out; omega
  have HK0 := hide hk
  have HP0 := hide hP
  have HT0 := hide hT
  rw [hnk.out] at hkm hkc
  rw [hnk.out]
  clear hk hkl hP hT
  obtain ⟨kd, hkd⟩ : ∃ l, Hid (Sha.digest k = l) := ⟨_, hide rfl⟩
  have hkdl : Hid (kd.length = 32) := hide (by rw [← hkd.out]; exact Sha.digest_length _)
  have hkdb : Hid (Sha.Bytes kd) := hide (by rw [← hkd.out]; exact Sha.digest_bytes _)
  rw [hkd.out]
  obtain ⟨DK, hDK⟩ : ∃ D : Array Value, Hid ((u8s kd).toArray = D) := ⟨_, hide rfl⟩
  have hDKs : Hid ((Tryd.prog.info? 24).map (·.size) = some DK.size) := by
    rw [← hDK.out]
    show _ = some ((u8s kd).toArray).size
    rw [List.size_toArray, List.length_map, hkdl.out]
    kernel_rfl
  have hDKl : Hid ((u8s (List.replicate 32 0)).toArray.size = DK.size) := by
    rw [← hDK.out]
    simp [Hid, hkdl.out]
  have hDK1 : Hid (DK.all (·.oneCell') = true) := by
    rw [← hDK.out]
    simp [Hid, Function.comp_def, Value.oneCell']
  have hA1 : Hid (Below w.heap.size w (w.alloc (.cells (u8s (List.replicate 32 0)).toArray 24))) := hide ((Below.refl _ _).alloc (Nat.le_refl _) _)
  have hres1 : Hid (Has (w.alloc (.cells (u8s (List.replicate 32 0)).toArray 24)) w.heap.size 24 (u8s (List.replicate 32 0))) := hide (Has.new w _ _)
  obtain ⟨wa, hwa⟩ : ∃ x, x = w.alloc (.cells (u8s (List.replicate 32 0)).toArray 24) := ⟨_, rfl⟩
  rw [← hwa] at hA1 hres1
  have hwas : wa.heap.size = w.heap.size + 1 := by rw [hwa, World.size_alloc]
  have hp1 := parts_one (w := wa) (cap := capk) (HK0.out.below hA1.out) (by rw [hnk.out]; exact hkc) hkc2
  have hofk := of_c (some ⟨wa.heap.size, 0, none⟩) [k] 1 _ hp1 (by simp) (by simp [hnk.out]; omega) (HT0.out.below (hA1.out.alloc hA1.out.size _))
  rw [show [k].flatten = k by simp, hnk.out, hkd.out, hDK.out] at hofk
  have HOFK := hide hofk
  clear hofk hp1
  rw [hwa, World.size_alloc] at HOFK
  go_enter Tryd.func31, Tryd.ntmps31
  go_wp2_with fail
  refine HOFK.out.mono ?_
  rintro e wb ⟨rfl, hBb⟩
  rw [← hwa] at hBb
  have hBb' : Below w.heap.size w wb := (hA1.out.alloc hA1.out.size _).trans (hBb.mono (by simp; omega))
  have hresb := (hres1.out.alloc (.cells #[.slice A nk capk] 22)).below hBb (by simp; omega)
  clear HOFK hBb hwa hres1 hA1
  have hzb : Hid ((wb.alloc (.cells (u8s (List.replicate 32 0)).toArray 24)).heap[wb.heap.size]? = some (.cells (u8s (List.replicate 32 0)).toArray 24 (0, 0))) := heap_alloc_new wb _
  have hBc : Hid (Below w.heap.size w ((wb.alloc (.cells (u8s (List.replicate 32 0)).toArray 24)).setRow wb.heap.size DK)) := hide (below_setRow (hBb'.alloc hBb'.size _) hBb'.size _)
  have hkc0 : Hid (Has ((wb.alloc (.cells (u8s (List.replicate 32 0)).toArray 24)).setRow wb.heap.size DK) wb.heap.size 24 (u8s kd)) := hide (by
    have h := setRow_heap _ _ _ DK _ _ hzb.out
    unfold Has
    rw [h, hDK.out])
  have hresc : Hid (Has ((wb.alloc (.cells (u8s (List.replicate 32 0)).toArray 24)).setRow wb.heap.size DK) w.heap.size 24 (u8s (List.replicate 32 0))) := hide (by
    have h := hresb.alloc (.cells (u8s (List.replicate 32 0)).toArray 24)
    unfold Has at h ⊢
    rw [setRow_other _ _ _ _ (by have := hresb.lt; omega)]
    exact h)
  clear hBb' hresb
  go_wp2_with (refine wpList_store_row rfl 24 (.tmp 5) (.tmp 15) rfl wb.heap.size DK rfl rfl _ _ hzb.out hDKs.out hDKl.out hDK1.out ?_
               generalize hw0 : World.setRow _ wb.heap.size DK = w0
               have hw0' : (wb.alloc (.cells (u8s (List.replicate 32 0)).toArray 24)).setRow wb.heap.size DK = w0 := hw0
               rw [hw0'] at hBc hkc0 hresc
               clear hzb hw0 hw0')
  obtain ⟨gs, hgs⟩ : ∃ x, Hid (wb.heap.size = x) := ⟨_, hide rfl⟩
  rw [hgs.out] at hkc0 ⊢
  have HK := hide (has_rb hkc0.out hkdb.out)
  have HKL : Hid (kd.length ≤ 64) := hide (by rw [hkdl.out]; decide)
  have hP := HP0.out.below hBc.out
  have hT := HT0.out.below hBc.out
  have hres0 := hresc.out.lt
  have hgl := hkc0.out.lt
  clear hgs hkc0
  refine (new_c w0).mono ?_
  rintro e w1 ⟨rfl, hH1, hB1⟩
  have hB1' : Below w0.heap.size w0 w1 := hB1
  have hr1 : Has w1 w.heap.size 24 (u8s (List.replicate 32 0)) := hresc.out.below hB1 hres0
  go_wp2_with fail
  have hw := padded_c kd (some ⟨gs, 0, none⟩) 32 54 54 rfl w1 (HK.out.below hB1') HKL.out (by decide)
  rw [hkdl.out] at hw
  refine hw.mono ?_
  rintro e w2 ⟨rfl, hR2, hB2⟩
  clear hw
  have hH2 := hH1.below hB2
  have hB2' := hB1'.trans (hB2.mono hB1'.size)
  have hr2 := hr1.below hB2 hr1.lt
  have ht : (Sha.turned kd 54 64).length = 64 := Sha.turned_length kd 54 64 HKL.out (by omega)
  have hrd : Rd w2 w0.heap.size (some ⟨w1.heap.size, 0, none⟩) (Sha.turned kd 54 64) := by
    refine ⟨turned_bytes HK.out.1 (by decide), fun _ => ⟨_, rfl, ?_, hR2.lt, fun i b hi => ?_⟩⟩
    · have := hH1.lt; simp; omega
    · have e : (⟨w1.heap.size, 0, none⟩ : Addr).add i = ⟨w1.heap.size, i, none⟩ := by unfold Addr.add; split <;> simp_all
      rw [e, hR2.cell, List.getElem?_map, hi]
      rfl
  go_wp2_with fail
  have hw := write_c w0.heap.size [] (Sha.turned kd 54 64) (some ⟨w1.heap.size, 0, none⟩) 64 w2 hH2 hrd (by rw [ht]; decide) (by rw [ht]; decide) (by decide) (hT.below hB2')
  rw [ht, List.nil_append] at hw
  refine hw.mono ?_
  rintro e w3 ⟨rfl, hH3, hG3⟩
  clear hw
  have hI : LInv2 w0 w.heap.size kd ps 0 w3 := ⟨by simpa using hH3, hB2'.trans (below_of_grown hG3 (by omega) hB2'.size), hr2.grown hG3 (by simp; omega)⟩
  have HI := hide hI
  have HTT := hide ht
  clear hI hH3 hG3 hrd ht hr2 hB2 hR2 hH2 hr1 hB1 hH1 hB1' hB2'
  go_wp2_with fail
  go_loopw [24] (fun v wr => ∃ i : Nat, i ≤ ps.length ∧ v = .int .i64 i ∧ LInv2 w0 w.heap.size kd ps i wr) (fun v _ => ps.length - (intOf v).toNat)
  case atStart => exact ⟨0, by omega, rfl, HI.out⟩
  case round =>
    obtain ⟨i, hi, rfl, hI⟩ := hrel
    by_cases hlt : i < ps.length
    · obtain ⟨p, hp⟩ : ∃ p, ps[i]? = some p := ⟨_, List.getElem?_eq_getElem hlt⟩
      obtain ⟨ad, A, cp, rfl, ha, hc, hc1, hc2, hr⟩ := hP i p hp
      have hcell := (hI.2.1.cell (p := ad.add i) (by rw [block_add]; exact ha)).trans hc
      have HP := hide hp
      have HPP := hide hP
      clear hp hP hc
      have hfl := flat_le ps i p HP.out
      go_wp2_with fail
      refine (write_c w0.heap.size _ p A cp wr hI.1 (hr.rd hI.2.1 (by omega)) (by rw [List.length_append, HTT.out]; omega) hc1 hc2 (hT.below hI.2.1)).mono ?_
      rintro e w6 ⟨rfl, hH6, hG6⟩
      rw [List.append_assoc, flat_succ ps i p HP.out] at hH6
      go_wp2_with fail
      go_roundw
      case rel => exact ⟨i + 1, by omega, by go_num, hH6, hI.2.1.trans (below_of_grown hG6 (by omega) hI.2.1.size), hI.2.2.grown hG6 (by simp; omega)⟩
      case measure => simp [intOf]; omega
    · obtain rfl : i = ps.length := by omega
      obtain ⟨hH, hB, hr⟩ := hI
      rw [List.take_length] at hH
      go_wp2_with fail
      refine (sum_c w0.heap.size _ wr hH (by rw [List.length_append, HTT.out]; omega) (hT.below hB)).mono ?_
      rintro e w7 ⟨rfl, hB7⟩
      obtain ⟨d, hd⟩ : ∃ d, Hid (Sha.digest (Sha.turned kd 54 64 ++ ps.flatten) = d) := ⟨_, hide rfl⟩
      have hdl : d.length = 32 := by rw [← hd.out]; exact Sha.digest_length _
      have hdb : Sha.Bytes d := by rw [← hd.out]; exact Sha.digest_bytes _
      obtain ⟨D, hD⟩ : ∃ D : Array Value, Hid ((u8s d).toArray = D) := ⟨_, hide rfl⟩
      rw [hd.out, hD.out]
      have hDs : Hid ((Tryd.prog.info? 24).map (·.size) = some D.size) := by
        rw [← hD.out]
        show _ = some ((u8s d).toArray).size
        rw [List.size_toArray, List.length_map, hdl]
        kernel_rfl
      have hDl : Hid ((u8s (List.replicate 32 0)).toArray.size = D.size) := by
        rw [← hD.out]
        simp [Hid, hdl]
      have hD1 : Hid (D.all (·.oneCell') = true) := by
        rw [← hD.out]
        simp [Hid, Function.comp_def, Value.oneCell']
      have hB7' := hB.trans (hB7.mono hB.size)
      have hr7 := hr.below hB7 hr.lt
      have hz : Hid ((w7.alloc (.cells (u8s (List.replicate 32 0)).toArray 24)).heap[w7.heap.size]? = some (.cells (u8s (List.replicate 32 0)).toArray 24 (0, 0))) := heap_alloc_new w7 _
      go_wp2_with (refine wpList_store_row rfl 24 (.tmp 9) (.tmp 33) rfl w7.heap.size D rfl rfl _ _ hz.out hDs.out hDl.out hD1.out ?_)
      have hB8 : Below w0.heap.size w0 ((w7.alloc (.cells (u8s (List.replicate 32 0)).toArray 24)).setRow w7.heap.size D) := below_setRow (hB7'.alloc hB7'.size _) hB7'.size _
      have hd8 : Has ((w7.alloc (.cells (u8s (List.replicate 32 0)).toArray 24)).setRow w7.heap.size D) w7.heap.size 24 (u8s d) := by
        have h := setRow_heap _ _ _ D _ _ hz.out
        unfold Has
        rw [h, hD.out]
      have hr8 : Has ((w7.alloc (.cells (u8s (List.replicate 32 0)).toArray 24)).setRow w7.heap.size D) w.heap.size 24 (u8s (List.replicate 32 0)) := by
        have h := hr7.alloc (.cells (u8s (List.replicate 32 0)).toArray 24)
        unfold Has at h ⊢
        rw [setRow_other _ _ _ _ (by have := hr7.lt; omega)]
        exact h
      clear hz
      generalize hw8 : World.setRow _ w7.heap.size D = w8
      have hw8' : (w7.alloc (.cells (u8s (List.replicate 32 0)).toArray 24)).setRow w7.heap.size D = w8 := hw8
      rw [hw8'] at hB8 hd8 hr8
      clear hw8 hw8'
      have hpd := padded_c kd (some ⟨gs, 0, none⟩) 32 92 92 rfl w8.drew (HK.out.below hB8.drew) HKL.out (by decide)
      rw [hkdl.out] at hpd
      have HPD := hide hpd
      clear hpd
      obtain ⟨M, hM⟩ : ∃ M : Array Value, Hid ((u8s (Sha.mac kd ps.flatten)).toArray = M) := ⟨_, hide rfl⟩
      have hof : Hid (∀ w9 : World, Has w9 w8.heap.size 5 (u8s (Sha.turned kd 92 64)) → Below w8.heap.size w8.drew w9 →
          Calls Tryd.prog 17 #[.slice (some ⟨w9.heap.size, 0, none⟩) 2 2] (w9.alloc (.cells #[.slice (some ⟨w8.heap.size, 0, none⟩) 64 64, .slice (some ⟨w7.heap.size, 0, none⟩) 32 32] 22)) fun e w' => e = .returned (.agg M) ∧ Below w9.heap.size w9 w') := by
        refine hide (fun w9 h9 hb9 => ?_)
        have hd9 : Has w9 w7.heap.size 24 (u8s d) := Has.below (w := w8.drew) hd8 hb9 hd8.lt
        have hp := parts_two (A := some ⟨w8.heap.size, 0, none⟩) (A2 := some ⟨w7.heap.size, 0, none⟩) (cap := 64) (cap2 := 32) (has_rb h9 (turned_bytes HK.out.1 (by decide))) (by rw [Sha.turned_length kd 92 64 HKL.out (by omega)]; exact Nat.le_refl _) (by decide) (has_rb hd9 hdb) (by rw [hdl]; exact Nat.le_refl _) (by decide)
        have ht2 : (Sha.turned kd 92 64).length = 64 := Sha.turned_length kd 92 64 HKL.out (by omega)
        have hBa : Below w8.heap.size w8.drew (w9.alloc (.cells #[.slice (some ⟨w8.heap.size, 0, none⟩) (Sha.turned kd 92 64).length 64, .slice (some ⟨w7.heap.size, 0, none⟩) d.length 32] 22)) := hb9.alloc hb9.size _
        have hT8 := hT.below hB8.drew
        have hw := of_c (some ⟨w9.heap.size, 0, none⟩) [Sha.turned kd 92 64, d] 2 _ hp (by simp) (by simp [ht2, hdl]) (Table.below (w := w8.drew) hT8 hBa)
        rw [show [Sha.turned kd 92 64, d].flatten = Sha.turned kd 92 64 ++ d by simp, ht2, hdl, show Sha.digest (Sha.turned kd 92 64 ++ d) = Sha.mac kd ps.flatten by rw [← hd.out]; rfl, hM.out] at hw
        exact hw.mono fun e w' ⟨h1, h2⟩ => ⟨h1, Below.trans (Below.alloc (Below.refl _ _) (Nat.le_refl _) _) (h2.mono (by simp))⟩
      have hMl : (Sha.mac kd ps.flatten).length = 32 := Sha.digest_length _
      have hMs : (Tryd.prog.info? 24).map (·.size) = some M.size := by
        rw [← hM.out]
        show _ = some ((u8s (Sha.mac kd ps.flatten)).toArray).size
        rw [List.size_toArray, List.length_map, hMl]
        kernel_rfl
      have hMo : (u8s (List.replicate 32 0)).toArray.size = M.size := by
        rw [← hM.out, List.size_toArray, List.size_toArray, List.length_map, List.length_map, hMl, List.length_replicate]
      have hM1 : M.all (·.oneCell') = true := by
        rw [← hM.out]
        simp [Function.comp_def, Value.oneCell']
      have hl8 := hr8.lt
      have HMS := hide hMs
      have HMO := hide hMo
      have HM1 := hide hM1
      clear hMl hMs hMo hM1 hdl hdb hDs hDl hD1 hH hr hr7 hB7' hd8
      refine wp_region_any (by kernel_rfl) ?_
      change wpAny _ _ _ _ _ _ _ (World.drew _)
      refine wpAny_take (i := 0) (v := .slice (some ⟨gs, 0, none⟩) 32 32) rfl (by kernel_rfl) (by kernel_rfl) (by kernel_rfl) (fun _ _ _ h => h) (Or.inl ⟨by rfl, by intro w; go_simp⟩) ?_
      refine wpAny_take (i := 2) (v := .slice (some ⟨w7.heap.size, 0, none⟩) 32 32) rfl (by kernel_rfl) (by kernel_rfl) (by kernel_rfl) (fun _ _ _ h => h) (Or.inl ⟨by rfl, by intro w; go_simp⟩) ?_
      refine wpAny_ready (rs := [1]) (by kernel_rfl) (by simp) ?_
      refine AllReady.cons rfl (fun K hK => ?_) AllReady.nil
      go_simp
      refine HPD.out.mono ?_
      rintro e w9 ⟨rfl, hR9, hB9⟩
      refine hK _ _ ?_
      clear hK K
      have hof9 := hide (hof.out w9 hR9 hB9)
      have hr9 : Hid (Has w9 w.heap.size 24 (u8s (List.replicate 32 0))) := hide (Has.below (w := w8.drew) hr8 hB9 hr8.lt)
      have hB9' := hide (hB8.drew.trans (hB9.mono hB8.drew.size))
      clear hof HPD hR9 hB9 hr8
      refine wpAny_ready (rs := [3]) (by kernel_rfl) (by simp) ?_
      refine AllReady.cons rfl (fun K hK => ?_) AllReady.nil
      go_simp
      refine hK _ _ ?_
      clear hK K
      refine wpAny_ready (rs := [4]) (by kernel_rfl) (by simp) ?_
      refine AllReady.cons rfl (fun K hK => ?_) AllReady.nil
      go_simp
      refine hof9.out.mono ?_
      rintro e w10 ⟨rfl, hB10⟩
      refine hK _ _ ?_
      clear hK K
      have hr10 : w10.heap[w.heap.size]? = some (.cells (u8s (List.replicate 32 0)).toArray 24 (0, 0)) := hr9.out.below hB10 hr9.out.lt
      have HR10 := hide hr10
      have HB10 := hide (hB9'.out.trans (hB10.mono hB9'.out.size))
      clear hr10 hB10
      refine wpAny_ready (rs := [5]) (by kernel_rfl) (by simp) ?_
      refine AllReady.cons rfl (fun K hK => ?_) AllReady.nil
      refine step_store_row rfl 24 (.tmp 4) (.tmp 38) rfl w.heap.size M rfl rfl _ _ HR10.out HMS.out HMO.out HM1.out ?_
      refine hK _ _ ?_
      clear hK K
      refine wpAny_done (by kernel_rfl) ?_ _
      go_wp2_with fail
      refine bodyPost_ret (results_cell_row rfl _ _ w.heap.size 24 M (0, 0) _ rfl (setRow_heap _ _ _ _ _ _ HR10.out) Tryd.underlying24 rfl HMS.out) rfl ?_
      exact ⟨by rw [hM.out], below_setRow (hBc.out.trans (HB10.out.mono hBc.out.size)) (Nat.le_refl _) _⟩

theorem mactag_c (k : List Nat) (A P : Option Addr) (capk capp : Nat) (ps : List (List Nat)) (w : World) (hk : Rb w A k) (hkm : k.length ≤ 1000000) (hkc : k.length ≤ capk) (hkc2 : capk ≤ 9223372036854775807) (hP : Parts w P ps) (hn : ps.length ≤ 9223372036854775807) (hlen : ps.flatten.length < 1099511620000) (hT : Table w) :
    Calls Tryd.prog 31 #[.slice A k.length capk, .slice P ps.length capp] w fun e w' => e = .returned (.agg (u8s (Sha.tag k ps.flatten)).toArray) ∧ Below w.heap.size w w' := by
  unfold Sha.tag Sha.keyOf
  by_cases h : k.length ≤ 64
  · rw [if_pos h]
    exact macof_c k A P capk capp ps w hk h hP hn hlen hT
  · rw [if_neg h]
    exact maclong_c k A P capk capp ps w hk h hkm hkc hkc2 hP hn hlen hT
theorem tag_length (k m : List Nat) : (Sha.tag k m).length = 32 := Sha.digest_length _
theorem tag_bytes (k m : List Nat) : Sha.Bytes (Sha.tag k m) := Sha.digest_bytes _
end Go.Proofs.YtijgomgiinlcoaaDoor
