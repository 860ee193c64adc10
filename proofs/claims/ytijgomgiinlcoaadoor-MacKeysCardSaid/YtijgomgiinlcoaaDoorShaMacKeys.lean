/-
  The law MacKeys of package lodgelaw2, walked. By an AI agent. No person has read it.
-/
import Derived.Test.YtijgomgiinlcoaaDoorShaMacTag
import Derived.Test.YtijgomgiinlcoaaDoorShaRef2
import Derived.Test.YtijgomgiinlcoaaDoorShaZeros
namespace Go.Proofs.YtijgomgiinlcoaaDoor
open Go.RowKit

theorem full_zeros (k : List Nat) (m : Nat) (h : k.length + m ≤ 64) : Sha.full (k ++ List.replicate m 0) = Sha.full k := by
  unfold Sha.full
  rw [List.append_assoc, List.length_append, List.length_replicate, List.replicate_append_replicate]
  congr 2
  omega
theorem tag_zeros (k bs : List Nat) (m : Nat) (h : k.length + m ≤ 64) : Sha.tag (k ++ List.replicate m 0) bs = Sha.tag k bs := by
  unfold Sha.tag Sha.keyOf
  rw [if_pos (by simp; omega), if_pos (by omega)]
  unfold Sha.mac Sha.turned
  rw [full_zeros k m h]
theorem wpList_append_zeros {w : World} {ops : Array Oper} {rest : List Oper} {o : Oper} {a : Act} {Q : Exit → Act → World → Prop} (hgd : o.guard = none) (s x : Operand)
    (ho : o.op = .call { callee := .builtin .append, args := #[s, x], argTypes := #[22, 3] })
    (base g n cap m : Nat) (xs : List Value) (hs : a.eval s = .slice (some ⟨g, 0, none⟩) n cap) (hown : w.ownsRow base 5 1 (.slice (some ⟨g, 0, none⟩) n cap) n xs) (hx : a.eval x = .int .i64 (m : Int))
    (hb : n + m ≤ 1000000) (hbase : base ≤ w.heap.size)
    (h : ∀ v' w', w'.ownsRow base 5 1 v' (n + m) (xs ++ u8s (List.replicate m 0)) → w.grownBy w' (some g) → wpList Tryd.prog ops Q rest (a.put o.dst v') w') :
    wpList Tryd.prog ops Q (o :: rest) a w := by
  refine wpList_plain hgd fun K hK => ?_
  obtain ⟨v', w', hrun, h2, h3⟩ := run_append_zeros w o.type base g n cap m xs hown hb hbase
  unfold Oper.wp execOp
  simp only [ho, resolve, invoke, builtin, Sem.run_bind, Sem.run_pure, Result.andThen_ok, List.map_toArray, List.map_cons, List.map_nil, hs, hx, hrun]
  exact hK _ _ (h v' w' h2 h3)

set_option maxRecDepth 100000 in
set_option maxHeartbeats 8000000 in
theorem mackeys_c (ks bs : List Nat) (KA A : Option Addr) (ck cap : Nat) (z0 : Int) (W : World) (hK : Rb W KA ks) (hkc : ks.length ≤ ck) (hkc2 : ck ≤ 9223372036854775807) (hR : Rb W A bs) (hcap : bs.length ≤ cap) (hcap2 : cap ≤ 9223372036854775807) (hT : Table W) :
    Calls Tryd.prog 10 #[.slice KA ks.length ck, .slice A bs.length cap, .int .i64 z0] W fun e w' => e = .returned (.bool true) ∧ Below W.heap.size W w' := by
  obtain ⟨nk, hnk⟩ : ∃ n, Hid (ks.length = n) := ⟨_, hide rfl⟩
  obtain ⟨n, hn⟩ : ∃ n, Hid (bs.length = n) := ⟨_, hide rfl⟩
  rw [hnk.out] at hkc ⊢
  rw [hn.out] at hcap ⊢
  have HK := hide hK
  have HR := hide hR
  have HT := hide hT
  clear hK hR hT
  by_cases h3 : 200 < nk
  · have h3' : (200 : Int) < nk := by omega
    go_enter Tryd.func10, Tryd.ntmps10
    go_wp2_with fail
    refine (macfirst_c W HT.out).mono ?_
    rintro e w1 ⟨rfl, hB1⟩
    go_wp2_with fail
    go_ret
    exact ⟨rfl, hB1⟩
  by_cases h4 : 300 < n
  · have h4' : (300 : Int) < n := by omega
    have h3' : (nk : Int) ≤ 200 := by omega
    go_enter Tryd.func10, Tryd.ntmps10
    go_wp2_with fail
    refine (macfirst_c W HT.out).mono ?_
    rintro e w1 ⟨rfl, hB1⟩
    go_wp2_with fail
    go_ret
    exact ⟨rfl, hB1⟩
  have h3' : (nk : Int) ≤ 200 := by omega
  have h4' : (n : Int) ≤ 300 := by omega
  obtain ⟨d, hd⟩ : ∃ d, Hid (Sha.tag ks bs = d) := ⟨_, hide rfl⟩
  have hdl : Hid (d.length = 32) := hide (by rw [← hd.out]; exact tag_length _ _)
  have hdb : Hid (Sha.Bytes d) := hide (by rw [← hd.out]; exact tag_bytes _ _)
  obtain ⟨D, hD⟩ : ∃ D, Hid ((u8s d).toArray = D) := ⟨_, hide rfl⟩
  by_cases h64 : 64 < nk
  ·
    --{
    have h64' : (64 : Int) < nk := by omega
    go_enter Tryd.func10, Tryd.ntmps10
    go_wp2_with fail
    refine (macfirst_c W HT.out).mono ?_
    rintro e w1 ⟨rfl, hB1⟩
    go_wp2_with fail
    obtain ⟨kd, hkd⟩ : ∃ l, Hid (Sha.digest ks = l) := ⟨_, hide rfl⟩
    have hkdl : Hid (kd.length = 32) := hide (by rw [← hkd.out]; exact Sha.digest_length _)
    have hkdb : Hid (Sha.Bytes kd) := hide (by rw [← hkd.out]; exact Sha.digest_bytes _)
    have hd2 : Hid (Sha.tag kd bs = d) := hide (by
      rw [← hd.out]
      unfold Sha.tag Sha.keyOf
      rw [if_pos (by rw [hkdl.out]; decide), if_neg (by rw [hnk.out]; omega), hkd.out])
    obtain ⟨DK, hDK⟩ : ∃ D : Array Value, Hid ((u8s kd).toArray = D) := ⟨_, hide rfl⟩
    have hDKs : Hid ((Tryd.prog.info? 24).map (·.size) = some DK.size) := by
      rw [← hDK.out]
      show _ = some ((u8s kd).toArray).size
      rw [List.size_toArray, List.length_map, hkdl.out]
      kernel_rfl
    have hDKl : Hid ((u8s (List.replicate 32 0)).toArray.size = DK.size) := by
      rw [← hDK.out]
      simp [Hid, hkdl.out]
    have hDK1 : Hid (DK.all (·.oneCell') = true) := by
      rw [← hDK.out]
      simp [Hid, Function.comp_def, Value.oneCell']
    have hw := refsum_c ks KA ck w1 (HK.out.below hB1) (by rw [hnk.out]; omega)
    rw [hnk.out, hkd.out, hDK.out] at hw
    refine hw.mono ?_
    clear hw
    rintro e w2 ⟨rfl, hB2⟩
    have HB2 := hide (hB1.trans (hB2.mono hB1.size))
    clear hB1 hB2
    have hz : Hid ((w2.alloc (.cells (u8s (List.replicate 32 0)).toArray 24)).heap[w2.heap.size]? = some (.cells (u8s (List.replicate 32 0)).toArray 24 (0, 0))) := heap_alloc_new w2 _
    have hz2 : Hid (((w2.alloc (.cells (u8s (List.replicate 32 0)).toArray 24)).setRow w2.heap.size DK).heap[w2.heap.size]? = some (.cells DK 24 (0, 0))) := setRow_heap _ _ _ DK _ _ hz.out
    have hB3 : Hid (Below W.heap.size W ((w2.alloc (.cells (u8s (List.replicate 32 0)).toArray 24)).setRow w2.heap.size DK)) := hide (below_setRow (HB2.out.alloc HB2.out.size _) HB2.out.size _)
    go_wp2_with (refine wpList_store_row rfl 24 (.tmp 8) (.tmp 30) rfl w2.heap.size DK rfl rfl _ _ hz.out hDKs.out hDKl.out hDK1.out ?_
                 generalize hw8 : World.setRow _ w2.heap.size DK = w8
                 have hw8' : (w2.alloc (.cells (u8s (List.replicate 32 0)).toArray 24)).setRow w2.heap.size DK = w8 := hw8
                 rw [hw8'] at hz2 hB3
                 clear hz hw8 hw8')
    have hk8 : Hid (Rb w8.drew (some ⟨w2.heap.size, 0, none⟩) kd) := hide (has_rb (w := w8.drew) (t := 24) (by unfold Has; rw [hDK.out]; exact hz2.out) hkdb.out)
    have mac1 : Hid (∀ (wx : World) (P : Option Addr), Below W.heap.size W wx → Parts wx P [bs] → Calls Tryd.prog 31 #[.slice KA nk ck, .slice P 1 1] wx fun e w' => e = .returned (.agg D) ∧ Below wx.heap.size wx w') := hide (fun wx P hbx hpx => by
      have h := mactag_c ks KA P ck 1 [bs] wx (HK.out.below hbx) (by rw [hnk.out]; omega) (by rw [hnk.out]; exact hkc) hkc2 hpx (by simp) (by simp [hn.out]; omega) (HT.out.below hbx)
      rw [show [bs].flatten = bs by simp, hnk.out, hd.out, hD.out] at h
      exact h)
    have mac2 : Hid (∀ (wx : World) (P : Option Addr), Below W.heap.size W wx → Below w8.drew.heap.size w8.drew wx → Parts wx P [bs] → Calls Tryd.prog 31 #[.slice (some ⟨w2.heap.size, 0, none⟩) 32 32, .slice P 1 1] wx fun e w' => e = .returned (.agg D) ∧ Below wx.heap.size wx w') := hide (fun wx P hbx hb8 hpx => by
      have h := mactag_c kd (some ⟨w2.heap.size, 0, none⟩) P 32 1 [bs] wx (hk8.out.below hb8) (by rw [hkdl.out]; decide) (by rw [hkdl.out]; exact Nat.le_refl _) (by decide) hpx (by simp) (by simp [hn.out]; omega) (HT.out.below hbx)
      rw [show [bs].flatten = bs by simp, hkdl.out, hd2.out, hD.out] at h
      exact h)
    have hBa : Hid (Below W.heap.size W (w8.drew.alloc (.cells #[.slice A n cap] 22))) := hide (hB3.out.drew.alloc hB3.out.drew.size _)
    have h8a : Hid (Below w8.drew.heap.size w8.drew (w8.drew.alloc (.cells #[.slice A n cap] 22))) := hide ((Below.refl _ _).alloc (Nat.le_refl _) _)
    have pa : Hid (Parts (w8.drew.alloc (.cells #[.slice A n cap] 22)) (some ⟨w8.drew.heap.size, 0, none⟩) [bs]) := hide (by
      have h := parts_one (w := w8.drew) (cap := cap) (HR.out.below hB3.out.drew) (by rw [hn.out]; exact hcap) hcap2
      rw [hn.out] at h
      exact h)
    have hBb : Hid (Below W.heap.size W ((w8.drew.alloc (.cells #[.slice A n cap] 22)).alloc (.cells #[.slice A n cap] 22))) := hide (hBa.out.alloc hBa.out.size _)
    have h8b : Hid (Below w8.drew.heap.size w8.drew ((w8.drew.alloc (.cells #[.slice A n cap] 22)).alloc (.cells #[.slice A n cap] 22))) := hide (h8a.out.alloc h8a.out.size _)
    have pb : Hid (Parts ((w8.drew.alloc (.cells #[.slice A n cap] 22)).alloc (.cells #[.slice A n cap] 22)) (some ⟨w8.drew.heap.size + 1, 0, none⟩) [bs]) := hide (by
      have h := parts_one (w := w8.drew.alloc (.cells #[.slice A n cap] 22)) (cap := cap) (HR.out.below hBa.out) (by rw [hn.out]; exact hcap) hcap2
      rw [hn.out, World.size_alloc] at h
      exact h)
    have pab : Hid (Parts ((w8.drew.alloc (.cells #[.slice A n cap] 22)).alloc (.cells #[.slice A n cap] 22)) (some ⟨w8.drew.heap.size, 0, none⟩) [bs]) := hide (pa.out.below ((Below.refl _ _).alloc (Nat.le_refl _) _))
    refine wp_region_any (by kernel_rfl) ?_
    change wpAny _ _ _ _ _ _ _ (World.drew _)
    refine wpAny_take (i := 0) (v := .slice KA nk ck) rfl (by kernel_rfl) (by kernel_rfl) (by kernel_rfl) (fun _ _ _ h => h) (Or.inl ⟨by rfl, by intro w; go_simp⟩) ?_
    refine wpAny_take (i := 1) (v := .slice A n cap) rfl (by kernel_rfl) (by kernel_rfl) (by kernel_rfl) (fun _ _ _ h => h) (Or.inl ⟨by rfl, by intro w; go_simp⟩) ?_
    refine wpAny_take (i := 4) (v := .slice (some ⟨w2.heap.size, 0, none⟩) 32 32) rfl (by kernel_rfl) (by kernel_rfl) (by kernel_rfl) (fun _ _ _ h => h) (Or.inl ⟨by rfl, by intro w; go_simp⟩) ?_
    refine wpAny_take (i := 5) (v := .slice A n cap) rfl (by kernel_rfl) (by kernel_rfl) (by kernel_rfl) (fun _ _ _ h => h) (Or.inl ⟨by rfl, by intro w; go_simp⟩) ?_
    refine wpAny_ready (rs := [2, 6]) (by kernel_rfl) (by simp) ?_
    refine AllReady.cons rfl (fun K hK => ?_) (AllReady.cons rfl (fun K hK => ?_) AllReady.nil)
    focus
      go_simp
      refine hK _ _ ?_
      clear hK K
      refine wpAny_ready (rs := [3, 6]) (by kernel_rfl) (by simp) ?_
      refine AllReady.cons rfl (fun K hK => ?_) (AllReady.cons rfl (fun K hK => ?_) AllReady.nil)
      focus
        go_simp
        refine (mac1.out _ _ hBa.out pa.out).mono ?_
        rintro e wy ⟨rfl, hBy⟩
        refine hK _ _ ?_
        clear hK K
        have HBy := hide (hBa.out.trans (hBy.mono hBa.out.size))
        have H8y := hide (h8a.out.trans (hBy.mono h8a.out.size))
        clear hBy
        have pc : Hid (Parts (wy.alloc (.cells #[.slice A n cap] 22)) (some ⟨wy.heap.size, 0, none⟩) [bs]) := hide (by
          have h := parts_one (w := wy) (cap := cap) (HR.out.below HBy.out) (by rw [hn.out]; exact hcap) hcap2
          rw [hn.out] at h
          exact h)
        refine wpAny_ready (rs := [6]) (by kernel_rfl) (by simp) ?_
        refine AllReady.cons rfl (fun K hK => ?_) AllReady.nil
        go_simp
        refine hK _ _ ?_
        clear hK K
        have HBy2 : Hid (Below W.heap.size W (wy.alloc (.cells #[.slice A n cap] 22))) := hide (HBy.out.alloc HBy.out.size _)
        refine wpAny_ready (rs := [7]) (by kernel_rfl) (by simp) ?_
        refine AllReady.cons rfl (fun K hK => ?_) AllReady.nil
        go_simp
        refine (mac2.out _ _ HBy2.out (H8y.out.alloc H8y.out.size _) pc.out).mono ?_
        rintro e wz ⟨rfl, hBz⟩
        refine hK _ _ ?_
        clear hK K
        have HBz := hide (HBy2.out.trans (hBz.mono HBy2.out.size))
        clear hBz HBy2 pc HBy H8y
      rotate_left
      focus
        go_simp
        refine hK _ _ ?_
        clear hK K
        refine wpAny_ready (rs := [3]) (by kernel_rfl) (by simp) ?_
        refine AllReady.cons rfl (fun K hK => ?_) AllReady.nil
        go_simp
        refine (mac1.out _ _ hBb.out pab.out).mono ?_
        rintro e wy ⟨rfl, hBy⟩
        refine hK _ _ ?_
        clear hK K
        have HBy := hide (hBb.out.trans (hBy.mono hBb.out.size))
        have H8y := hide (h8b.out.trans (hBy.mono h8b.out.size))
        have pc := hide (pb.out.below hBy)
        clear hBy
        refine wpAny_ready (rs := [7]) (by kernel_rfl) (by simp) ?_
        refine AllReady.cons rfl (fun K hK => ?_) AllReady.nil
        go_simp
        refine (mac2.out _ _ HBy.out H8y.out pc.out).mono ?_
        rintro e wz ⟨rfl, hBz⟩
        refine hK _ _ ?_
        clear hK K
        have HBz := hide (HBy.out.trans (hBz.mono HBy.out.size))
        clear hBz pc HBy H8y
      rotate_left
    rotate_left 2
    focus
      go_simp
      refine hK _ _ ?_
      clear hK K
      refine wpAny_ready (rs := [2]) (by kernel_rfl) (by simp) ?_
      refine AllReady.cons rfl (fun K hK => ?_) AllReady.nil
      go_simp
      refine hK _ _ ?_
      clear hK K
      refine wpAny_ready (rs := [3]) (by kernel_rfl) (by simp) ?_
      refine AllReady.cons rfl (fun K hK => ?_) AllReady.nil
      go_simp
      refine (mac1.out _ _ hBb.out pb.out).mono ?_
      rintro e wy ⟨rfl, hBy⟩
      refine hK _ _ ?_
      clear hK K
      have HBy := hide (hBb.out.trans (hBy.mono hBb.out.size))
      have H8y := hide (h8b.out.trans (hBy.mono h8b.out.size))
      have pc := hide (pab.out.below hBy)
      clear hBy
      refine wpAny_ready (rs := [7]) (by kernel_rfl) (by simp) ?_
      refine AllReady.cons rfl (fun K hK => ?_) AllReady.nil
      go_simp
      refine (mac2.out _ _ HBy.out H8y.out pc.out).mono ?_
      rintro e wz ⟨rfl, hBz⟩
      refine hK _ _ ?_
      clear hK K
      have HBz := hide (HBy.out.trans (hBz.mono HBy.out.size))
      clear hBz pc HBy H8y
    all_goals
      refine wpAny_ready (rs := [8]) (by kernel_rfl) (by simp) ?_
      refine AllReady.cons rfl (fun K hK => ?_) AllReady.nil
      go_simp
      have hs := samesum_c d hdl.out hdb.out wz
      rw [hD.out] at hs
      refine hs.mono ?_
      clear hs
      rintro e wu ⟨rfl, hBu⟩
      refine hK _ _ ?_
      clear hK K
      have hfin := HBz.out.trans (hBu.mono HBz.out.size)
      clear hBu
      refine wpAny_ready (rs := [9]) (by kernel_rfl) (by simp) ?_
      refine AllReady.cons rfl (fun K hK => ?_) AllReady.nil
      go_simp
      refine hK _ _ ?_
      clear hK K
      refine wpAny_done (by kernel_rfl) ?_ _
      go_wp2_with fail
      go_ret
      exact ⟨rfl, hfin⟩
    --}
  have h64' : ¬ ((64 : Int) < nk) := by omega
  go_enter Tryd.func10, Tryd.ntmps10
  go_wp2_with fail
  refine (macfirst_c W HT.out).mono ?_
  rintro e w1 ⟨rfl, hB1⟩
  have hw := refbytes_c ks KA ck w1 (HK.out.below hB1) (by rw [hnk.out]; omega)
  rw [hnk.out] at hw
  go_wp2_with fail
  refine hw.mono ?_
  clear hw
  rintro e w2 ⟨hB2, v, rfl, hown, hnn⟩
  have HB2 := hide (hB1.trans (hB2.mono hB1.size))
  have hs1 := hB1.size
  obtain ⟨g, cc, rfl, hgb⟩ : ∃ g cc, v = .slice (some ⟨g, 0, none⟩) nk cc ∧ w1.heap.size ≤ g := by
    rcases hown.2 with ⟨rfl, _⟩ | ⟨g, cap', cur, rfl, h1, _⟩
    · simp [Value.ownBlock] at hnn
    · exact ⟨g, cap', rfl, h1⟩
  have HO := hide hown
  have hs2 := hB2.size
  clear hown hnn hB1 hB2
  have hsub : IntKind.i64.wrap (65 - (nk : Int)) = 65 - (nk : Int) := by rw [IntKind.wrap_i64]; omega
  go_wp2_with fail
  refine (number_c z0 (65 - nk) (by omega) (by omega) _ (by omega) w2).mono ?_
  rintro e w3 ⟨rfl, rfl⟩
  have hml := num_lt z0 (65 - nk) (by omega)
  obtain ⟨m, hm⟩ : ∃ m, Hid (num z0 (65 - nk) = m) := ⟨_, hide rfl⟩
  rw [hm.out] at hml ⊢
  have hb0 : Hid (nk + m ≤ 1000000) := hide (by omega)
  have hsz : Hid (w1.heap.size ≤ w3.heap.size) := hide hs2
  go_wp2_with (at_builtin; refine wpList_append_zeros rfl (.tmp 41) (.tmp 46) rfl w1.heap.size g nk cc m (u8s ks) rfl HO.out rfl hb0.out hsz.out ?_)
  intro v' w4 hown4 hgrow4
  have hown4 : w4.ownsRow w1.heap.size 5 1 v' (nk + m) (u8s (ks ++ List.replicate m 0)) := by simpa [u8s] using hown4
  have hB4 : Below W.heap.size W w4 := HB2.out.grown hgrow4 HB2.out.size (fun k hk => by injection hk; omega)
  obtain ⟨k2, hk2⟩ : ∃ l, Hid (ks ++ List.replicate m 0 = l) := ⟨_, hide rfl⟩
  have hk2b : Sha.Bytes k2 := by
    rw [← hk2.out]
    exact HK.out.1.append (fun b hb => by have := (List.mem_replicate.1 hb).2; omega)
  have hd2 : Hid (Sha.tag k2 bs = d) := hide (by rw [← hk2.out, tag_zeros ks bs m (by rw [hnk.out]; omega)]; exact hd.out)
  rw [hk2.out] at hown4
  obtain ⟨A4, c4, rfl, hl4, hc4, hc42, hr4, -⟩ := own_rb hown4 hk2b
  have HL4 := hide hl4
  have HR4 := hide hr4
  have HB4 := hide hB4
  clear hown4 hgrow4 hl4 hr4 hB4 HO hsub
  have hp1 := parts_one (w := w4) (cap := cap) (HR.out.below HB4.out) (by rw [hn.out]; exact hcap) hcap2
  rw [hn.out] at hp1
  have hBa : Hid (Below W.heap.size W (w4.alloc (.cells #[.slice A n cap] 22))) := hide (HB4.out.alloc HB4.out.size _)
  have hw := mactag_c ks KA (some ⟨w4.heap.size, 0, none⟩) ck 1 [bs] (w4.alloc (.cells #[.slice A n cap] 22)) (HK.out.below hBa.out) (by rw [hnk.out]; omega) (by rw [hnk.out]; exact hkc) hkc2 hp1 (by simp) (by simp [hn.out]; omega) (HT.out.below hBa.out)
  rw [show [bs].flatten = bs by simp, hnk.out, hd.out, hD.out] at hw
  have HW := hide hw
  clear hw hp1
  go_wp2_with fail
  refine HW.out.mono ?_
  rintro e w5 ⟨rfl, hB5⟩
  have HB5 := hide (hBa.out.trans (hB5.mono hBa.out.size))
  have HR5 := hide ((HR4.out.below ((Below.refl _ _).alloc (Nat.le_refl _) (.cells #[.slice A n cap] 22))).below hB5)
  clear hB5 HW hBa
  have hp1 := parts_one (w := w5) (cap := cap) (HR.out.below HB5.out) (by rw [hn.out]; exact hcap) hcap2
  rw [hn.out] at hp1
  have hBb : Hid (Below W.heap.size W (w5.alloc (.cells #[.slice A n cap] 22))) := hide (HB5.out.alloc HB5.out.size _)
  have hw := mactag_c k2 A4 (some ⟨w5.heap.size, 0, none⟩) c4 1 [bs] (w5.alloc (.cells #[.slice A n cap] 22)) (HR5.out.below ((Below.refl _ _).alloc (Nat.le_refl _) _)) (by rw [HL4.out]; omega) (by rw [HL4.out]; exact hc4) hc42 hp1 (by simp) (by simp [hn.out]; omega) (HT.out.below hBb.out)
  rw [show [bs].flatten = bs by simp, HL4.out, hd2.out, hD.out] at hw
  have HW := hide hw
  clear hw hp1
  go_wp2_with fail
  refine HW.out.mono ?_
  rintro e w6 ⟨rfl, hB6⟩
  have HB6 := hide (hBb.out.trans (hB6.mono hBb.out.size))
  clear hB6 HW hBb
  go_wp2_with fail
  have hs := samesum_c d hdl.out hdb.out w6
  rw [hD.out] at hs
  refine hs.mono ?_
  rintro e w7 ⟨rfl, hB7⟩
  have hfin := HB6.out.trans (hB7.mono HB6.out.size)
  clear hs hB7
  go_wp2_with fail
  go_ret
  exact ⟨rfl, hfin⟩
end Go.Proofs.YtijgomgiinlcoaaDoor
