/-
  The law MacParts of package lodgelaw2, walked. By an AI agent. No person has read it.
-/
import Derived.Test.YtijgomgiinlcoaaDoorShaSub
import Derived.Test.YtijgomgiinlcoaaDoorShaSame
namespace Go.Proofs.YtijgomgiinlcoaaDoor
open Go.RowKit

/-- A load of a whole row, as one step of a region that draws. -/
theorem step_load_row {ops : Array Oper} {o : Oper} {a : Act} {w : World} {K : Act → World → Prop} {Q : Exit → Act → World → Prop} {E : Prop} (hwt : Region.wanted o (yielded ops a.tmps) = true) (ty : TypeId) (x : Operand) (ho : o.op = .load ty x)
    (g : Nat) (hx : a.eval x = .pointer (some ⟨g, 0, none⟩)) (t : TypeId) (cs : Array Value) (fr : Nat × Nat) (hg : w.heap[g]? = some (.cells cs t fr))
    (n : Nat) (e : TypeId) (hu : Tryd.prog.underlying ty = some (.array n e)) (hi : (Tryd.prog.info? ty).map (·.size) = some cs.size)
    (h : K (a.put o.dst (.agg cs)) w) : if Region.wanted o (yielded ops a.tmps) = true then Oper.wp Tryd.prog o a w K Q else E := by
  rw [if_pos hwt]
  exact wp_load_row ty x ho g hx t cs fr _ hg hu rfl hi h
/-- 'string(b)'. -/
theorem str_of {w : World} {A : Option Addr} {bs : List Nat} (h : Rb w A bs) (cap : Nat) : (convert 22 9 (.slice A bs.length cap)).run Tryd.prog w = .ok (.string (strB bs)) w := by
  cases A with
  | none =>
    have hn : bs = [] := by
      rcases bs with _ | ⟨b, l⟩
      · rfl
      · obtain ⟨ad, e, _⟩ := h.2 (by simp)
        cases e
    subst hn
    exact run_convert_bytes_nil (P := Tryd.prog) w 22 5 (by kernel_rfl) (by kernel_rfl) _ _ _ (by kernel_rfl)
  | some ad =>
    have hc := run_convert_bytes_back (P := Tryd.prog) w 22 9 5 ad cap (bs.map UInt8.ofNat) (by kernel_rfl) (by kernel_rfl) (by kernel_rfl) (fun j hj => by
      have hj' : j < bs.length := by simpa using hj
      obtain ⟨ad', e, _, hcell⟩ := h.2 (by rintro rfl; simp at hj')
      cases e
      rw [hcell j bs[j] (List.getElem?_eq_getElem hj')]
      have := h.1 bs[j] (List.getElem_mem _)
      simp
      omega)
    rw [List.length_map] at hc
    exact hc

set_option maxRecDepth 100000 in
set_option maxHeartbeats 4000000 in
theorem macparts_c (ks bs : List Nat) (KA A P : Option Addr) (capk cap capz : Nat) (zs : List Int) (W : World) (hK : Rb W KA ks) (hkc : ks.length ≤ capk) (hkc2 : capk ≤ 9223372036854775807) (hR : Rb W A bs) (hcap : bs.length ≤ cap) (hcap2 : cap ≤ 9223372036854775807) (hZ : Ri W P zs) (hzl : zs.length ≤ 9223372036854775807) (hT : Table W) :
    Calls Tryd.prog 11 #[.slice KA ks.length capk, .slice A bs.length cap, .slice P zs.length capz] W fun e w' => e = .returned (.bool true) ∧ Below W.heap.size W w' := by
  obtain ⟨n, hn⟩ : ∃ n, Hid (bs.length = n) := ⟨_, hide rfl⟩
  obtain ⟨m, hm⟩ : ∃ m, Hid (zs.length = m) := ⟨_, hide rfl⟩
  obtain ⟨nk, hnk⟩ : ∃ k, Hid (ks.length = k) := ⟨_, hide rfl⟩
  rw [hnk.out] at hkc ⊢
  have HK := hide hK
  clear hK
  rw [hn.out] at hcap ⊢
  rw [hm.out] at hzl ⊢
  have HR := hide hR
  have HZ := hide hZ
  have HT := hide hT
  clear hR hZ hT
  by_cases hk100 : 100 < nk
  · have hk100' : (100 : Int) < nk := by omega
    go_enter Tryd.func11, Tryd.ntmps11
    go_wp2_with fail
    refine (macfirst_c W HT.out).mono ?_
    rintro e w1 ⟨rfl, hB1⟩
    go_wp2_with fail
    go_ret
    exact ⟨rfl, hB1⟩
  by_cases h300 : 300 < n
  · have h300' : (300 : Int) < n := by omega
    have hk100' : (nk : Int) ≤ 100 := by omega
    go_enter Tryd.func11, Tryd.ntmps11
    go_wp2_with fail
    refine (macfirst_c W HT.out).mono ?_
    rintro e w1 ⟨rfl, hB1⟩
    go_wp2_with fail
    go_ret
    exact ⟨rfl, hB1⟩
  by_cases h12 : 12 < m
  · have h12' : (12 : Int) < m := by omega
    have hk100' : (nk : Int) ≤ 100 := by omega
    have h300' : (n : Int) ≤ 300 := by omega
    go_enter Tryd.func11, Tryd.ntmps11
    go_wp2_with fail
    refine (macfirst_c W HT.out).mono ?_
    rintro e w1 ⟨rfl, hB1⟩
    go_wp2_with fail
    go_ret
    exact ⟨rfl, hB1⟩
  have hk100' : (nk : Int) ≤ 100 := by omega
  have h300' : (n : Int) ≤ 300 := by omega
  have h12' : (m : Int) ≤ 12 := by omega
  obtain ⟨i0, hi0, hz0, hz1, hz2⟩ := info_sl
  have HI0 := hide hi0
  have HZ0 := hide hz0
  have HZ1 := hide hz1
  have HZ2 := hide hz2
  have HU := hide usl
  clear hi0 hz0 hz1 hz2
  go_enter Tryd.func11, Tryd.ntmps11
  go_wp2_with fail
  refine (macfirst_c W HT.out).mono ?_
  rintro e w1 ⟨rfl, hB1⟩
  go_wp2_with fail
  have hP : PI W bs 0 0 (.slice none 0 0) w1 := ⟨[], [], PV.nil W, by simp, rfl, World.ownsRow_nil _ _ _ _, hB1⟩
  go_loopw [8, 9, 10] (fun v a k wr => ∃ (i at_ : Nat) (u : Value), i ≤ m ∧ at_ ≤ n ∧ k = .int .i64 i ∧ a = .int .i64 at_ ∧ u = v ∧ PI W bs at_ i u wr) (fun _ _ k _ => m - (intOf k).toNat)
  case atStart => exact ⟨0, 0, _, by omega, by omega, rfl, rfl, rfl, hP⟩
  case round =>
    obtain ⟨i, at_, v, hi, hat, rfl, rfl, rfl, hI⟩ := hrel
    clear hP hB1
    obtain ⟨ps, xs, hpv, hfl, hpl, hown, hB⟩ := hI
    have HFL := hide hfl
    have HPL := hide hpl
    clear hfl hpl
    by_cases hlt : i < m
    · obtain ⟨z, hz⟩ : ∃ z, zs[i]? = some z := ⟨_, List.getElem?_eq_getElem (by rw [hm.out]; exact hlt)⟩
      obtain ⟨ad, rfl, ha, hcells⟩ := HZ.out.2 (by rintro rfl; simp at hz)
      have hcell := (hB.cell (p := ad.add i) (by rw [block_add]; exact ha)).trans (hcells i z hz)
      clear hcells hz
      have hnl := num_lt z 50 (by decide)
      obtain ⟨r, hr⟩ : ∃ r, Hid (num z 50 = r) := ⟨_, hide rfl⟩
      rw [hr.out] at hnl
      obtain ⟨hi_, hhi⟩ : ∃ h, Hid (min n (at_ + r) = h) := ⟨_, hide rfl⟩
      have hhi' := hhi.out
      have b1 : at_ ≤ hi_ := by omega
      have b2 : hi_ ≤ n := by omega
      have b3 : (if (at_ : Int) + r < n then (at_ : Int) + r else n) = (hi_ : Int) := by split <;> omega
      clear hhi'
      have hsum : IntKind.i64.wrap ((at_ : Int) + r) = (at_ : Int) + r := by rw [IntKind.wrap_i64]; omega
      have him : (i : Int) < m := by omega
      obtain ⟨A2, hA2⟩ : ∃ A2, Hid ((if cap = at_ then A else A.map (·.add (at_ * 1))) = A2) := ⟨_, hide rfl⟩
      have hcut := cut_run A A2 n cap at_ hi_ hA2 b1 (by omega)
      obtain ⟨c, hc⟩ : ∃ c, Hid ((bs.take hi_).drop at_ = c) := ⟨_, hide rfl⟩
      have hcl : c.length = hi_ - at_ := by rw [← hc.out, List.length_drop, List.length_take, hn.out]; omega
      have hct : bs.take at_ ++ c = bs.take hi_ := by rw [← hc.out]; exact take_cut bs at_ hi_ b1
      have hrd : Rb W A2 c := by rw [← hc.out]; exact HR.out.cut hA2 (by rw [hn.out]; exact b2) (by rw [hn.out]; exact hcap)
      have hpv1 := hpv.add (p := c) (A := A2) (cap := cap - at_) (by omega) (by omega) hrd
      have hpv2 := hpv1
      rw [hcl] at hpv2
      have HFC : Hid ((ps ++ [c]).flatten = bs.take hi_) := hide (by simp [HFL.out, hct])
      clear hpv1 hpv hct hcl hrd hc
      have hnw := hide (new_cells wr 22 [.slice A2 (hi_ - at_) (cap - at_)])
      have h1w : Hid (∀ u ∈ [Value.slice A2 (hi_ - at_) (cap - at_)], u.oneCell' = true) := hide (by
        intro u hu
        simp at hu
        subst hu
        rfl)
      have hb1 : Hid (i + 1 ≤ maxLen) := hide (by unfold maxLen; omega)
      have hb2 : Hid ((i + 1) * 24 ≤ 140737488355328) := hide (by omega)
      have hb3 : Hid (W.heap.size ≤ (wr.alloc (.cells #[.slice A2 (hi_ - at_) (cap - at_)] 22)).heap.size) := hide (by have := hB.size; simp; omega)
      have hown2 := hide (hown.alloc (.cells #[.slice A2 (hi_ - at_) (cap - at_)] 22))
      have HOWN := hide hown
      have HPV2 := hide hpv2
      clear hown hpv2
      go_wp2_with fail
      refine (number_c z 50 (by decide) (by decide) 50 rfl wr).mono ?_
      rintro e w4 ⟨rfl, rfl⟩
      rw [hr.out]
      go_wp2_with (at_builtin; refine wpList_append_own _ rfl (.tmp 50) (.tmp 55) 33 rfl W.heap.size 22 i0 (.slice none 0 0) 1 24 HU.out HI0.out HZ0.out HZ1.out HZ2.out rfl (by decide) v i xs rfl hown2.out ⟨w4.heap.size, 0, none⟩ 1 1 [.slice A2 (hi_ - at_) (cap - at_)] rfl rfl hnw.out h1w.out hb1.out hb2.out hb3.out ?_)
      intro v' w' hown' hgrow _
      have hB' : Below W.heap.size W w' := below_row hB HOWN.out hgrow
      go_wp2_with fail
      go_roundw
      case rel => exact ⟨i + 1, hi_, _, by omega, by omega, by go_num, rfl, rfl, _, _, HPV2.out, HFC.out, by simp [HPL.out], hown', hB'⟩
      case measure => simp [intOf]; omega
    · obtain rfl : i = m := by omega
      obtain ⟨A2, hA2⟩ : ∃ A2, Hid ((if cap = at_ then A else A.map (·.add (at_ * 1))) = A2) := ⟨_, hide rfl⟩
      have hcut := rest_run A A2 n cap at_ hA2 hat
      obtain ⟨c, hc⟩ : ∃ c, Hid (bs.drop at_ = c) := ⟨_, hide rfl⟩
      have hcl : c.length = n - at_ := by rw [← hc.out, List.length_drop, hn.out]
      have hct : bs.take at_ ++ c = bs := by rw [← hc.out]; exact List.take_append_drop at_ bs
      have hrd : Rb W A2 c := by
        have h := HR.out.cut (hi := n) hA2 (by rw [hn.out]; omega) (by rw [hn.out]; exact hcap)
        rw [List.take_of_length_le (by rw [hn.out]; omega), hc.out] at h
        exact h
      have hpv1 := hpv.add (p := c) (A := A2) (cap := cap - at_) (by omega) (by omega) hrd
      have hpv2 := hpv1.add (p := []) (A := none) (cap := 0) (by simp) (by simp) (Rb.nil W none)
      rw [hcl] at hpv2
      have HFC : Hid (((ps ++ [c]) ++ [[]]).flatten = bs) := hide (by simp [HFL.out, hct])
      have HPC : Hid (((ps ++ [c]) ++ [[]]).length = i + 2) := hide (by simp [HPL.out])
      clear hpv1 hpv hct hcl hrd hc
      have HPV := hide hpv2
      clear hpv2
      have hnw := hide (new_cells wr 22 [.slice A2 (n - at_) (cap - at_), .slice none 0 0])
      have h1w : Hid (∀ u ∈ [Value.slice A2 (n - at_) (cap - at_), .slice none 0 0], u.oneCell' = true) := hide (by
        intro u hu
        simp at hu
        rcases hu with rfl | rfl <;> rfl)
      have hb1 : Hid (i + 2 ≤ maxLen) := hide (by unfold maxLen; omega)
      have hb2 : Hid ((i + 2) * 24 ≤ 140737488355328) := hide (by omega)
      have hb3 : Hid (W.heap.size ≤ (wr.alloc (.cells #[.slice A2 (n - at_) (cap - at_), .slice none 0 0] 22)).heap.size) := hide (by have := hB.size; simp; omega)
      have hown2 := hide (hown.alloc (.cells #[.slice A2 (n - at_) (cap - at_), .slice none 0 0] 22))
      have HOWN := hide hown
      clear hown
      go_wp2_with (at_builtin; refine wpList_append_own _ rfl (.tmp 58) (.tmp 62) 33 rfl W.heap.size 22 i0 (.slice none 0 0) 1 24 HU.out HI0.out HZ0.out HZ1.out HZ2.out rfl (by decide) v i xs rfl hown2.out ⟨wr.heap.size, 0, none⟩ 2 2 [.slice A2 (n - at_) (cap - at_), .slice none 0 0] rfl rfl hnw.out h1w.out hb1.out hb2.out hb3.out ?_)
      intro v' w' hown' hgrow _
      have hB' : Below W.heap.size W w' := below_row hB HOWN.out hgrow
      clear hnw hown2 hgrow h1w hcut hB HOWN
      obtain ⟨g, cap', rfl, hglt, hcc⟩ : ∃ g cap', v' = .slice (some ⟨g, 0, none⟩) (i + 2) cap' ∧ g < w'.heap.size ∧ Hid (∀ (j : Nat) (u : Value), (xs ++ [Value.slice A2 (n - at_) (cap - at_), .slice none 0 0])[j]? = some u → w'.cell? ((⟨g, 0, none⟩ : Addr).add j) = some u) := by
        rcases hown'.2 with ⟨-, h0⟩ | ⟨g, cap', cur, rfl, -⟩
        · omega
        · exact ⟨g, cap', rfl, (hown'.lt g rfl).2, hide (hown'.cells rfl)⟩
      clear hown'
      have hParts := hide (HPV.out.parts hB' hglt (by intro j u hj; exact hcc.out j u (by simpa using hj)))
      have HTw := hide (HT.out.below hB')
      have hl : Hid (bs.length < 1099511620000) := hide (by rw [hn.out]; omega)
      obtain ⟨d, hd⟩ : ∃ d, Hid (Sha.tag ks bs = d) := ⟨_, hide rfl⟩
      have hdl : Hid (d.length = 32) := hide (by rw [← hd.out]; exact tag_length _ _)
      have hdb : Hid (Sha.Bytes d) := hide (by rw [← hd.out]; exact tag_bytes _ _)
      obtain ⟨D, hD⟩ : ∃ D, Hid ((u8s d).toArray = D) := ⟨_, hide rfl⟩
      have hDs : Hid ((Tryd.prog.info? 24).map (·.size) = some D.size) := by
        rw [← hD.out]
        show _ = some ((u8s d).toArray).size
        rw [List.size_toArray, List.length_map, hdl.out]
        kernel_rfl
      have hDl : Hid ((u8s (List.replicate 32 0)).toArray.size = D.size) := by
        rw [← hD.out]
        simp [Hid, hdl.out]
      have hD1 : Hid (D.all (·.oneCell') = true) := by
        rw [← hD.out]
        simp [Hid, Function.comp_def, Value.oneCell']
      go_wp2_with fail
      have hw := mactag_c ks KA (some ⟨g, 0, none⟩) capk cap' ((ps ++ [c]) ++ [[]]) w' (HK.out.below hB') (by rw [hnk.out]; omega) (by rw [hnk.out]; exact hkc) hkc2 hParts.out (by rw [HPC.out]; omega) (by rw [HFC.out]; exact hl.out) HTw.out
      rw [HFC.out, HPC.out, hnk.out, hd.out, hD.out] at hw
      refine hw.mono ?_
      rintro e w2 ⟨rfl, hB2⟩
      clear hw
      have HB2 := hide (hB'.trans (hB2.mono hB'.size))
      clear hB2 hB' hParts hcc HTw
      have hz : Hid ((w2.alloc (.cells (u8s (List.replicate 32 0)).toArray 24)).heap[w2.heap.size]? = some (.cells (u8s (List.replicate 32 0)).toArray 24 (0, 0))) := heap_alloc_new w2 _
      have hz2 : Hid (((w2.alloc (.cells (u8s (List.replicate 32 0)).toArray 24)).setRow w2.heap.size D).heap[w2.heap.size]? = some (.cells D 24 (0, 0))) := setRow_heap _ _ _ D _ _ hz.out
      have hB3 : Hid (Below W.heap.size W ((w2.alloc (.cells (u8s (List.replicate 32 0)).toArray 24)).setRow w2.heap.size D)) := hide (below_setRow (HB2.out.alloc HB2.out.size _) HB2.out.size _)
      go_wp2_with (refine wpList_store_row rfl 24 (.tmp 12) (.tmp 66) rfl w2.heap.size D rfl rfl _ _ hz.out hDs.out hDl.out hD1.out ?_
                   generalize hw8 : World.setRow _ w2.heap.size D = w8
                   have hw8' : (w2.alloc (.cells (u8s (List.replicate 32 0)).toArray 24)).setRow w2.heap.size D = w8 := hw8
                   rw [hw8'] at hz2 hB3
                   clear hz hw8 hw8')
      have hrA := HR.out.below hB3.out.drew
      have hp1 := parts_one (w := w8.drew) (cap := cap) hrA (by rw [hn.out]; exact hcap) hcap2
      have hBa : Hid (Below W.heap.size W (w8.drew.alloc (.cells #[.slice A n cap] 22))) := hide (hB3.out.drew.alloc hB3.out.drew.size _)
      rw [hn.out] at hp1
      have hof := mactag_c ks KA (some ⟨w8.drew.heap.size, 0, none⟩) capk 1 [bs] (w8.drew.alloc (.cells #[.slice A n cap] 22)) (HK.out.below hBa.out) (by rw [hnk.out]; omega) (by rw [hnk.out]; exact hkc) hkc2 hp1 (by simp) (by simpa using hl.out) (HT.out.below hBa.out)
      rw [show [bs].flatten = bs by simp, hnk.out, hd.out, hD.out] at hof
      have HOF := hide hof
      have hlt2 : Hid (w2.heap.size < w8.drew.heap.size) := hide (by
        rcases Nat.lt_or_ge w2.heap.size w8.heap.size with h | h
        · exact h
        · have h2 := hz2.out
          rw [Array.getElem?_eq_none h] at h2
          cases h2)
      have hza : Hid ((w8.drew.alloc (.cells #[.slice A n cap] 22)).heap[w2.heap.size]? = some (.cells D 24 (0, 0))) := hide ((Below.heap_alloc _ _ _ hlt2.out).trans hz2.out)
      clear hof hp1 hrA
      refine wp_region_any (by kernel_rfl) ?_
      change wpAny _ _ _ _ _ _ _ (World.drew _)
      refine wpAny_take (i := 1) (v := .slice KA nk capk) rfl (by kernel_rfl) (by kernel_rfl) (by kernel_rfl) (fun _ _ _ h => h) (Or.inl ⟨by rfl, by intro w; go_simp⟩) ?_
      refine wpAny_take (i := 2) (v := .slice A n cap) rfl (by kernel_rfl) (by kernel_rfl) (by kernel_rfl) (fun _ _ _ h => h) (Or.inl ⟨by rfl, by intro w; go_simp⟩) ?_
      refine wpAny_ready (rs := [0, 3]) (by kernel_rfl) (by simp) ?_
      refine AllReady.cons rfl (fun K hK => ?_) (AllReady.cons rfl (fun K hK => ?_) AllReady.nil)
      focus
        refine step_load_row (by rfl) 24 (.tmp 12) rfl w2.heap.size rfl 24 D (0, 0) hz2.out _ _ Tryd.underlying24 hDs.out ?_
        refine hK _ _ ?_
        clear hK K
        refine wpAny_ready (rs := [3]) (by kernel_rfl) (by simp) ?_
        refine AllReady.cons rfl (fun K hK => ?_) AllReady.nil
        go_simp
        refine hK _ _ ?_
        clear hK K
        refine wpAny_ready (rs := [4]) (by kernel_rfl) (by simp) ?_
        refine AllReady.cons rfl (fun K hK => ?_) AllReady.nil
        go_simp
        refine HOF.out.mono ?_
        rintro e wy ⟨rfl, hBy⟩
        refine hK _ _ ?_
        clear hK K
      rotate_left
      focus
        go_simp
        refine hK _ _ ?_
        clear hK K
        refine wpAny_ready (rs := [0, 4]) (by kernel_rfl) (by simp) ?_
        refine AllReady.cons rfl (fun K hK => ?_) (AllReady.cons rfl (fun K hK => ?_) AllReady.nil)
        focus
          refine step_load_row (by rfl) 24 (.tmp 12) rfl w2.heap.size rfl 24 D (0, 0) hza.out _ _ Tryd.underlying24 hDs.out ?_
          refine hK _ _ ?_
          clear hK K
          refine wpAny_ready (rs := [4]) (by kernel_rfl) (by simp) ?_
          refine AllReady.cons rfl (fun K hK => ?_) AllReady.nil
          go_simp
          refine HOF.out.mono ?_
          rintro e wy ⟨rfl, hBy⟩
          refine hK _ _ ?_
          clear hK K
        rotate_left
        focus
          go_simp
          refine HOF.out.mono ?_
          rintro e wy ⟨rfl, hBy⟩
          refine hK _ _ ?_
          clear hK K
          have hzy : wy.heap[w2.heap.size]? = some (.cells D 24 (0, 0)) := (hBy.block _ (Nat.lt_of_lt_of_le hlt2.out (by rw [World.size_alloc]; exact Nat.le_succ _))).trans hza.out
          refine wpAny_ready (rs := [0]) (by kernel_rfl) (by simp) ?_
          refine AllReady.cons rfl (fun K hK => ?_) AllReady.nil
          refine step_load_row (by rfl) 24 (.tmp 12) rfl w2.heap.size rfl 24 D (0, 0) hzy _ _ Tryd.underlying24 hDs.out ?_
          refine hK _ _ ?_
          clear hK K hzy
        rotate_left
      all_goals
        have hBW := hide (hBa.out.trans (hBy.mono hBa.out.size))
        have hzy : Hid (wy.heap[w2.heap.size]? = some (.cells D 24 (0, 0))) := hide ((hBy.block _ (Nat.lt_of_lt_of_le hlt2.out (by rw [World.size_alloc]; exact Nat.le_succ _))).trans hza.out)
        have hltz : Hid (w2.heap.size < wy.heap.size) := hide (Nat.lt_of_lt_of_le hlt2.out (Nat.le_trans (by rw [World.size_alloc]; exact Nat.le_succ _) hBy.size))
        clear hBy
        refine wpAny_ready (rs := [5]) (by kernel_rfl) (by simp) ?_
        refine AllReady.cons rfl (fun K hK => ?_) AllReady.nil
        go_simp
        have hs := samesum_c d hdl.out hdb.out wy
        rw [hD.out] at hs
        refine hs.mono ?_
        clear hs
        rintro e wz ⟨rfl, hBz⟩
        refine hK _ _ ?_
        clear hK K
        have hBW2 := hide (hBW.out.trans (hBz.mono hBW.out.size))
        have hzz : Hid (Has wz w2.heap.size 24 (u8s d)) := hide (by
          unfold Has
          rw [(hBz.block _ hltz.out).trans hzy.out, hD.out])
        have hcv := str_of (HR.out.below hBW2.out) cap
        rw [hn.out] at hcv
        obtain ⟨S, hS⟩ : ∃ S, Hid (strB bs = S) := ⟨_, hide rfl⟩
        rw [hS.out] at hcv
        have hsub := sub_c ks bs KA capk wz (HK.out.below hBW2.out) (by rw [hnk.out]; omega) (by rw [hnk.out]; exact hkc) hkc2 HR.out.1 (by rw [hn.out]; omega) (HT.out.below hBW2.out)
        rw [hnk.out, hS.out, hd.out] at hsub
        have HSUB := hide hsub
        clear hsub hBz
        refine wpAny_take (i := 6) (v := .bool true) rfl (by kernel_rfl) (by kernel_rfl) (by kernel_rfl) (fun _ _ _ h => h) (Or.inl ⟨by rfl, by intro w; go_simp⟩) ?_
        refine wpAny_take (i := 7) (v := .slice (some ⟨w2.heap.size, 0, none⟩) 32 32) rfl (by kernel_rfl) (by kernel_rfl) (by kernel_rfl) (fun _ _ _ h => h) (Or.inl ⟨by rfl, by intro w; go_simp⟩) ?_
        refine wpAny_take (i := 8) (v := .slice KA nk capk) rfl (by kernel_rfl) (by kernel_rfl) (by kernel_rfl) (fun _ _ _ h => h) (Or.inl ⟨by rfl, by intro w; go_simp⟩) ?_
        refine wpAny_take (i := 9) (v := .slice A n cap) rfl (by kernel_rfl) (by kernel_rfl) (by kernel_rfl) (fun _ _ _ h => h) (Or.inl ⟨by rfl, by intro w; go_simp⟩) ?_
        refine wpAny_ready (rs := [10]) (by kernel_rfl) (by simp) ?_
        refine AllReady.cons rfl (fun K hK => ?_) AllReady.nil
        go_simp
        refine hK _ _ ?_
        clear hK K
        refine wpAny_ready (rs := [11]) (by kernel_rfl) (by simp) ?_
        refine AllReady.cons rfl (fun K hK => ?_) AllReady.nil
        go_simp
        refine HSUB.out.mono ?_
        rintro e wv ⟨hBv, gs, rfl, -, hHs⟩
        refine hK _ _ ?_
        clear hK K
        have hBW3 := hide (hBW2.out.trans (hBv.mono hBW2.out.size))
        have hsm := same_c d d (some ⟨w2.heap.size, 0, none⟩) (some ⟨gs, 0, none⟩) 32 32 wv (has_rb (hzz.out.below hBv hzz.out.lt) hdb.out) (has_rb hHs hdb.out) (by rw [hdl.out]; decide) (by rw [hdl.out]; decide)
        rw [hdl.out, show decide (d = d) = true by simp] at hsm
        have HSM := hide hsm
        clear hsm hBv hHs
        refine wpAny_ready (rs := [12]) (by kernel_rfl) (by simp) ?_
        refine AllReady.cons rfl (fun K hK => ?_) AllReady.nil
        go_simp
        refine HSM.out.mono ?_
        rintro e wu ⟨rfl, hBu⟩
        refine hK _ _ ?_
        clear hK K
        have hfin := hBW3.out.trans (hBu.mono hBW3.out.size)
        clear hBu
        refine wpAny_ready (rs := [13]) (by kernel_rfl) (by simp) ?_
        refine AllReady.cons rfl (fun K hK => ?_) AllReady.nil
        go_simp
        refine hK _ _ ?_
        clear hK K
        refine wpAny_ready (rs := [14]) (by kernel_rfl) (by simp) ?_
        refine AllReady.cons rfl (fun K hK => ?_) AllReady.nil
        go_simp
        refine hK _ _ ?_
        clear hK K
        refine wpAny_done (by kernel_rfl) ?_ _
        go_wp2_with fail
        go_ret
        exact ⟨rfl, hfin⟩
end Go.Proofs.YtijgomgiinlcoaaDoor
