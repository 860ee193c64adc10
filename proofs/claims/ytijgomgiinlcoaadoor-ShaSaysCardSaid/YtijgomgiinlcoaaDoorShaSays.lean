/-
  The law ShaSays of package lodgelaw1, walked. By an AI agent. No person has read it.
-/
import Derived.Test.YtijgomgiinlcoaaDoorShaRef2
import Derived.Test.YtijgomgiinlcoaaDoorShaHex
import Derived.Laws.Rows
namespace Go.Proofs.YtijgomgiinlcoaaDoor
open Go.RowKit

set_option maxRecDepth 100000 in
set_option maxHeartbeats 4000000 in
theorem rounds_c (w : World) (hT : Table w) :
    Calls Tryd.prog 14 #[] w fun e w' => e = .returned (.slice (some ⟨w.heap.size, 0, none⟩) 64 64) ∧ Has w' w.heap.size 55 (u32s Sha.K) ∧ Below w.heap.size w w' := by
  obtain ⟨tR, fR, hR0, hR1⟩ := hT
  have HR := hide hR0
  clear hR0
  obtain ⟨CS, hCS⟩ : ∃ CS, Hid ((u32s Sha.K).toArray = CS) := ⟨_, hide rfl⟩
  have HR' : Hid (w.heap[0]? = some (.cells CS tR fR)) := hide (by rw [← hCS.out]; exact HR.out)
  have hCs : Hid ((Tryd.prog.info? 55).map (·.size) = some CS.size) := hide (by rw [← hCS.out]; kernel_rfl)
  have hC1 : Hid (CS.all (·.oneCell') = true) := hide (by rw [← hCS.out]; kernel_rfl)
  obtain ⟨Z, hZ⟩ : ∃ Z, Hid ((u32s (List.replicate 64 0)).toArray = Z) := ⟨_, hide rfl⟩
  have hZl : Hid ((u32s (List.replicate 64 0)).toArray.size = CS.size) := hide (by rw [← hCS.out]; kernel_rfl)
  have hz : Hid ((w.alloc (.cells (u32s (List.replicate 64 0)).toArray 55)).heap[w.heap.size]? = some (.cells (u32s (List.replicate 64 0)).toArray 55 (0, 0))) := heap_alloc_new w _
  have hz0 : Hid ((w.alloc (.cells (u32s (List.replicate 64 0)).toArray 55)).heap[0]? = some (.cells CS tR fR)) := hide ((Below.heap_alloc w _ 0 hR1).trans HR'.out)
  have hz2 : Hid (((w.alloc (.cells (u32s (List.replicate 64 0)).toArray 55)).setRow w.heap.size CS).heap[w.heap.size]? = some (.cells CS 55 (0, 0))) := setRow_heap _ _ _ CS _ _ hz.out
  have hB2 : Hid (Below w.heap.size w ((w.alloc (.cells (u32s (List.replicate 64 0)).toArray 55)).setRow w.heap.size CS)) := hide (below_setRow ((Below.refl _ _).alloc (Nat.le_refl _) _) (Nat.le_refl _) _)
  go_enter Tryd.func14, Tryd.ntmps14
  go_wp2_with (first
    | (refine wpList_load_row rfl 55 _ rfl 0 rfl tR CS fR _ HR'.out Tryd.underlying55 rfl hCs.out ?_)
    | (refine wpList_store_row rfl 55 (.tmp 1) (.tmp 2) rfl w.heap.size CS rfl rfl _ _ hz.out hCs.out hZl.out hC1.out ?_
       generalize hw8 : World.setRow _ w.heap.size CS = w8
       have hw8' : (w.alloc (.cells (u32s (List.replicate 64 0)).toArray 55)).setRow w.heap.size CS = w8 := hw8
       rw [hw8'] at hz2 hB2
       clear hz hw8 hw8'))
  go_ret
  exact ⟨rfl, by unfold Has; rw [hz2.out, hCS.out], hB2.out⟩

/-- A load of a whole row, as one step of a region that draws. -/
theorem step_load_row1 {ops : Array Oper} {o : Oper} {a : Act} {w : World} {K : Act → World → Prop} {Q : Exit → Act → World → Prop} {E : Prop} (hwt : Region.wanted o (yielded ops a.tmps) = true) (ty : TypeId) (x : Operand) (ho : o.op = .load ty x)
    (g : Nat) (hx : a.eval x = .pointer (some ⟨g, 0, none⟩)) (t : TypeId) (cs : Array Value) (fr : Nat × Nat) (hg : w.heap[g]? = some (.cells cs t fr))
    (n : Nat) (e : TypeId) (hu : Tryd.prog.underlying ty = some (.array n e)) (hi : (Tryd.prog.info? ty).map (·.size) = some cs.size)
    (h : K (a.put o.dst (.agg cs)) w) : if Region.wanted o (yielded ops a.tmps) = true then Oper.wp Tryd.prog o a w K Q else E := by
  rw [if_pos hwt]
  exact wp_load_row ty x ho g hx t cs fr _ hg hu rfl hi h
/-- What is read of a block stays where only new memory turns. -/
theorem row_keep {w w' : World} {g : Nat} {ob : Obj} (h : w.heap[g]? = some ob) (hb : Below w.heap.size w w') : w'.heap[g]? = some ob := by
  have hl : g < w.heap.size := by
    rcases Nat.lt_or_ge g w.heap.size with h' | h'
    · exact h'
    · rw [Array.getElem?_eq_none h'] at h; cases h
  exact (hb.block g hl).trans h
theorem kinfo (w : World) (g : Nat) (t : TypeId) (i : Nat) (hi : i < 64) (h : Has w g t (u32s Sha.K)) : ∃ c : Nat, Hid (Sha.K.getD i 0 = c) ∧ w.cell? ⟨g, i, none⟩ = some (.int .u32 (c : Int)) := by
  refine ⟨_, hide rfl, ?_⟩
  rw [h.cell, u32s_at _ _ (by rw [Sha.K_length]; exact hi)]

set_option maxRecDepth 100000 in
set_option maxHeartbeats 8000000 in
theorem says_c (xa bs : List Nat) (A B : Option Addr) (ca cb : Nat) (W : World) (hA : Rb W A xa) (hB : Rb W B bs) (hca : xa.length ≤ ca) (hca2 : ca ≤ 9223372036854775807) (hcb : bs.length ≤ cb) (hcb2 : cb ≤ 9223372036854775807) (hT : Table W) :
    Calls Tryd.prog 3 #[.slice A xa.length ca, .slice B bs.length cb] W fun e w' => e = .returned (.bool true) ∧ Below W.heap.size W w' := by
  obtain ⟨n, hn⟩ : ∃ n, Hid (xa.length = n) := ⟨_, hide rfl⟩
  obtain ⟨m, hm⟩ : ∃ m, Hid (bs.length = m) := ⟨_, hide rfl⟩
  rw [hn.out] at hca ⊢
  rw [hm.out] at hcb ⊢
  have HA := hide hA
  have HB := hide hB
  have HT := hide hT
  clear hA hB hT
  by_cases h3 : 500 < n
  · have h3' : (500 : Int) < n := by omega
    go_enter Tryd.func3, Tryd.ntmps3
    go_wp2_with fail
    refine (first_c W HT.out).mono ?_
    rintro e w1 ⟨rfl, hB1⟩
    go_wp2_with fail
    go_ret
    exact ⟨rfl, hB1⟩
  by_cases h4 : 500 < m
  · have h4' : (500 : Int) < m := by omega
    have h3' : (n : Int) ≤ 500 := by omega
    go_enter Tryd.func3, Tryd.ntmps3
    go_wp2_with fail
    refine (first_c W HT.out).mono ?_
    rintro e w1 ⟨rfl, hB1⟩
    go_wp2_with fail
    go_ret
    exact ⟨rfl, hB1⟩
  have h3' : (n : Int) ≤ 500 := by omega
  have h4' : (m : Int) ≤ 500 := by omega
  obtain ⟨i0, hi0, hz0, hz1, hz2⟩ := u8info
  obtain ⟨Z, hZ⟩ : ∃ Z, Hid (madeCells (Value.int .u8 0).cells 1000 = Z) := ⟨_, hide rfl⟩
  have hZs : Hid (Z.size = 1000) := hide (by rw [← hZ.out, size_madeCells])
  have hmk : ∀ w : World, (Instr.makeSlice 22 (.int .i64 0) (.int .i64 1000)).run Tryd.prog w = .ok (.slice (some ⟨w.heap.size, 0, none⟩) 0 1000) (w.alloc (.cells Z 5)) := by
    intro w
    have h := run_make (P := Tryd.prog) w 22 5 i0 (.int .u8 0) ubs hi0 hz0 .i64 .i64 0 1000 (by omega) (by omega) (by rw [hz2]; omega) (by omega)
    rw [hz1, show (1000 : Int).toNat = 1000 by rfl, Nat.mul_one, hZ.out] at h
    exact h
  clear hi0 hz0 hz1 hz2
  go_enter Tryd.func3, Tryd.ntmps3
  go_wp2_with fail
  refine (first_c W HT.out).mono ?_
  rintro e w1 ⟨rfl, hB1⟩
  have hown0 : Hid ((w1.alloc (.cells Z 5)).ownsRow W.heap.size 5 1 (.slice (some ⟨w1.heap.size, 0, none⟩) 0 1000) 0 (u8s [])) := hide (by
    refine ⟨by simp, .inr ⟨_, 1000, Z, rfl, hB1.size, heap_alloc_new w1 _, by omega, by unfold maxLen; omega, by rw [hZs.out], by simp⟩⟩)
  have HB1 := hide (hB1.alloc hB1.size (.cells Z 5))
  have hs1 := hB1.size
  have hrA := hide (HA.out.below HB1.out)
  have hb0 : Hid (0 + n ≤ 1000000000000) := hide (by omega)
  have hsz : Hid (W.heap.size ≤ (w1.alloc (.cells Z 5)).heap.size) := hide (by simp; omega)
  clear hB1
  go_wp2_with (at_builtin; refine wpList_append_bs rfl (.tmp 27) (.tmp 28) rfl W.heap.size _ 0 (u8s []) rfl hown0.out A n ca xa rfl hn hrA.out hb0.out hsz.out ?_)
  intro v1 w2 hown1 hgrow1 _
  have hB2 : Below W.heap.size W w2 := HB1.out.grown hgrow1 hsz.out (fun k hk => (hown0.out.lt k hk).1)
  have hown1' : w2.ownsRow W.heap.size 5 1 v1 n (u8s xa) := by simpa using hown1
  have HO1 := hide hown1'
  have HB2 := hide hB2
  have hrB := hide (HB.out.below hB2)
  have hb1 : Hid (n + m ≤ 1000000000000) := hide (by omega)
  have hsz2 : Hid (W.heap.size ≤ w2.heap.size) := hide hB2.size
  clear hown1 hgrow1 hown1' hB2 hrA hb0 hsz hown0
  go_wp2_with (at_builtin; refine wpList_append_bs rfl (.tmp 29) (.tmp 30) rfl W.heap.size v1 n (u8s xa) rfl HO1.out B m cb bs rfl hm hrB.out hb1.out hsz2.out ?_)
  intro v2 w3 hown2 hgrow2 _
  have hB3 : Below W.heap.size W w3 := HB2.out.grown hgrow2 hsz2.out (fun k hk => (HO1.out.lt k hk).1)
  obtain ⟨both, hboth⟩ : ∃ l, Hid (xa ++ bs = l) := ⟨_, hide rfl⟩
  obtain ⟨L, hL⟩ : ∃ k, Hid (n + m = k) := ⟨_, hide rfl⟩
  have hLl : L ≤ 1000 := by rw [← hL.out]; omega
  have hbl : Hid (both.length = L) := hide (by rw [← hboth.out, List.length_append, hn.out, hm.out, hL.out])
  have hbB : Hid (Sha.Bytes both) := hide (by rw [← hboth.out]; exact HA.out.1.append HB.out.1)
  rw [show u8s xa ++ u8s bs = u8s both by rw [← hboth.out]; simp [u8s], hL.out] at hown2
  obtain ⟨A3, c3, rfl, -, hc3, hc32, hr3, -⟩ := own_rb hown2 hbB.out
  have HR3 := hide hr3
  have HB3 := hide hB3
  clear hown2 hgrow2 hr3 hB3 HO1 HB2 hrB hb1 hsz2
  obtain ⟨d, hd⟩ : ∃ d, Hid (Sha.digest both = d) := ⟨_, hide rfl⟩
  have hdl : Hid (d.length = 32) := hide (by rw [← hd.out]; exact Sha.digest_length _)
  have hdb : Hid (Sha.Bytes d) := hide (by rw [← hd.out]; exact Sha.digest_bytes _)
  obtain ⟨D, hD⟩ : ∃ D, Hid ((u8s d).toArray = D) := ⟨_, hide rfl⟩
  have hDs : Hid ((Tryd.prog.info? 24).map (·.size) = some D.size) := by
    rw [← hD.out]
    show _ = some ((u8s d).toArray).size
    rw [List.size_toArray, List.length_map, hdl.out]
    kernel_rfl
  have hDl : Hid ((u8s (List.replicate 32 0)).toArray.size = D.size) := by
    rw [← hD.out]
    simp [Hid, hdl.out]
  have hD1 : Hid (D.all (·.oneCell') = true) := by
    rw [← hD.out]
    simp [Hid, Function.comp_def, Value.oneCell']
  have hw := refsum_c both A3 c3 w3 HR3.out (by rw [hbl.out]; omega)
  rw [hbl.out, hd.out, hD.out] at hw
  have HW := hide hw
  clear hw
  go_wp2_with fail
  refine HW.out.mono ?_
  rintro e w4 ⟨rfl, hB4⟩
  have HB4 := hide (HB3.out.trans (hB4.mono HB3.out.size))
  have HR4 := hide (HR3.out.below hB4)
  clear hB4 HW
  have hz : Hid ((w4.alloc (.cells (u8s (List.replicate 32 0)).toArray 24)).heap[w4.heap.size]? = some (.cells (u8s (List.replicate 32 0)).toArray 24 (0, 0))) := heap_alloc_new w4 _
  have hz2 : Hid (((w4.alloc (.cells (u8s (List.replicate 32 0)).toArray 24)).setRow w4.heap.size D).heap[w4.heap.size]? = some (.cells D 24 (0, 0))) := setRow_heap _ _ _ D _ _ hz.out
  have hB5 : Hid (Below w4.heap.size w4 ((w4.alloc (.cells (u8s (List.replicate 32 0)).toArray 24)).setRow w4.heap.size D)) := hide (below_setRow ((Below.refl _ _).alloc (Nat.le_refl _) _) (Nat.le_refl _) _)
  go_wp2_with (refine wpList_store_row rfl 24 (.tmp 7) (.tmp 33) rfl w4.heap.size D rfl rfl _ _ hz.out hDs.out hDl.out hD1.out ?_
               generalize hw8 : World.setRow _ w4.heap.size D = w5
               have hw8' : (w4.alloc (.cells (u8s (List.replicate 32 0)).toArray 24)).setRow w4.heap.size D = w5 := hw8
               rw [hw8'] at hz2 hB5
               clear hz hw8 hw8')
  have HB5 := hide (HB4.out.trans (hB5.out.mono HB4.out.size))
  have HR5 := hide (HR4.out.below hB5.out)
  refine (rounds_c w5 (HT.out.below HB5.out)).mono ?_
  rintro e w6 ⟨rfl, hK6, hB6⟩
  go_wp2_with fail
  refine (refrounds_c w6).mono ?_
  rintro e w7 ⟨rfl, hK7, hB7⟩
  have hK6' := hide (hK6.below hB7 hK6.lt)
  have HK7 := hide hK7
  have hB57 := hB6.trans (hB7.mono hB6.size)
  have HZ7 : Hid (w7.heap[w4.heap.size]? = some (.cells D 24 (0, 0))) := hide (row_keep hz2.out hB57)
  have HB7 := hide (HB5.out.trans (hB57.mono HB5.out.size))
  have HR7 := hide (HR5.out.below hB57)
  clear hK6 hK7 hB6 hB7 hB57 hB5 hz2
  go_wp2_with fail
  go_loopw [10] (fun k wr => ∃ i : Nat, i ≤ 64 ∧ k = .int .i64 i ∧ ∃ q, wr = w7.drewN q) (fun k _ => 64 - (intOf k).toNat)
  case atStart => exact ⟨0, by omega, rfl, 0, rfl⟩
  case round =>
    obtain ⟨i, hi, rfl, q, rfl⟩ := hrel
    by_cases hlt : i < 64
    · have hi64 : (i : Int) < 64 := by omega
      obtain ⟨c, hc, c1⟩ := kinfo w7 w5.heap.size 55 i hlt hK6'.out
      obtain ⟨c', hc', c2⟩ := kinfo w7 w6.heap.size 28 i hlt HK7.out
      obtain rfl : c' = c := hc'.out.symm.trans hc.out
      go_wp2_with fail
      go_quiet (fail)
      go_wp2_with fail
      go_roundw
      case rel => exact ⟨i + 1, by omega, by go_num, _, rfl⟩
      case measure => simp [intOf]; omega
    · obtain rfl : i = 64 := by omega
      go_wp2_with fail
      generalize hw8 : World.drewN w7 q = w8
      have HB8 : Hid (Below W.heap.size W w8) := hide (by rw [← hw8]; exact ⟨HB7.out.os, HB7.out.tape, HB7.out.output, HB7.out.size, HB7.out.block⟩)
      have HZ8 : Hid (w8.heap[w4.heap.size]? = some (.cells D 24 (0, 0))) := by rw [← hw8]; exact HZ7
      have HR8 : Hid (Rb w8 A3 both) := by rw [← hw8]; exact HR7
      clear hw8 HB7 HZ7 HR7 hK6' HK7
      have hp1 := parts_two (w := w8.drew) (A := A) (A2 := B) (cap := ca) (cap2 := cb) (HA.out.below HB8.out.drew) (by rw [hn.out]; exact hca) hca2 (HB.out.below HB8.out.drew) (by rw [hm.out]; exact hcb) hcb2
      rw [hn.out, hm.out] at hp1
      have hBa : Hid (Below W.heap.size W (w8.drew.alloc (.cells #[.slice A n ca, .slice B m cb] 22))) := hide (HB8.out.drew.alloc HB8.out.drew.size _)
      have hof := of_c (some ⟨w8.drew.heap.size, 0, none⟩) [xa, bs] 2 (w8.drew.alloc (.cells #[.slice A n ca, .slice B m cb] 22)) hp1 (by simp) (by simp [hn.out, hm.out]; omega) (HT.out.below hBa.out)
      rw [show [xa, bs].flatten = xa ++ bs by simp, hboth.out, hd.out, hD.out] at hof
      have HOF := hide hof
      have hza : Hid ((w8.drew.alloc (.cells #[.slice A n ca, .slice B m cb] 22)).heap[w4.heap.size]? = some (.cells D 24 (0, 0))) := hide (row_keep (w := w8.drew) HZ8.out ((Below.refl _ _).alloc (Nat.le_refl _) _))
      clear hof hp1
      refine wp_region_any (by kernel_rfl) ?_
      change wpAny _ _ _ _ _ _ _ (World.drew _)
      refine wpAny_take (i := 0) (v := .slice A n ca) rfl (by kernel_rfl) (by kernel_rfl) (by kernel_rfl) (fun _ _ _ h => h) (Or.inl ⟨by rfl, by intro w; go_simp⟩) ?_
      refine wpAny_take (i := 1) (v := .slice B m cb) rfl (by kernel_rfl) (by kernel_rfl) (by kernel_rfl) (fun _ _ _ h => h) (Or.inl ⟨by rfl, by intro w; go_simp⟩) ?_
      refine wpAny_ready (rs := [2, 4]) (by kernel_rfl) (by simp) ?_
      refine AllReady.cons rfl (fun K hK => ?_) (AllReady.cons rfl (fun K hK => ?_) AllReady.nil)
      focus
        go_simp
        refine hK _ _ ?_
        clear hK K
        refine wpAny_ready (rs := [3, 4]) (by kernel_rfl) (by simp) ?_
        refine AllReady.cons rfl (fun K hK => ?_) (AllReady.cons rfl (fun K hK => ?_) AllReady.nil)
        focus
          go_simp
          refine HOF.out.mono ?_
          rintro e wy ⟨rfl, hBy⟩
          refine hK _ _ ?_
          clear hK K
          have hzq := hide (row_keep hza.out hBy)
          refine wpAny_ready (rs := [4]) (by kernel_rfl) (by simp) ?_
          refine AllReady.cons rfl (fun K hK => ?_) AllReady.nil
          refine step_load_row1 (by rfl) 24 (.tmp 7) rfl w4.heap.size rfl 24 D (0, 0) hzq.out _ _ Tryd.underlying24 hDs.out ?_
          refine hK _ _ ?_
          clear hK K
          clear hzq
        rotate_left
        focus
          refine step_load_row1 (by rfl) 24 (.tmp 7) rfl w4.heap.size rfl 24 D (0, 0) hza.out _ _ Tryd.underlying24 hDs.out ?_
          refine hK _ _ ?_
          clear hK K
          refine wpAny_ready (rs := [3]) (by kernel_rfl) (by simp) ?_
          refine AllReady.cons rfl (fun K hK => ?_) AllReady.nil
          go_simp
          refine HOF.out.mono ?_
          rintro e wy ⟨rfl, hBy⟩
          refine hK _ _ ?_
          clear hK K
        rotate_left
      rotate_left 2
      focus
        refine step_load_row1 (by rfl) 24 (.tmp 7) rfl w4.heap.size rfl 24 D (0, 0) HZ8.out _ _ Tryd.underlying24 hDs.out ?_
        refine hK _ _ ?_
        clear hK K
        refine wpAny_ready (rs := [2]) (by kernel_rfl) (by simp) ?_
        refine AllReady.cons rfl (fun K hK => ?_) AllReady.nil
        go_simp
        refine hK _ _ ?_
        clear hK K
        refine wpAny_ready (rs := [3]) (by kernel_rfl) (by simp) ?_
        refine AllReady.cons rfl (fun K hK => ?_) AllReady.nil
        go_simp
        refine HOF.out.mono ?_
        rintro e wy ⟨rfl, hBy⟩
        refine hK _ _ ?_
        clear hK K
      all_goals
        have HBy := hide (hBa.out.trans (hBy.mono hBa.out.size))
        have HZy := hide (row_keep hza.out hBy)
        have HRy := hide ((HR8.out.below (show Below w8.heap.size w8 (w8.drew.alloc (.cells #[.slice A n ca, .slice B m cb] 22)) from ((Below.refl _ _).drew).alloc (Nat.le_refl _) _)).below hBy)
        clear hBy
        refine wpAny_ready (rs := [5]) (by kernel_rfl) (by simp) ?_
        refine AllReady.cons rfl (fun K hK => ?_) AllReady.nil
        go_simp
        have hs := samesum_c d hdl.out hdb.out wy
        rw [hD.out] at hs
        refine hs.mono ?_
        clear hs
        rintro e wz ⟨rfl, hBz⟩
        refine hK _ _ ?_
        clear hK K
        have HBz := hide (HBy.out.trans (hBz.mono HBy.out.size))
        have HZz := hide (row_keep HZy.out hBz)
        have HRz := hide (HRy.out.below hBz)
        clear hBz HBy HZy HRy
        have hp1 := parts_one (w := wz) (cap := c3) HRz.out (by rw [hbl.out]; exact hc3) hc32
        rw [hbl.out] at hp1
        have hBb : Hid (Below W.heap.size W (wz.alloc (.cells #[.slice A3 L c3] 22))) := hide (HBz.out.alloc HBz.out.size _)
        have hof := of_c (some ⟨wz.heap.size, 0, none⟩) [both] 1 (wz.alloc (.cells #[.slice A3 L c3] 22)) hp1 (by simp) (by simp [hbl.out]; omega) (HT.out.below hBb.out)
        rw [show [both].flatten = both by simp, hd.out, hD.out] at hof
        have HOF2 := hide hof
        have hzb : Hid ((wz.alloc (.cells #[.slice A3 L c3] 22)).heap[w4.heap.size]? = some (.cells D 24 (0, 0))) := hide (row_keep HZz.out ((Below.refl _ _).alloc (Nat.le_refl _) _))
        clear hof hp1
        refine wpAny_take (i := 6) (v := .bool true) rfl (by kernel_rfl) (by kernel_rfl) (by kernel_rfl) (fun _ _ _ h => h) (Or.inl ⟨by rfl, by intro w; go_simp⟩) ?_
        refine wpAny_take (i := 7) (v := .slice A3 L c3) rfl (by kernel_rfl) (by kernel_rfl) (by kernel_rfl) (fun _ _ _ h => h) (Or.inl ⟨by rfl, by intro w; go_simp⟩) ?_
        refine wpAny_ready (rs := [8, 10]) (by kernel_rfl) (by simp) ?_
        refine AllReady.cons rfl (fun K hK => ?_) (AllReady.cons rfl (fun K hK => ?_) AllReady.nil)
        focus
          go_simp
          refine hK _ _ ?_
          clear hK K
          refine wpAny_ready (rs := [9, 10]) (by kernel_rfl) (by simp) ?_
          refine AllReady.cons rfl (fun K hK => ?_) (AllReady.cons rfl (fun K hK => ?_) AllReady.nil)
          focus
            go_simp
            refine HOF2.out.mono ?_
            rintro e wv ⟨rfl, hBv⟩
            refine hK _ _ ?_
            clear hK K
            have hzq := hide (row_keep hzb.out hBv)
            refine wpAny_ready (rs := [10]) (by kernel_rfl) (by simp) ?_
            refine AllReady.cons rfl (fun K hK => ?_) AllReady.nil
            refine step_load_row1 (by rfl) 24 (.tmp 7) rfl w4.heap.size rfl 24 D (0, 0) hzq.out _ _ Tryd.underlying24 hDs.out ?_
            refine hK _ _ ?_
            clear hK K
            clear hzq
          rotate_left
          focus
            refine step_load_row1 (by rfl) 24 (.tmp 7) rfl w4.heap.size rfl 24 D (0, 0) hzb.out _ _ Tryd.underlying24 hDs.out ?_
            refine hK _ _ ?_
            clear hK K
            refine wpAny_ready (rs := [9]) (by kernel_rfl) (by simp) ?_
            refine AllReady.cons rfl (fun K hK => ?_) AllReady.nil
            go_simp
            refine HOF2.out.mono ?_
            rintro e wv ⟨rfl, hBv⟩
            refine hK _ _ ?_
            clear hK K
          rotate_left
        rotate_left 2
        focus
          refine step_load_row1 (by rfl) 24 (.tmp 7) rfl w4.heap.size rfl 24 D (0, 0) HZz.out _ _ Tryd.underlying24 hDs.out ?_
          refine hK _ _ ?_
          clear hK K
          refine wpAny_ready (rs := [8]) (by kernel_rfl) (by simp) ?_
          refine AllReady.cons rfl (fun K hK => ?_) AllReady.nil
          go_simp
          refine hK _ _ ?_
          clear hK K
          refine wpAny_ready (rs := [9]) (by kernel_rfl) (by simp) ?_
          refine AllReady.cons rfl (fun K hK => ?_) AllReady.nil
          go_simp
          refine HOF2.out.mono ?_
          rintro e wv ⟨rfl, hBv⟩
          refine hK _ _ ?_
          clear hK K
        all_goals
          have HBv := hide (hBb.out.trans (hBv.mono hBb.out.size))
          have HZv := hide (row_keep hzb.out hBv)
          clear hBv
          refine wpAny_ready (rs := [11]) (by kernel_rfl) (by simp) ?_
          refine AllReady.cons rfl (fun K hK => ?_) AllReady.nil
          go_simp
          have hs := samesum_c d hdl.out hdb.out wv
          rw [hD.out] at hs
          refine hs.mono ?_
          clear hs
          rintro e wu ⟨rfl, hBu⟩
          refine hK _ _ ?_
          clear hK K
          have HBu := hide (HBv.out.trans (hBu.mono HBv.out.size))
          have HZu := hide (row_keep HZv.out hBu)
          clear hBu HBv HZv
          have htx := text_c d hdl.out hdb.out wu
          obtain ⟨S, hS⟩ : ∃ S, Hid (strOfNums ((Sha.hex d).map Int.ofNat) = S) := ⟨_, hide rfl⟩
          rw [hD.out, hS.out] at htx
          have HTX := hide htx
          clear htx
          refine wpAny_ready (rs := [12]) (by kernel_rfl) (by simp) ?_
          refine AllReady.cons rfl (fun K hK => ?_) AllReady.nil
          go_simp
          refine hK _ _ ?_
          clear hK K
          refine wpAny_take (i := 13) (v := .bool true) rfl (by kernel_rfl) (by kernel_rfl) (by kernel_rfl) (fun _ _ _ h => h) (Or.inl ⟨by rfl, by intro w; go_simp⟩) ?_
          refine wpAny_ready (rs := [14, 16]) (by kernel_rfl) (by simp) ?_
          refine AllReady.cons rfl (fun K hK => ?_) (AllReady.cons rfl (fun K hK => ?_) AllReady.nil)
          focus
            refine step_load_row1 (by rfl) 24 (.tmp 7) rfl w4.heap.size rfl 24 D (0, 0) HZu.out _ _ Tryd.underlying24 hDs.out ?_
            refine hK _ _ ?_
            clear hK K
            refine wpAny_ready (rs := [15, 16]) (by kernel_rfl) (by simp) ?_
            refine AllReady.cons rfl (fun K hK => ?_) (AllReady.cons rfl (fun K hK => ?_) AllReady.nil)
            focus
              go_simp
              refine HTX.out.mono ?_
              rintro e wt ⟨rfl, hBt⟩
              refine hK _ _ ?_
              clear hK K
              have hzq := hide (row_keep HZu.out hBt)
              refine wpAny_ready (rs := [16]) (by kernel_rfl) (by simp) ?_
              refine AllReady.cons rfl (fun K hK => ?_) AllReady.nil
              refine step_load_row1 (by rfl) 24 (.tmp 7) rfl w4.heap.size rfl 24 D (0, 0) hzq.out _ _ Tryd.underlying24 hDs.out ?_
              refine hK _ _ ?_
              clear hK K
              clear hzq
            rotate_left
            focus
              refine step_load_row1 (by rfl) 24 (.tmp 7) rfl w4.heap.size rfl 24 D (0, 0) HZu.out _ _ Tryd.underlying24 hDs.out ?_
              refine hK _ _ ?_
              clear hK K
              refine wpAny_ready (rs := [15]) (by kernel_rfl) (by simp) ?_
              refine AllReady.cons rfl (fun K hK => ?_) AllReady.nil
              go_simp
              refine HTX.out.mono ?_
              rintro e wt ⟨rfl, hBt⟩
              refine hK _ _ ?_
              clear hK K
            rotate_left
          rotate_left 2
          focus
            refine step_load_row1 (by rfl) 24 (.tmp 7) rfl w4.heap.size rfl 24 D (0, 0) HZu.out _ _ Tryd.underlying24 hDs.out ?_
            refine hK _ _ ?_
            clear hK K
            refine wpAny_ready (rs := [14]) (by kernel_rfl) (by simp) ?_
            refine AllReady.cons rfl (fun K hK => ?_) AllReady.nil
            refine step_load_row1 (by rfl) 24 (.tmp 7) rfl w4.heap.size rfl 24 D (0, 0) HZu.out _ _ Tryd.underlying24 hDs.out ?_
            refine hK _ _ ?_
            clear hK K
            refine wpAny_ready (rs := [15]) (by kernel_rfl) (by simp) ?_
            refine AllReady.cons rfl (fun K hK => ?_) AllReady.nil
            go_simp
            refine HTX.out.mono ?_
            rintro e wt ⟨rfl, hBt⟩
            refine hK _ _ ?_
            clear hK K
          all_goals
            have HBt := hide (HBu.out.trans (hBt.mono HBu.out.size))
            clear hBt
            have hhx := hex_c d hdl.out hdb.out wt
            rw [show hexStr d = S by unfold hexStr; exact hS.out, hD.out] at hhx
            have HHX := hide hhx
            clear hhx
            refine wpAny_ready (rs := [17]) (by kernel_rfl) (by simp) ?_
            refine AllReady.cons rfl (fun K hK => ?_) AllReady.nil
            go_simp
            refine HHX.out.mono ?_
            rintro e ws ⟨rfl, hBs⟩
            refine hK _ _ ?_
            clear hK K
            have hfin := HBt.out.trans (hBs.mono HBt.out.size)
            clear hBs
            refine wpAny_ready (rs := [18]) (by kernel_rfl) (by simp) ?_
            refine AllReady.cons rfl (fun K hK => ?_) AllReady.nil
            go_simp
            refine hK _ _ ?_
            clear hK K
            refine wpAny_ready (rs := [19]) (by kernel_rfl) (by simp) ?_
            refine AllReady.cons rfl (fun K hK => ?_) AllReady.nil
            go_simp
            refine hK _ _ ?_
            clear hK K
            refine wpAny_ready (rs := [20]) (by kernel_rfl) (by simp) ?_
            refine AllReady.cons rfl (fun K hK => ?_) AllReady.nil
            go_simp
            refine hK _ _ ?_
            clear hK K
            refine wpAny_done (by kernel_rfl) ?_ _
            go_wp2_with fail
            go_ret
            exact ⟨rfl, hfin⟩
end Go.Proofs.YtijgomgiinlcoaaDoor
