/-
  The law FltSums of package lodgelaw3, walked. By an AI agent. No person has read it.
-/
import Derived.Test.YteeiehaebiigfaaDoorFltAp
import Derived.Test.YteeiehaebiigfaaDoorFltIn
import Derived.Test.YteeiehaebiigfaaDoorFltHalves
import Derived.Test.YteeiehaebiigfaaDoorFltGreat

namespace Go.Proofs.YteeiehaebiigfaaDoor
open Go.RowKit

set_option maxRecDepth 100000 in
set_option maxHeartbeats 4000000 in
theorem sums_c (zs : List Int) (A : Option Addr) (cap : Nat) (at_ : Int) (w : World) (hr : Ri w A zs) (hl : zs.length ≤ 40) (hT : Tz w) :
    Calls Tryd.prog 10 #[.slice A zs.length cap, .int .i64 at_] w fun e w' => e = .returned (.bool true) ∧ Below w.heap.size w w' := by
  have H0 := hide (first_c w hT)
  obtain ⟨n, hn⟩ : ∃ n, Hid (zs.length = n) := ⟨_, hide rfl⟩
  rw [hn.out] at hl ⊢
  have HA := hide hr
  clear hr
  go_enter Tryd.func10, Tryd.ntmps10
  go_wp2_with fail
  refine H0.out.mono ?_
  rintro e' w2 ⟨rfl, rfl⟩
  go_wp2_with fail
  obtain ⟨i0, hi0, hz0, hz1, hz2⟩ := f64info
  have HI0 := hide hi0
  have HZ0 := hide hz0
  have HZ1 := hide hz1
  have HZ2 := hide hz2
  have HU := hide und_row
  clear hi0 hz0 hz1 hz2
  go_loopw [6, 7, 8] (fun v s k wr => ∃ (i : Nat) (ns : List Int) (u : Value), u = v ∧ i ≤ n ∧ k = .int .i64 i ∧ s = .int .i64 ns.sum ∧ Hid (ns.length = i) ∧ Hid (∀ m ∈ ns, m.natAbs ≤ 549755813888) ∧ Hid (wr.ownsRow w2.heap.size 22 1 v i (f64s (ns.map fun m => Flt.mk m 0))) ∧ Hid (Below w2.heap.size w2 wr)) (fun _ _ k _ => n - (intOf k).toNat)
  case atStart => exact ⟨0, [], _, rfl, by omega, rfl, rfl, hide rfl, hide (fun m hm => by cases hm), hide ⟨rfl, .inl ⟨rfl, rfl⟩⟩, hide (Below.refl _ _)⟩
  case round =>
    obtain ⟨i, ns, v, rfl, hi, rfl, rfl, HL, HN, HO, HB⟩ := hrel
    by_cases hlt : i < n
    · obtain ⟨ad, z, rfl, ez, cz⟩ := ri_at (HA.out.below HB.out) i (by rw [hn.out]; exact hlt)
      have him : (i : Int) < n := by omega
      have H1 := hide (number_c z 1099511627776 (by decide) (by decide) 1099511627776 rfl wr)
      have hsm := sum_small ns HN.out
      rw [HL.out] at hsm
      obtain ⟨S, hS⟩ : ∃ S, Hid (ns.sum = S) := ⟨_, hide rfl⟩
      rw [hS.out] at hsm ⊢
      go_wp2_with fail
      refine H1.out.mono ?_
      rintro e' w3 ⟨⟨k, hk, rfl⟩, rfl⟩
      obtain ⟨m, hm⟩ : ∃ m : Int, (k : Int) - 549755813888 = m := ⟨_, rfl⟩
      have hm1 : m.natAbs ≤ 549755813888 := by omega
      have hfm := float_of_any m
      obtain ⟨F, hF⟩ : ∃ F, Hid (Flt.mk m 0 = F) := ⟨_, hide rfl⟩
      rw [hF.out] at hfm
      have hown2 := hide (HO.out.alloc (.cells #[.float .f64 F] 22))
      have hsz : Hid (w2.heap.size ≤ (w3.alloc (.cells #[.float .f64 F] 22)).heap.size) := hide (by have := HB.out.size; simp; omega)
      have hb1 : Hid (i + 1 ≤ maxLen) := hide (by unfold maxLen; omega)
      have hb2 : Hid ((i + 1) * 8 ≤ 140737488355328) := hide (by omega)
      have hnw := hide (new_cells w3 22 [.float .f64 F])
      have h1w : Hid (∀ u ∈ [Value.float .f64 F], u.oneCell' = true) := hide (by
        intro u hu
        simp at hu
        subst hu
        rfl)
      go_wp2_with (at_builtin; refine wpList_append_own _ rfl (.tmp 39) (.tmp 42) 27 rfl w2.heap.size 22 i0 (.float .f64 0) 1 8 HU.out HI0.out HZ0.out HZ1.out HZ2.out rfl (by decide) v i _ rfl hown2.out ⟨w3.heap.size, 0, none⟩ 1 1 [.float .f64 F] rfl rfl hnw.out h1w.out hb1.out hb2.out hsz.out ?_)
      intro v' w' hown' hgrow _
      have HB' := hide (below_row HB.out HO.out hgrow)
      have HO' := hide hown'
      clear hown' hgrow
      go_wp2_with fail
      go_roundw
      case rel =>
        refine ⟨i + 1, ns ++ [m], _, rfl, by omega, by go_num, ?_, hide (by rw [List.length_append, HL.out]; rfl), ?_, ?_, HB'⟩
        · rw [List.sum_append, hS.out]
          simp
        · refine hide fun j hj => ?_
          rcases List.mem_append.1 hj with hj | hj
          · exact HN.out j hj
          · rw [List.mem_singleton] at hj
            rw [hj]
            exact hm1
        · refine hide ?_
          rw [List.map_append, List.map_cons, List.map_nil, hF.out]
          simpa [f64s] using HO'.out
      case measure => simp [intOf]; omega
    · obtain rfl : i = n := by omega
      have hsm := sum_small ns HN.out
      rw [HL.out] at hsm
      have hlt : ∀ x ∈ ns.map fun m => Flt.mk m 0, x < 18446744073709551616 := fun x hx => by
        obtain ⟨m, hm, rfl⟩ := List.mem_map.1 hx
        exact (whole_facts m (by have := HN.out m hm; omega)).1
      obtain ⟨B, c, rfl, hfl, hxl⟩ := fl_own HO.out hlt
      obtain ⟨hc1, hc2⟩ := own_cap HO.out
      have h2 := sum_c (ns.map fun m => Flt.mk m 0) B c wr hfl (by omega)
      rw [hxl] at h2
      obtain ⟨S, hS⟩ : ∃ S, Hid (ns.sum = S) := ⟨_, hide rfl⟩
      have hsw := hide (fun r h => sum_whole ns 0 0 r HN.out (by decide) (by have := HL.out; omega) ((mk_zero 0).symm ▸ h))
      rw [hS.out] at hsm hsw ⊢
      have hfs := float_of_any S
      obtain ⟨s1, s2, -, -⟩ := whole_facts S (by omega)
      have hss : FloatKind.f64.format.order (Flt.mk S 0) (Flt.mk S 0) = some .eq := order_num' (by unfold Flt.nanb; rw [decide_eq_false_iff_not]; omega)
      obtain ⟨F, hF⟩ : ∃ F, Hid (Flt.mk S 0 = F) := ⟨_, hide rfl⟩
      rw [hF.out] at hfs hss
      have H2 := hide h2
      have HF := hide hfl
      have HX := hide hxl
      have HLT := hide hlt
      clear h2 hfl hxl hlt s1 s2
      go_wp2_with fail
      refine H2.out.mono ?_
      rintro e' w3 ⟨⟨r, rfl, hr⟩, q, rfl⟩
      have hrF : r = F := by
        rw [hsw.out r hr, Int.zero_add, hF.out]
      subst hrF
      clear hr
      have HC := hide (copysign_c0 (wr.drewN q))
      go_wp2_with fail
      refine HC.out.mono ?_
      rintro e' w3 ⟨rfl, rfl⟩
      go_wp2_with fail
      refine (sum_negzero (wr.drewN q)).mono ?_
      rintro e' w4 ⟨rfl, hB4, hs4⟩
      have HB4 := hide (below_two HB.out (below_two (below_drewN (Below.refl _ wr) q) hB4))
      have HX4 := hide (HF.out.below (below_two (below_drewN (Below.refl _ wr) q) hB4))
      clear hB4 hs4
      have h00 : ∀ w : World, Calls Tryd.prog 17 #[.float .f64 0, .float .f64 0] w fun e w' => e = .returned (.bool true) ∧ w' = w := same_c 0 0
      have H00 := hide h00
      clear h00
      go_wp2_with fail
      refine (H00.out _).mono ?_
      rintro e' w4 ⟨rfl, rfl⟩
      go_wp2_with fail
      refine (sum_none _).mono ?_
      rintro e' w5 ⟨rfl, q5, rfl⟩
      go_wp2_with fail
      refine (H00.out _).mono ?_
      rintro e' w5 ⟨rfl, rfl⟩
      obtain ⟨w5, hw5⟩ : ∃ w5, w4.drewN q5 = w5 := ⟨_, rfl⟩
      rw [hw5]
      have HB5 : Hid (Below w2.heap.size w2 w5) := hide (by rw [← hw5]; exact below_drewN HB4.out q5)
      have HX5 : Hid (Fl w5 B (ns.map fun m => Flt.mk m 0)) := hide (by rw [← hw5]; exact HX4.out.below (below_drewN (Below.refl _ w4) q5))
      clear hw5 HX4
      have HNU := hide (number_c at_ (i + 1) (by omega) (by omega) ((i : Int) + 1) (by omega) w5)
      go_wp2_with fail
      refine HNU.out.mono ?_
      rintro e' w6 ⟨⟨k, hk, rfl⟩, rfl⟩
      have hki : k ≤ i := by omega
      clear hk
      obtain ⟨Z, hZs, hmk⟩ := made50
      have hhead := head_run B i c k (by omega)
      obtain ⟨B2, hB2⟩ : ∃ B2, Hid ((if c = k then B else B.map (·.add (k * 1))) = B2) := ⟨_, hide rfl⟩
      have hrest := rest_run B B2 i c k hB2 hki
      obtain ⟨X, hX⟩ : ∃ X, Hid ((ns.map fun m => Flt.mk m 0) = X) := ⟨_, hide rfl⟩
      rw [hX.out] at HX5 HX HLT
      have htl : Hid ((X.take k).length = k) := hide (by rw [List.length_take, HX.out]; omega)
      have hdl : Hid ((X.drop k).length = i - k) := hide (by rw [List.length_drop, HX.out])
      have hn0 : Hid (0 + k ≤ 1000000000000) := hide (by omega)
      have hn1 : Hid (0 + k + 1 ≤ 1000000000000) := hide (by omega)
      have hn2 : Hid (0 + k + 1 + (i - k) ≤ 1000000000000) := hide (by omega)
      go_wp2_with fail
      have HXwy := hide (HX5.out.below (w := w6) (wr := w6.drew) ((Below.refl _ _).drew))
      have hown0y := hide (made_own w6.drew Z hZs.out)
      have hsz0y : Hid (w6.drew.heap.size ≤ (w6.drew.alloc (.cells Z 22)).heap.size) := hide (by simp)
      have hb0y : Below w6.drew.heap.size w6.drew (w6.drew.alloc (.cells Z 22)) := (Below.refl _ _).alloc (Nat.le_refl _) _
      have hXay := hide ((HXwy.out.below hb0y).head k)
      have HB0y := hide hb0y
      clear hb0y
      refine wp_region_any (by kernel_rfl) ?_
      change wpAny _ _ _ _ _ _ _ (World.drew _)
      refine wpAny_take (i := 1) (v := .slice B i c) rfl (by kernel_rfl) (by kernel_rfl) (by kernel_rfl) (fun _ _ _ h => h) (Or.inl ⟨by rfl, by intro w; go_simp⟩) ?_
      refine wpAny_take (i := 2) (v := .int .i64 (k : Int)) rfl (by kernel_rfl) (by kernel_rfl) (by kernel_rfl) (fun _ _ _ h => h) (Or.inl ⟨by rfl, by intro w; go_simp⟩) ?_
      refine wpAny_take (i := 3) (v := .slice B k c) rfl (by kernel_rfl) (by kernel_rfl) (by kernel_rfl) (fun _ _ _ h => h) (Or.inl ⟨by rfl, by intro w; go_simp⟩) ?_
      refine wpAny_take (i := 8) (v := .slice B i c) rfl (by kernel_rfl) (by kernel_rfl) (by kernel_rfl) (fun _ _ _ h => h) (Or.inl ⟨by rfl, by intro w; go_simp⟩) ?_
      refine wpAny_take (i := 9) (v := .int .i64 (k : Int)) rfl (by kernel_rfl) (by kernel_rfl) (by kernel_rfl) (fun _ _ _ h => h) (Or.inl ⟨by rfl, by intro w; go_simp⟩) ?_
      refine wpAny_take (i := 10) (v := .slice B2 (i - k) (c - k)) rfl (by kernel_rfl) (by kernel_rfl) (by kernel_rfl) (fun _ _ _ h => h) (Or.inl ⟨by rfl, by intro w; go_simp⟩) ?_
      refine wpAny_ready (rs := [0]) (by kernel_rfl) (by simp) ?_
      refine AllReady.cons rfl (fun K hK => ?_) AllReady.nil
      go_simp
      refine hK _ _ ?_
      clear hK K
      refine wpAny_ready (rs := [4]) (by kernel_rfl) (by simp) ?_
      refine AllReady.cons rfl (fun K hK => ?_) AllReady.nil
      refine step_append_fs rfl _ _ rfl w6.drew.heap.size _ 0 (f64s []) rfl hown0y.out B k c (X.take k) rfl htl hXay.out hn0.out hsz0y.out fun v1y x1y ho1y hg1y => ?_
      refine hK _ _ ?_
      clear hK K
      have HB1y := hide (HB0y.out.grown hg1y hsz0y.out (fun j hj => (hown0y.out.lt j hj).1))
      have HO1y : Hid (x1y.ownsRow w6.drew.heap.size 22 1 v1y (0 + k) (f64s (X.take k))) := hide (by simpa [f64s] using ho1y)
      clear ho1y hg1y hXay HB0y hown0y hsz0y
      refine wpAny_ready (rs := [5]) (by kernel_rfl) (by simp) ?_
      refine AllReady.cons rfl (fun K hK => ?_) AllReady.nil
      go_simp
      refine (mathnan_c x1y).mono ?_
      rintro e x1y ⟨rfl, rfl⟩
      refine hK _ _ ?_
      clear hK K
      refine wpAny_ready (rs := [6]) (by kernel_rfl) (by simp) ?_
      refine AllReady.cons rfl (fun K hK => ?_) AllReady.nil
      go_simp
      refine hK _ _ ?_
      clear hK K
      have hown2y := hide (HO1y.out.alloc (.cells #[.float .f64 9221120237041090561] 22))
      have hsz2y : Hid (w6.drew.heap.size ≤ (x1y.alloc (.cells #[.float .f64 9221120237041090561] 22)).heap.size) := hide (by have := HB1y.out.size; simp at this ⊢; omega)
      have honey := hide (fl_one x1y 22 9221120237041090561 (by decide))
      have HB2y : Hid (Below w6.drew.heap.size w6.drew (x1y.alloc (.cells #[.float .f64 9221120237041090561] 22))) := hide (HB1y.out.alloc HB1y.out.size _)
      refine wpAny_ready (rs := [7]) (by kernel_rfl) (by simp) ?_
      refine AllReady.cons rfl (fun K hK => ?_) AllReady.nil
      refine step_append_fs rfl _ _ rfl w6.drew.heap.size _ (0 + k) (f64s (X.take k)) rfl hown2y.out (some ⟨x1y.heap.size, 0, none⟩) 1 1 [9221120237041090561] rfl (hide rfl) honey.out hn1.out hsz2y.out fun v3y x3y ho3y hg3y => ?_
      refine hK _ _ ?_
      clear hK K
      have HB3y := hide (HB2y.out.grown hg3y hsz2y.out (fun j hj => (hown2y.out.lt j hj).1))
      have HO3y := hide ho3y
      have hsz3y : Hid (w6.drew.heap.size ≤ x3y.heap.size) := hide HB3y.out.size
      have hXry : Hid (Fl x3y B2 (X.drop k)) := hide (by
        have h := (HXwy.out.below HB3y.out).rest k c (by rw [HX.out]; exact hc1)
        rw [hB2.out] at h
        exact h)
      clear ho3y hg3y HB2y honey hsz2y hown2y HB1y HO1y
      refine wpAny_ready (rs := [11]) (by kernel_rfl) (by simp) ?_
      refine AllReady.cons rfl (fun K hK => ?_) AllReady.nil
      refine step_append_fs rfl _ _ rfl w6.drew.heap.size _ (0 + k + 1) _ rfl HO3y.out B2 (i - k) (c - k) (X.drop k) rfl hdl hXry.out hn2.out hsz3y.out fun v5y x5y ho5y hg5y => ?_
      refine hK _ _ ?_
      clear hK K
      have HB5y := hide (HB3y.out.grown hg5y hsz3y.out (fun j hj => (HO3y.out.lt j hj).1))
      have HO5y : Hid (x5y.ownsRow w6.drew.heap.size 22 1 v5y (i + 1) (f64s (X.take k ++ 9221120237041090561 :: X.drop k))) := hide (by
        rw [show 0 + k + 1 + (i - k) = i + 1 by omega] at ho5y
        simpa [f64s] using ho5y)
      clear ho5y hg5y HB3y HO3y hsz3y hXry HXwy
      refine wpAny_ready (rs := [12]) (by kernel_rfl) (by simp) ?_
      refine AllReady.cons rfl (fun K hK => ?_) AllReady.nil
      go_simp
      refine hK _ _ ?_
      clear hK K
      have hLY : ∀ x ∈ X.take k ++ 9221120237041090561 :: X.drop k, x < 18446744073709551616 := fun x hx => by
        rcases List.mem_append.1 hx with h | h
        · exact HLT.out x (List.mem_of_mem_take h)
        · rcases List.mem_cons.1 h with rfl | h
          · decide
          · exact HLT.out x (List.mem_of_mem_drop h)
      obtain ⟨BY, cy, rfl, hfy, hly⟩ := fl_own HO5y.out hLY
      have HFY := hide hfy
      have HLY := hide hly
      have HW6 : Hid (Below w2.heap.size w2 x5y) := hide (below_two HB5.out (below_two ((Below.refl _ w6).drew) HB5y.out))
      have HX6 : Hid (Fl x5y B X) := hide (HX5.out.below (below_two ((Below.refl _ w6).drew) HB5y.out))
      clear hfy hly HO5y HB5y
      refine wpAny_done (by kernel_rfl) ?_ _
      go_wp2_with fail
      have HXwz := hide (HX6.out.below (w := x5y) (wr := x5y.drew) ((Below.refl _ _).drew))
      have hown0z := hide (made_own x5y.drew Z hZs.out)
      have hsz0z : Hid (x5y.drew.heap.size ≤ (x5y.drew.alloc (.cells Z 22)).heap.size) := hide (by simp)
      have hb0z : Below x5y.drew.heap.size x5y.drew (x5y.drew.alloc (.cells Z 22)) := (Below.refl _ _).alloc (Nat.le_refl _) _
      have hXaz := hide ((HXwz.out.below hb0z).head k)
      have HB0z := hide hb0z
      clear hb0z
      refine wp_region_any (by kernel_rfl) ?_
      change wpAny _ _ _ _ _ _ _ (World.drew _)
      refine wpAny_take (i := 1) (v := .slice B i c) rfl (by kernel_rfl) (by kernel_rfl) (by kernel_rfl) (fun _ _ _ h => h) (Or.inl ⟨by rfl, by intro w; go_simp⟩) ?_
      refine wpAny_take (i := 2) (v := .int .i64 (k : Int)) rfl (by kernel_rfl) (by kernel_rfl) (by kernel_rfl) (fun _ _ _ h => h) (Or.inl ⟨by rfl, by intro w; go_simp⟩) ?_
      refine wpAny_take (i := 3) (v := .slice B k c) rfl (by kernel_rfl) (by kernel_rfl) (by kernel_rfl) (fun _ _ _ h => h) (Or.inl ⟨by rfl, by intro w; go_simp⟩) ?_
      refine wpAny_take (i := 8) (v := .slice B i c) rfl (by kernel_rfl) (by kernel_rfl) (by kernel_rfl) (fun _ _ _ h => h) (Or.inl ⟨by rfl, by intro w; go_simp⟩) ?_
      refine wpAny_take (i := 9) (v := .int .i64 (k : Int)) rfl (by kernel_rfl) (by kernel_rfl) (by kernel_rfl) (fun _ _ _ h => h) (Or.inl ⟨by rfl, by intro w; go_simp⟩) ?_
      refine wpAny_take (i := 10) (v := .slice B2 (i - k) (c - k)) rfl (by kernel_rfl) (by kernel_rfl) (by kernel_rfl) (fun _ _ _ h => h) (Or.inl ⟨by rfl, by intro w; go_simp⟩) ?_
      refine wpAny_ready (rs := [0]) (by kernel_rfl) (by simp) ?_
      refine AllReady.cons rfl (fun K hK => ?_) AllReady.nil
      go_simp
      refine hK _ _ ?_
      clear hK K
      refine wpAny_ready (rs := [4]) (by kernel_rfl) (by simp) ?_
      refine AllReady.cons rfl (fun K hK => ?_) AllReady.nil
      refine step_append_fs rfl _ _ rfl x5y.drew.heap.size _ 0 (f64s []) rfl hown0z.out B k c (X.take k) rfl htl hXaz.out hn0.out hsz0z.out fun v1z x1z ho1z hg1z => ?_
      refine hK _ _ ?_
      clear hK K
      have HB1z := hide (HB0z.out.grown hg1z hsz0z.out (fun j hj => (hown0z.out.lt j hj).1))
      have HO1z : Hid (x1z.ownsRow x5y.drew.heap.size 22 1 v1z (0 + k) (f64s (X.take k))) := hide (by simpa [f64s] using ho1z)
      clear ho1z hg1z hXaz HB0z hown0z hsz0z
      refine wpAny_ready (rs := [5]) (by kernel_rfl) (by simp) ?_
      refine AllReady.cons rfl (fun K hK => ?_) AllReady.nil
      go_simp
      refine (mathinf_p x1z).mono ?_
      rintro e x1z ⟨rfl, rfl⟩
      refine hK _ _ ?_
      clear hK K
      refine wpAny_ready (rs := [6]) (by kernel_rfl) (by simp) ?_
      refine AllReady.cons rfl (fun K hK => ?_) AllReady.nil
      go_simp
      refine hK _ _ ?_
      clear hK K
      have hown2z := hide (HO1z.out.alloc (.cells #[.float .f64 9218868437227405312] 22))
      have hsz2z : Hid (x5y.drew.heap.size ≤ (x1z.alloc (.cells #[.float .f64 9218868437227405312] 22)).heap.size) := hide (by have := HB1z.out.size; simp at this ⊢; omega)
      have honez := hide (fl_one x1z 22 9218868437227405312 (by decide))
      have HB2z : Hid (Below x5y.drew.heap.size x5y.drew (x1z.alloc (.cells #[.float .f64 9218868437227405312] 22))) := hide (HB1z.out.alloc HB1z.out.size _)
      refine wpAny_ready (rs := [7]) (by kernel_rfl) (by simp) ?_
      refine AllReady.cons rfl (fun K hK => ?_) AllReady.nil
      refine step_append_fs rfl _ _ rfl x5y.drew.heap.size _ (0 + k) (f64s (X.take k)) rfl hown2z.out (some ⟨x1z.heap.size, 0, none⟩) 1 1 [9218868437227405312] rfl (hide rfl) honez.out hn1.out hsz2z.out fun v3z x3z ho3z hg3z => ?_
      refine hK _ _ ?_
      clear hK K
      have HB3z := hide (HB2z.out.grown hg3z hsz2z.out (fun j hj => (hown2z.out.lt j hj).1))
      have HO3z := hide ho3z
      have hsz3z : Hid (x5y.drew.heap.size ≤ x3z.heap.size) := hide HB3z.out.size
      have hXrz : Hid (Fl x3z B2 (X.drop k)) := hide (by
        have h := (HXwz.out.below HB3z.out).rest k c (by rw [HX.out]; exact hc1)
        rw [hB2.out] at h
        exact h)
      clear ho3z hg3z HB2z honez hsz2z hown2z HB1z HO1z
      refine wpAny_ready (rs := [11]) (by kernel_rfl) (by simp) ?_
      refine AllReady.cons rfl (fun K hK => ?_) AllReady.nil
      refine step_append_fs rfl _ _ rfl x5y.drew.heap.size _ (0 + k + 1) _ rfl HO3z.out B2 (i - k) (c - k) (X.drop k) rfl hdl hXrz.out hn2.out hsz3z.out fun v5z x5z ho5z hg5z => ?_
      refine hK _ _ ?_
      clear hK K
      have HB5z := hide (HB3z.out.grown hg5z hsz3z.out (fun j hj => (HO3z.out.lt j hj).1))
      have HO5z : Hid (x5z.ownsRow x5y.drew.heap.size 22 1 v5z (i + 1) (f64s (X.take k ++ 9218868437227405312 :: X.drop k))) := hide (by
        rw [show 0 + k + 1 + (i - k) = i + 1 by omega] at ho5z
        simpa [f64s] using ho5z)
      clear ho5z hg5z HB3z HO3z hsz3z hXrz HXwz
      refine wpAny_ready (rs := [12]) (by kernel_rfl) (by simp) ?_
      refine AllReady.cons rfl (fun K hK => ?_) AllReady.nil
      go_simp
      refine hK _ _ ?_
      clear hK K
      have hLZ : ∀ x ∈ X.take k ++ 9218868437227405312 :: X.drop k, x < 18446744073709551616 := fun x hx => by
        rcases List.mem_append.1 hx with h | h
        · exact HLT.out x (List.mem_of_mem_take h)
        · rcases List.mem_cons.1 h with rfl | h
          · decide
          · exact HLT.out x (List.mem_of_mem_drop h)
      obtain ⟨BZ, cz, rfl, hfz, hlz⟩ := fl_own HO5z.out hLZ
      have HFZ := hide hfz
      have HLZ := hide hlz
      have h5z : Below x5y.heap.size x5y x5z := below_two ((Below.refl _ x5y).drew) HB5z.out
      have HW7 : Hid (Below w2.heap.size w2 x5z) := hide (below_two HW6.out h5z)
      have HFY7 : Hid (Fl x5z BY (X.take k ++ 9221120237041090561 :: X.drop k)) := hide (HFY.out.below h5z)
      clear hfz hlz HO5z HB5z h5z HFY
      refine wpAny_done (by kernel_rfl) ?_ _
      -- what the four calls give
      have hfin : ∀ x ∈ X, x < 18446744073709551616 ∧ x % 9223372036854775808 ≤ 9218868437227405312 := fun x hx => by
        rw [← hX.out] at hx
        obtain ⟨m, hm, rfl⟩ := List.mem_map.1 hx
        obtain ⟨a1, a2, -, -⟩ := whole_facts m (by have := HN.out m hm; omega)
        omega
      have hsy : ∀ r, Flt.sumTo 0 (X.take k ++ 9221120237041090561 :: X.drop k) r → Flt.same r 9221120237041090561 = true := fun r h => by
        have := sum_with_nan _ _ _ _ _ (by decide) h
        unfold Flt.same
        rw [this, show Flt.nanb 9221120237041090561 = true by decide]
        rfl
      have hszz : ∀ r, Flt.sumTo 0 (X.take k ++ 9218868437227405312 :: X.drop k) r → r = 9218868437227405312 := fun r h => by
        rw [← hX.out, ← List.map_take, ← List.map_drop] at h
        exact sum_with_inf (ns.take k) (ns.drop k) r (fun m hm => HN.out m (List.mem_of_mem_take hm)) (fun m hm => HN.out m (List.mem_of_mem_drop hm)) (by rw [List.length_take, HL.out]; omega) h
      have hsum1 := fun w h => sum_c (X.take k ++ 9221120237041090561 :: X.drop k) BY cy w h (by rw [HLY.out]; omega)
      have hsum2 := fun w h => sum_c (X.take k ++ 9218868437227405312 :: X.drop k) BZ cz w h (by rw [HLZ.out]; omega)
      obtain ⟨y0, ys, hY⟩ : ∃ y0 ys, X.take k ++ 9221120237041090561 :: X.drop k = y0 :: ys := by
        cases h : X.take k ++ 9221120237041090561 :: X.drop k with
        | nil => simp at h
        | cons a l => exact ⟨a, l, rfl⟩
      obtain ⟨z0, zs', hZ⟩ : ∃ z0 zs', X.take k ++ 9218868437227405312 :: X.drop k = z0 :: zs' := by
        cases h : X.take k ++ 9218868437227405312 :: X.drop k with
        | nil => simp at h
        | cons a l => exact ⟨a, l, rfl⟩
      have hmy : Flt.same (Flt.most y0 ys) 9221120237041090561 = true := most_nan y0 ys (by rw [← hY]; exact hLY) (by rw [← hY]; simp)
      have hmz : Flt.most z0 zs' = 9218868437227405312 := most_inf z0 zs' (by
        rw [← hZ]
        intro x hx
        rcases List.mem_append.1 hx with h | h
        · exact hfin x (List.mem_of_mem_take h)
        · rcases List.mem_cons.1 h with rfl | h
          · decide
          · exact hfin x (List.mem_of_mem_drop h)) (by rw [← hZ]; simp)
      have hl1 := HLY.out
      have hl2 := HLZ.out
      have hmost1 := fun w h => most_c y0 ys BY cy w h (by rw [← hY, hl1]; omega)
      have hmost2 := fun w h => most_c z0 zs' BZ cz w h (by rw [← hZ, hl2]; omega)
      rw [hY] at hsum1 hsy HFY7 hl1
      rw [hZ] at hsum2 hszz HFZ hl2
      rw [hl1] at hsum1 hmost1
      rw [hl2] at hsum2 hmost2
      rw [hmz] at hmost2
      have hsame := fun w => same_c (Flt.most y0 ys) 9221120237041090561 w
      rw [hmy] at hsame
      obtain ⟨M, hM⟩ : ∃ M, Hid (Flt.most y0 ys = M) := ⟨_, hide rfl⟩
      rw [hM.out] at hsame hmost1
      have HS1 := hide hsum1
      have HS2 := hide hsum2
      have HM1 := hide hmost1
      have HM2 := hide hmost2
      have HSY := hide hsy
      have HSZ := hide hszz
      have HSAME := hide hsame
      clear hfin hsum1 hsum2 hmost1 hmost2 hsy hszz hsame hmy hmz hY hZ hl1 hl2 hLY hLZ HLY HLZ HX HX5 HX6 HLT hX hB2 hM
      go_wp2_with fail
      refine (HS1.out _ HFY7.out).mono ?_
      rintro e x6 ⟨⟨r1, rfl, hr1⟩, q6, rfl⟩
      have hr1' := HSY.out r1 hr1
      have hsr := same_c r1 9221120237041090561 (x5z.drewN q6)
      rw [hr1'] at hsr
      have HSR := hide hsr
      clear hr1 hr1' hsr
      go_wp2_with fail
      refine (mathnan_c _).mono ?_
      rintro e x6 ⟨rfl, rfl⟩
      go_wp2_with fail
      refine HSR.out.mono ?_
      rintro e x6 ⟨rfl, rfl⟩
      obtain ⟨x7, hx7⟩ : ∃ x7, x5z.drewN q6 = x7 := ⟨_, rfl⟩
      rw [hx7]
      have h67 : Below x5z.heap.size x5z x7 := by rw [← hx7]; exact below_drewN (Below.refl _ x5z) q6
      have HFY8 := hide (HFY7.out.below h67)
      have HFZ8 := hide (HFZ.out.below h67)
      have HW8 := hide (below_two HW7.out h67)
      clear hx7 h67 HFY7 HFZ
      go_wp2_with fail
      refine (HS2.out _ HFZ8.out).mono ?_
      rintro e x8 ⟨⟨r2, rfl, hr2⟩, q8, rfl⟩
      obtain rfl := HSZ.out r2 hr2
      clear hr2
      go_wp2_with fail
      refine (isinf_c 9218868437227405312 1 (.inl rfl) (by decide) _).mono ?_
      rintro e x8 ⟨rfl, rfl⟩
      obtain ⟨x9, hx9⟩ : ∃ x9, x7.drewN q8 = x9 := ⟨_, rfl⟩
      rw [hx9]
      have h67 : Below x7.heap.size x7 x9 := by rw [← hx9]; exact below_drewN (Below.refl _ x7) q8
      have HFY9 := hide (HFY8.out.below h67)
      have HFZ9 := hide (HFZ8.out.below h67)
      have HW9 := hide (below_two HW8.out h67)
      clear hx9 h67 HFY8 HFZ8
      go_wp2_with fail
      refine (HM1.out _ HFY9.out).mono ?_
      rintro e x10 ⟨rfl, q10, rfl⟩
      go_wp2_with fail
      refine (mathnan_c _).mono ?_
      rintro e x10 ⟨rfl, rfl⟩
      go_wp2_with fail
      refine (HSAME.out _).mono ?_
      rintro e x10 ⟨rfl, rfl⟩
      obtain ⟨x11, hx11⟩ : ∃ x11, x9.drewN q10 = x11 := ⟨_, rfl⟩
      rw [hx11]
      have h67 : Below x9.heap.size x9 x11 := by rw [← hx11]; exact below_drewN (Below.refl _ x9) q10
      have HFZ11 := hide (HFZ9.out.below h67)
      have HW11 := hide (below_two HW9.out h67)
      clear hx11 h67 HFY9 HFZ9
      go_wp2_with fail
      refine (HM2.out _ HFZ11.out).mono ?_
      rintro e x12 ⟨rfl, q12, rfl⟩
      go_wp2_with fail
      refine (isinf_c 9218868437227405312 1 (.inl rfl) (by decide) _).mono ?_
      rintro e x12 ⟨rfl, rfl⟩
      have hfinal := below_drewN HW11.out q12
      go_wp2_with fail
      go_ret
      exact ⟨rfl, hfinal⟩
set_option maxRecDepth 100000 in
theorem sums_long (A : Option Addr) (n cap : Nat) (at_ : Int) (w : World) (hl : 40 < n) (hm : n ≤ 9223372036854775807) (hT : Tz w) :
    Calls Tryd.prog 10 #[.slice A n cap, .int .i64 at_] w fun e w' => e = .returned (.bool true) ∧ Below w.heap.size w w' := by
  have H0 := hide (first_c w hT)
  have hl' : (40 : Int) < n := by omega
  go_enter Tryd.func10, Tryd.ntmps10
  go_wp2_with fail
  refine H0.out.mono ?_
  rintro e' w2 ⟨rfl, rfl⟩
  go_wp2_with fail
  go_ret
  exact ⟨rfl, Below.refl _ _⟩
theorem sums_any (zs : List Int) (A : Option Addr) (cap : Nat) (at_ : Int) (w : World) (hr : Ri w A zs) (h1 : zs.length ≤ cap) (h2 : cap ≤ 9223372036854775807) (hT : Tz w) :
    Calls Tryd.prog 10 #[.slice A zs.length cap, .int .i64 at_] w fun e w' => e = .returned (.bool true) ∧ Below w.heap.size w w' := by
  by_cases h : zs.length ≤ 40
  · exact sums_c zs A cap at_ w hr h hT
  · exact sums_long A zs.length cap at_ w (by omega) (by omega) hT
end Go.Proofs.YteeiehaebiigfaaDoor
