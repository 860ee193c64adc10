/-
  The scale that fits, walked. By an AI agent. No person has read it.
-/
import Derived.Test.YtboighnmgnjhdaaDoorQvB
import Derived.Test.YtboighnmgnjhdaaDoorQvF
namespace Go.Proofs.YtboighnmgnjhdaaDoor
open Go.RowKit
open Ieee

theorem abs_order (x : Nat) : (Qua.fin x = true ∧ (FloatKind.f64.format.order (x % 9223372036854775808) 9218868437227405311 = some .lt ∨ FloatKind.f64.format.order (x % 9223372036854775808) 9218868437227405311 = some .eq)) ∨
    (Qua.fin x = false ∧ (FloatKind.f64.format.order (x % 9223372036854775808) 9218868437227405311 = none ∨ FloatKind.f64.format.order (x % 9223372036854775808) 9218868437227405311 = some .gt)) := by
  cases hf : Qua.fin x
  · refine .inr ⟨rfl, ?_⟩
    unfold Qua.fin at hf
    rw [decide_eq_false_iff_not] at hf
    by_cases hn : x % 9223372036854775808 = 9218868437227405312
    · rw [hn]
      exact .inr (by decide +kernel)
    · refine .inl (order_none _ _ ?_)
      unfold Flt.nanb
      rw [decide_eq_true_eq]
      omega
  · refine .inl ⟨rfl, ?_⟩
    unfold Qua.fin at hf
    rw [decide_eq_true_eq] at hf
    have h := order_sk (x % 9223372036854775808) 9218868437227405311 (by omega) (by decide) (by unfold Qua.fin; rw [decide_eq_true_eq]; omega) (by decide)
    have e : Qua.sk (x % 9223372036854775808) = (x % 9223372036854775808 : Nat) := by unfold Qua.sk; rw [if_neg (by omega)]
    rw [e, show Qua.sk 9218868437227405311 = 9218868437227405311 by decide] at h
    rcases Nat.lt_or_ge (x % 9223372036854775808) 9218868437227405311 with hl | hl
    · exact .inl (h.trans (congrArg some (Int.compare_eq_lt.2 (by omega))))
    · exact .inr (h.trans (congrArg some (Int.compare_eq_eq.2 (by omega))))
set_option maxRecDepth 100000 in
set_option maxHeartbeats 4000000 in
theorem fit_c (xs : List Nat) (A : Option Addr) (cap : Nat) (ar : Addr) (w : World) (hr : Fl w A xs) (hl : xs.length ≤ 1000) (hE : ErrIs w 1 ar) :
    Calls Tryd.prog 36 #[.slice A xs.length cap] w fun e w' => ((Qua.pos (Qua.fby xs) = true → e = .returned (.tuple #[.agg #[.float .f64 (Qua.fby xs), .int .i64 (Qua.zer (Qua.lows xs) (Qua.fby xs))], .nilIface])) ∧ (Qua.pos (Qua.fby xs) = false → e = .returned (.tuple #[.agg #[.float .f64 0, .int .i64 0], errv ar]))) ∧ Below w.heap.size w w' := by
  have hff := fit_facts xs hr.1
  have hmost := (lows_facts xs hr.1).2.2.2.2.2.2.2
  have hE1 : ErrIs (w.alloc (.cells #[.float .f64 0, .int .i64 0] 33)) 1 ar := hE.below ((Below.refl w.heap.size w).alloc (Nat.le_refl _) _)
  have hz1 := Has.new w 33 [.float .f64 0, .int .i64 0]
  have hB1 := (Below.refl w.heap.size w).alloc (Nat.le_refl _) (.cells #[.float .f64 0, .int .i64 0] 33)
  have hA1 := hr.below hB1
  have hs1 : (w.alloc (.cells #[.float .f64 0, .int .i64 0] 33)).heap.size = w.heap.size + 1 := by simp
  have ho1 := qown_one (w.alloc (.cells #[.float .f64 0, .int .i64 0] 33)) 0 (w.alloc (.cells #[.float .f64 0, .int .i64 0] 33)).heap.size (Nat.le_refl _)
  have hfin : ∀ i, (∀ x ∈ (0 :: (xs.take i).filter Qua.fin), x < 18446744073709551616) := fun i x hx => by
    rcases List.mem_cons.1 hx with rfl | hx
    · decide
    · exact hr.1 x (List.take_subset i xs (List.mem_filter.1 hx).1)
  obtain ⟨n, hn⟩ : ∃ n, Hid (xs.length = n) := ⟨_, hide rfl⟩
  have hlen : ∀ i, ((xs.take i).filter Qua.fin).length ≤ n := fun i => by
    have h1 := List.length_filter_le Qua.fin (xs.take i)
    have h2 : (xs.take i).length ≤ xs.length := by simp; omega
    rw [← hn.out]
    omega
  rw [hn.out] at hl ⊢
  have HFF := hide hff
  have HM := hide hmost
  have HFI := hide hfin
  have HLE := hide hlen
  have HE := hide hE1
  have HZ := hide hz1
  have HB := hide hB1
  have HA := hide hA1
  have HS := hide hs1
  have HO := hide ho1
  obtain ⟨i0, hi0, hz0, hzz1, hz2⟩ := qf64info
  have HI0 := hide hi0
  have HZ0 := hide hz0
  have HZ1 := hide hzz1
  have HZ2 := hide hz2
  have HU := hide qund_row
  clear hff hmost hE1 hz1 hB1 hA1 hs1 ho1 hr hE hfin hlen hi0 hz0 hzz1 hz2
  go_enter Tryd.func36, Tryd.ntmps36
  go_wp2_with fail
  generalize w.alloc (.cells #[.float .f64 0, .int .i64 0] 33) = W1 at *
  rw [← HS.out]
  go_loopw [4, 12] (fun s k wr => ∃ (i m : Nat) (u : Value), u = s ∧ i ≤ n ∧ k = .int .i64 i ∧ Hid (((xs.take i).filter Qua.fin).length = m) ∧ Hid (wr.ownsRow W1.heap.size 27 1 u (m + 1) (qf64s (0 :: (xs.take i).filter Qua.fin))) ∧ Hid (Below W1.heap.size W1 wr)) (fun _ k _ => n - (intOf k).toNat)
  case atStart => exact ⟨0, 0, _, rfl, by omega, rfl, hide rfl, HO, hide ((Below.refl _ W1).alloc (Nat.le_refl _) _)⟩
  case round =>
    obtain ⟨i, m, u, rfl, hi, rfl, HL, HW, HBw⟩ := hrel
    by_cases hlt : i < n
    · obtain ⟨ad, x, rfl, ex, lx, cx⟩ := fl_at (HA.out.below HBw.out) i (by rw [hn.out]; exact hlt)
      have him : (i : Int) < n := by omega
      have HAb := hide (abs_c x lx)
      have hlm := HLE.out i
      rw [HL.out] at hlm
      have htk : xs.take (i + 1) = xs.take i ++ [x] := by rw [List.take_add_one, ex.out]; rfl
      have hab := abs_order x
      obtain ⟨y, hy⟩ : ∃ y, Hid (x % 9223372036854775808 = y) := ⟨_, hide rfl⟩
      rw [hy.out] at hab HAb
      clear hy
      rcases hab with ⟨hf, o⟩ | ⟨hf, o⟩
      · have hft : (xs.take (i + 1)).filter Qua.fin = (xs.take i).filter Qua.fin ++ [x] := by
          rw [htk, List.filter_append, List.filter_cons_of_pos hf, List.filter_nil]
        have HFT := hide hft
        have hown2 := hide (HW.out.alloc (.cells #[.float .f64 x] 27))
        have hsz : Hid (W1.heap.size ≤ (wr.alloc (.cells #[.float .f64 x] 27)).heap.size) := hide (by have := HBw.out.size; simp; omega)
        have hb1 : Hid (m + 1 + 1 ≤ maxLen) := hide (by unfold maxLen; omega)
        have hb2 : Hid ((m + 1 + 1) * 8 ≤ 140737488355328) := hide (by omega)
        have hnw := hide (qnew_cells wr 27 [.float .f64 x])
        have h1w : Hid (∀ u ∈ [Value.float .f64 x], u.oneCell' = true) := hide (by
          intro u hu
          simp at hu
          subst hu
          rfl)
        clear hft htk hf hlm
        rcases o with o | o
        all_goals
          go_wp2_with fail
          refine (HAb.out _).mono ?_
          rintro e' w3 ⟨rfl, rfl⟩
          go_wp2_with (at_builtin; refine wpList_append_own _ rfl (.tmp 19) (.tmp 21) 22 rfl W1.heap.size 27 i0 (.float .f64 0) 1 8 HU.out HI0.out HZ0.out HZ1.out HZ2.out rfl (by decide) u (m + 1) _ rfl hown2.out ⟨w3.heap.size, 0, none⟩ 1 1 [.float .f64 x] rfl rfl hnw.out h1w.out hb1.out hb2.out hsz.out ?_)
          intro v' w' hown' hgrow _
          have HB' := hide (qbelow_row HBw.out HW.out hgrow)
          have HO' := hide hown'
          clear hown' hgrow
          go_wp2_with fail
          go_roundw
          case rel =>
            refine ⟨i + 1, m + 1, _, rfl, by omega, by go_num, ?_, ?_, HB'⟩
            · exact hide (by rw [HFT.out, List.length_append, HL.out]; rfl)
            · refine hide ?_
              rw [HFT.out]
              simpa [qf64s] using HO'.out
          case measure => simp [intOf]; omega
      · have hft : (xs.take (i + 1)).filter Qua.fin = (xs.take i).filter Qua.fin := by
          rw [htk, List.filter_append, List.filter_cons_of_neg (by simp [hf]), List.filter_nil, List.append_nil]
        have HFT := hide hft
        clear hft htk hf hlm
        rcases o with o | o
        all_goals
          go_wp2_with fail
          refine (HAb.out _).mono ?_
          rintro e' w3 ⟨rfl, rfl⟩
          go_wp2_with fail
          go_roundw
          case rel =>
            refine ⟨i + 1, m, _, rfl, by omega, by go_num, ?_, ?_, HBw⟩
            · exact hide (by rw [HFT.out]; exact HL.out)
            · exact hide (by rw [HFT.out]; exact HW.out)
          case measure => simp [intOf]; omega
    · obtain rfl : i = n := by omega
      have hfull : xs.take i = xs := by rw [← hn.out, List.take_length]
      have hlx := HFI.out i
      have hL := HL.out
      have hWo := HW.out
      rw [hfull] at hlx hL hWo
      obtain ⟨lo, hlo⟩ : ∃ lo, Flt.least 0 (xs.filter Qua.fin) = lo := ⟨_, rfl⟩
      obtain ⟨d, hd, -, hdv, hbl, hnl, -, hll, hzr⟩ := HFF.out lo hlo
      obtain ⟨B, c, rfl, hfl, hxl⟩ := qfl_own hWo hlx
      have h1 := least_c 0 (xs.filter Qua.fin) B c wr hfl (by rw [hxl]; have := HLE.out i; rw [HL.out] at this; omega)
      rw [hlo, hxl] at h1
      have H1 := hide h1
      have H2 : Hid (∀ q, Calls Tryd.prog 21 #[.slice B (m + 1) c] (wr.drewN q) fun e w' => e = .returned (.float .f64 (Qua.highs xs)) ∧ ∃ q', w' = (wr.drewN q).drewN q') := hide (fun q => by
        have h2 := most_c 0 (xs.filter Qua.fin) B c (wr.drewN q) (hfl.below (below_dn (Below.refl _ _) q)) (by rw [hxl]; have := HLE.out i; rw [HL.out] at this; omega)
        rw [HM.out, hxl] at h2
        exact h2)
      have hsb : ∀ W : World, (binOp .sub 27 (.float .f64 (Qua.highs xs)) (.float .f64 lo)).run Tryd.prog W = .ok (.float .f64 d) W := fun W => run_float_arith (P := Tryd.prog) W .sub 27 .f64 _ _ _ hd
      have hqo : ∀ W : World, (binOp .quo 27 (.float .f64 d) (.float .f64 4643176031446892544)).run Tryd.prog W = .ok (.float .f64 (Qua.fby xs)) W := fun W => run_float_arith (P := Tryd.prog) W .quo 27 .f64 _ _ _ hdv
      obtain ⟨z, hzq⟩ : ∃ z, Hid (Qua.zer (Qua.lows xs) (Qua.fby xs) = z) := ⟨_, hide rfl⟩
      rw [hzq.out] at hzr
      obtain ⟨hi', hhi⟩ : ∃ z, Hid (Qua.highs xs = z) := ⟨_, hide rfl⟩
      obtain ⟨b, hbq⟩ : ∃ z, Hid (Qua.fby xs = z) := ⟨_, hide rfl⟩
      rw [hhi.out] at hsb H2
      rw [hbq.out] at hqo hzr hbl hzq
      have HZr := hide hzr
      have HBW := HBw
      clear h1 hd hdv hzr hhi hlo hfl hxl hlx hL hWo HW HL HFF HM HFI HLE HA HO HI0 HZ0 HZ1 HZ2 HU hfull HBw
      go_wp2_with fail
      refine H1.out.mono ?_
      rintro e' w3 ⟨rfl, q, rfl⟩
      go_wp2_with fail
      refine (H2.out q).mono ?_
      rintro e' w4 ⟨rfl, q', hw4⟩
      have hB4 : Below W1.heap.size W1 w4 := by rw [hw4]; exact below_dn (below_dn HBW.out q) q'
      have HE4 := hide (HE.out.below hB4)
      have HZ4 := hide (HZ.out.below hB4 HZ.out.lt)
      have HB4 := hide (HB.out.trans (hB4.mono HB.out.size))
      clear hw4 hB4 H1 H2 HBW HE HZ HB
      have hlt4 := HZ4.out.lt
      cases hp : Qua.pos b
      · obtain ⟨t, q1, ht, hr1⟩ := run_quo_any lo b w4
        obtain ⟨u, q2, hu, hr2⟩ := run_sub_any 13862079653046386688 t (w4.drewN q1)
        have HW := hide (wholeof_c u hu (-128) 127)
        obtain ⟨v, hv⟩ : ∃ v, Hid (Flt.clamp (Flt.wv (Flt.round u)) (-128) 127 = v) := ⟨_, hide rfl⟩
        rw [hv.out] at HW
        have HN := hide (fun W h => new_bad b hbl v (by unfold Qua.good; rw [hp]; rfl) ar W h)
        have hsf := store_f 0
        clear hv
        go_wp2_with fail
        refine (HW.out _).mono ?_
        rintro e' w5 ⟨rfl, rfl⟩
        go_wp2_with fail
        refine (HN.out (w4.drewN (q1 + q2)) (HE4.out.below (below_dn (Below.refl _ _) _))).mono ?_
        rintro e' w6 ⟨rfl, hb⟩
        have hb' : Below w4.heap.size w4 w6 := (below_dn (Below.refl _ w4) (q1 + q2)).trans hb
        have hz := HZ4.out.below hb' hlt4
        have d0 : w6.cell? ⟨w.heap.size, 0, none⟩ = some (.float .f64 0) := hz.cell 0
        have d1 : w6.cell? ⟨w.heap.size, 1, none⟩ = some (.int .i64 0) := hz.cell 1
        have f0 := hz.frozen 0
        have f1 := hz.frozen 1
        have HZ' := hide ((hz.set_ 0 (.float .f64 0)).set_ 1 (.int .i64 0))
        have HB' := hide (((HB4.out.trans (hb'.mono HB4.out.size)).setCell (p := ⟨w.heap.size, 0, none⟩) (Nat.le_refl _) (.float .f64 0)).setCell (p := ⟨w.heap.size, 1, none⟩) (Nat.le_refl _) (.int .i64 0))
        clear hz hb hb' HN HW
        go_wp2_with fail
        refine bodyPost_ret (results_scale rfl _ _ w.heap.size _ _ rfl HZ'.out) rfl ?_
        rw [hbq.out, hp]
        exact ⟨⟨fun h => (by cases h), fun _ => rfl⟩, HB'.out⟩
      · obtain ⟨t, u, ht, hu, hul, hzu⟩ := zer_facts lo b hnl hp
        rw [HZr.out hp] at hzu
        have hqt : ∀ W : World, (binOp .quo 27 (.float .f64 lo) (.float .f64 b)).run Tryd.prog W = .ok (.float .f64 t) W := fun W => run_float_arith (P := Tryd.prog) W .quo 27 .f64 _ _ _ ht
        have hst : ∀ W : World, (binOp .sub 27 (.float .f64 13862079653046386688) (.float .f64 t)).run Tryd.prog W = .ok (.float .f64 u) W := fun W => run_float_arith (P := Tryd.prog) W .sub 27 .f64 _ _ _ hu
        have HW := hide (wholeof_c u hul (-128) 127)
        have hzb := clamp_in (Flt.wv (Flt.round u)) (-128) 127 (by decide)
        rw [← hzu] at HW hzb
        have HN := hide (new_good b hbl z (by unfold Qua.good; rw [hp]; simp; omega) w4)
        have hsf := store_f b
        clear hzu HZr ht hu hul hzb
        go_wp2_with fail
        refine (HW.out _).mono ?_
        rintro e' w5 ⟨rfl, rfl⟩
        go_wp2_with fail
        refine HN.out.mono ?_
        rintro e' w6 ⟨rfl, hb⟩
        have hz := HZ4.out.below hb hlt4
        have d0 : w6.cell? ⟨w.heap.size, 0, none⟩ = some (.float .f64 0) := hz.cell 0
        have d1 : w6.cell? ⟨w.heap.size, 1, none⟩ = some (.int .i64 0) := hz.cell 1
        have f0 := hz.frozen 0
        have f1 := hz.frozen 1
        have HZ' := hide ((hz.set_ 0 (.float .f64 b)).set_ 1 (.int .i64 z))
        have HB' := hide (((HB4.out.trans (hb.mono HB4.out.size)).setCell (p := ⟨w.heap.size, 0, none⟩) (Nat.le_refl _) (.float .f64 b)).setCell (p := ⟨w.heap.size, 1, none⟩) (Nat.le_refl _) (.int .i64 z))
        clear hz hb HN HW
        go_wp2_with fail
        refine bodyPost_ret (results_scale rfl _ _ w.heap.size _ _ rfl HZ'.out) rfl ?_
        rw [hbq.out, hzq.out, hp]
        exact ⟨⟨fun _ => rfl, fun h => by cases h⟩, HB'.out⟩
end Go.Proofs.YtboighnmgnjhdaaDoor
