/-
  The reference's scale that fits, walked. By an AI agent. No person has read it.
-/
import Derived.Test.YtboighnmgnjhdaaDoorQvB
namespace Go.Proofs.YtboighnmgnjhdaaDoor
open Go.RowKit
open Ieee

theorem fin_kind (x : Nat) : decide (3 ≤ Flt.kindNo x) = Qua.fin x := by
  unfold Qua.fin Flt.kindNo Flt.expo Flt.frac
  rw [decide_eq_decide]
  (repeat' split) <;> omega
set_option maxRecDepth 100000 in
set_option maxHeartbeats 4000000 in
theorem reffit_c (xs : List Nat) (A : Option Addr) (cap : Nat) (w : World) (hr : Fl w A xs) (hl : xs.length ≤ 1000) :
    Calls Tryd.prog 37 #[.slice A xs.length cap] w fun e w' => ((Qua.pos (Qua.fby xs) = true → e = .returned (.tuple #[.float .f64 (Qua.fby xs), .int .i64 (Qua.zer (Qua.lows xs) (Qua.fby xs)), .bool true])) ∧ (Qua.pos (Qua.fby xs) = false → e = .returned (.tuple #[.float .f64 0, .int .i64 0, .bool false]))) ∧ w' = w := by
  have hff := fit_facts xs hr.1
  have hlf : ∀ i, Qua.fin (Qua.lows (xs.take i)) = true ∧ Qua.lows (xs.take i) < 18446744073709551616 ∧ Qua.fin (Qua.highs (xs.take i)) = true ∧ Qua.highs (xs.take i) < 18446744073709551616 := fun i => by
    obtain ⟨i1, i2, -, -, i5, i6, -, -⟩ := lows_facts (xs.take i) (fun x hx => hr.1 x (List.take_subset i xs hx))
    exact ⟨i1, i2, i5, by omega⟩
  obtain ⟨n, hn⟩ : ∃ n, Hid (xs.length = n) := ⟨_, hide rfl⟩
  rw [hn.out] at hl ⊢
  have HFF := hide hff
  have HLF := hide hlf
  have HA := hide hr
  clear hff hlf hr
  go_enter Tryd.func37, Tryd.ntmps37
  go_wp2_with fail
  go_loopw [5, 6, 7] (fun s t k wr => ∃ (i L H : Nat), i ≤ n ∧ k = .int .i64 i ∧ s = .float .f64 L ∧ t = .float .f64 H ∧ Hid (Qua.lows (xs.take i) = L) ∧ Hid (Qua.highs (xs.take i) = H) ∧ wr = w) (fun _ _ k _ => n - (intOf k).toNat)
  case atStart => exact ⟨0, 0, 0, by omega, rfl, rfl, rfl, hide rfl, hide rfl, rfl⟩
  case round =>
    obtain ⟨i, L, H, hi, rfl, rfl, rfl, HL, HH, rfl⟩ := hrel
    by_cases hlt : i < n
    · obtain ⟨ad, x, rfl, ex, lx, cx⟩ := fl_at HA.out i (by rw [hn.out]; exact hlt)
      have him : (i : Int) < n := by omega
      have htk : xs.take (i + 1) = xs.take i ++ [x] := by rw [List.take_add_one, ex.out]; rfl
      have hl1 := lows_snoc (xs.take i) x
      have hh1 := highs_snoc (xs.take i) x
      rw [← htk, HL.out] at hl1
      rw [← htk, HH.out] at hh1
      obtain ⟨g1, g2, g3, g4⟩ := HLF.out i
      rw [HL.out] at g1 g2
      rw [HH.out] at g3 g4
      have HF := hide (finite_c x lx)
      rw [fin_kind] at HF
      cases hf : Qua.fin x
      · rw [hf] at HF hl1 hh1
        rw [if_neg (by simp)] at hl1 hh1
        have HL1 := hide hl1
        have HH1 := hide hh1
        clear hl1 hh1 htk g1 g2 g3 g4 hf
        go_wp2_with fail
        refine (HF.out _).mono ?_
        rintro e' w3 ⟨rfl, rfl⟩
        go_wp2_with fail
        go_roundw
        case rel => exact ⟨i + 1, L, H, by omega, by go_num, rfl, rfl, HL1, HH1, by first | rfl | trivial⟩
        case measure => simp [intOf]; omega
      · have o1 := order_sk x L lx g2 hf g1
        have o2 := order_sk x H lx g4 hf g3
        rw [hf] at HF hl1 hh1
        have hc1 : ∃ L', Hid (Qua.lows (xs.take (i + 1)) = L') ∧ ((L' = x ∧ FloatKind.f64.format.order x L = some .lt) ∨ (L' = L ∧ (FloatKind.f64.format.order x L = some .eq ∨ FloatKind.f64.format.order x L = some .gt))) := by
          rcases Int.lt_trichotomy (Qua.sk x) (Qua.sk L) with h | h | h
          · exact ⟨x, hide (by rw [hl1, if_pos ⟨rfl, h⟩]), .inl ⟨rfl, by rw [o1, Int.compare_eq_lt.2 h]⟩⟩
          · exact ⟨L, hide (by rw [hl1, if_neg (fun hh => by omega)]), .inr ⟨rfl, .inl (by rw [o1, Int.compare_eq_eq.2 h])⟩⟩
          · exact ⟨L, hide (by rw [hl1, if_neg (fun hh => by omega)]), .inr ⟨rfl, .inr (by rw [o1, Int.compare_eq_gt.2 h])⟩⟩
        have hc2 : ∃ H', Hid (Qua.highs (xs.take (i + 1)) = H') ∧ ((H' = x ∧ FloatKind.f64.format.order x H = some .gt) ∨ (H' = H ∧ (FloatKind.f64.format.order x H = some .eq ∨ FloatKind.f64.format.order x H = some .lt))) := by
          rcases Int.lt_trichotomy (Qua.sk x) (Qua.sk H) with h | h | h
          · exact ⟨H, hide (by rw [hh1, if_neg (fun hh => by omega)]), .inr ⟨rfl, .inr (by rw [o2, Int.compare_eq_lt.2 h])⟩⟩
          · exact ⟨H, hide (by rw [hh1, if_neg (fun hh => by omega)]), .inr ⟨rfl, .inl (by rw [o2, Int.compare_eq_eq.2 h])⟩⟩
          · exact ⟨x, hide (by rw [hh1, if_pos ⟨rfl, h⟩]), .inl ⟨rfl, by rw [o2, Int.compare_eq_gt.2 h]⟩⟩
        obtain ⟨L', HL1, hc1⟩ := hc1
        obtain ⟨H', HH1, hc2⟩ := hc2
        clear hl1 hh1 htk g1 g2 g3 g4 hf o1 o2
        rcases hc1 with ⟨rfl, o1⟩ | ⟨rfl, o1 | o1⟩ <;> rcases hc2 with ⟨rfl, o2⟩ | ⟨rfl, o2 | o2⟩
        all_goals
          go_wp2_with fail
          refine (HF.out _).mono ?_
          rintro e' w3 ⟨rfl, rfl⟩
          go_wp2_with fail
          go_roundw
          case rel => exact ⟨i + 1, _, _, by omega, by go_num, rfl, rfl, HL1, HH1, by first | rfl | trivial⟩
          case measure => simp [intOf]; omega
    · obtain rfl : i = n := by omega
      have hfull : xs.take i = xs := by rw [← hn.out, List.take_length]
      have hL := HL.out
      have hH := HH.out
      rw [hfull] at hL hH
      obtain ⟨d, -, hd, hdv, hbl, -, hnl, -, -⟩ := HFF.out _ rfl
      rw [hL] at hd hnl
      rw [hH] at hd
      have hsb : ∀ W : World, (binOp .sub 27 (.float .f64 H) (.float .f64 L)).run Tryd.prog W = .ok (.float .f64 d) W := fun W => run_float_arith (P := Tryd.prog) W .sub 27 .f64 _ _ _ hd
      have hqo : ∀ W : World, (binOp .quo 27 (.float .f64 d) (.float .f64 4643176031446892544)).run Tryd.prog W = .ok (.float .f64 (Qua.fby xs)) W := fun W => run_float_arith (P := Tryd.prog) W .quo 27 .f64 _ _ _ hdv
      obtain ⟨z, hzq⟩ : ∃ z, Hid (Qua.zer (Qua.lows xs) (Qua.fby xs) = z) := ⟨_, hide rfl⟩
      obtain ⟨b, hbq⟩ : ∃ z, Hid (Qua.fby xs = z) := ⟨_, hide rfl⟩
      have hzz := hzq.out
      rw [hL] at hzz
      rw [hbq.out] at hqo hbl hzz hzq
      have HF := hide (finite_c b hbl)
      have hcs := pos_cases b hbl
      obtain ⟨f, hff⟩ : ∃ f, Hid (decide (3 ≤ Flt.kindNo b) = f) := ⟨_, hide rfl⟩
      rw [hff.out] at HF hcs
      clear hd hdv hL hH HL HH HFF HLF HA hfull hff
      rcases hcs with ⟨hp, rfl, o1, -⟩ | ⟨hp, rfl, o1⟩ | ⟨hp, o1 | o1⟩ | ⟨hp, rfl, o1, o2⟩
      case inl =>
        obtain ⟨t, u, ht, hu, hul, hzu⟩ := zer_facts L b hnl hp
        rw [hzz] at hzu
        have hqt : ∀ W : World, (binOp .quo 27 (.float .f64 L) (.float .f64 b)).run Tryd.prog W = .ok (.float .f64 t) W := fun W => run_float_arith (P := Tryd.prog) W .quo 27 .f64 _ _ _ ht
        have hst : ∀ W : World, (binOp .sub 27 (.float .f64 13862079653046386688) (.float .f64 t)).run Tryd.prog W = .ok (.float .f64 u) W := fun W => run_float_arith (P := Tryd.prog) W .sub 27 .f64 _ _ _ hu
        have HW := hide (refwhole_c u hul (-128) 127 (by decide) (by decide) (by decide))
        rw [← Flt.clamp_cut, ← round_rround u hul, ← hzu] at HW
        clear hzu hzz ht hu hul hnl hbl
        go_wp2_with fail
        refine (HF.out _).mono ?_
        rintro e' w5 ⟨rfl, rfl⟩
        go_wp2_with fail
        refine (HW.out _).mono ?_
        rintro e' w5 ⟨rfl, rfl⟩
        go_wp2_with fail
        refine bodyPost_ret (results_three rfl _ _) rfl ?_
        rw [hbq.out, hzq.out, hp]
        exact ⟨⟨fun _ => rfl, fun h => by cases h⟩, rfl⟩
      all_goals
        try cases f
        all_goals
          go_wp2_with fail
          refine (HF.out _).mono ?_
          rintro e' w5 ⟨rfl, rfl⟩
          go_wp2_with fail
          refine bodyPost_ret (results_three rfl _ _) rfl ?_
          rw [hbq.out, hp]
          exact ⟨⟨fun h => (by cases h), fun _ => rfl⟩, rfl⟩
end Go.Proofs.YtboighnmgnjhdaaDoor
