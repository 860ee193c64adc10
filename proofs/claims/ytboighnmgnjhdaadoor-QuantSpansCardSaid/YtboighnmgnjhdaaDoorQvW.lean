/-
  The law QuantSpans of package lodgelaw4. By an AI agent. No person has read it.
-/
import Derived.Test.YtboighnmgnjhdaaDoorQvV
import Derived.Test.YtboighnmgnjhdaaDoorQvC
import Derived.Test.YtboighnmgnjhdaaDoorQvT
import Derived.Test.YtboighnmgnjhdaaDoorQuaMi
import Derived.Test.YtboighnmgnjhdaaDoorErrD
import Derived.Deep.RegionHeld3
namespace Go.Proofs.YtboighnmgnjhdaaDoor
open Go.RowKit
open Ieee

theorem spn_kept {W W' : World} {p : Addr} {v : Value} (h : W.cell? p = some v) (hb : Below W.heap.size W W') : W'.cell? p = some v :=
  (hb.cell (World.block_lt_of_cell? W p h)).trans h
abbrev SpnS (g : Nat) (wr : World) (x1 x2 : Value) (W : World) : Prop :=
  W.cell? ⟨g, 0, none⟩ = some x1 ∧ W.cell? ⟨g, 1, none⟩ = some x2 ∧ Hid (Below wr.heap.size wr W)
theorem SpnS.keep {g : Nat} {wr : World} {x1 x2 : Value} {W W' : World} (h : SpnS g wr x1 x2 W) (hb : Below W.heap.size W W') : SpnS g wr x1 x2 W' := by
  obtain ⟨h1, h2, h⟩ := h
  exact ⟨spn_kept h1 hb, spn_kept h2 hb, hide (h.out.trans (hb.mono h.out.size))⟩
theorem SpnS.low {g : Nat} {wr : World} {x1 x2 : Value} {W : World} (h : SpnS g wr x1 x2 W) : Below wr.heap.size wr W := h.2.2.out
set_option maxRecDepth 100000 in
set_option maxHeartbeats 8000000 in
theorem spans_small (zs : List Int) (A : Option Addr) (cap : Nat) (es : List Addr) (w : World) (hr : Ri w A zs) (hl : zs.length ≤ 40) (hE : Ez w es) :
    Calls Tryd.prog 11 #[.slice A zs.length cap] w fun e w' => e = .returned (.bool true) ∧ Below w.heap.size w w' := by
  have HF := hide qfirst_c
  have hbd : Below w.heap.size w w.drew := (Below.refl _ _).drew
  obtain ⟨ar, har⟩ : ∃ ar, es[1]? = some ar := by
    have := hE.1
    exact ⟨es[1], List.getElem?_eq_getElem (by omega)⟩
  obtain ⟨n, hn⟩ : ∃ n, Hid (zs.length = n) := ⟨_, hide rfl⟩
  rw [hn.out] at hl ⊢
  have HA := hide (hr.below hbd)
  have HE := hide (hE.below hbd)
  have HI := hide (fun W h => is_c es 1 ar har 102 W h)
  have M1 := hide mathnan_c
  have M2 := hide mathinf_p
  obtain ⟨i0, hi0, hz0, hzz1, hz2⟩ := qf64info
  have HI0 := hide hi0
  have HZ0 := hide hz0
  have HZ1 := hide hzz1
  have HZ2 := hide hz2
  have HU := hide qund_row
  have hn40 : ¬ (40 : Int) < n := by omega
  have HB := hide hbd
  clear hr hE hi0 hz0 hzz1 hz2 hbd
  go_enter Tryd.func11, Tryd.ntmps11
  go_wp2_with fail
  refine (HF.out _).mono ?_
  rintro e w1 ⟨rfl, rfl⟩
  go_wp2_with fail
  obtain ⟨w0, hw0⟩ : ∃ w0, Hid (w.drew = w0) := ⟨_, hide rfl⟩
  rw [hw0.out] at HA HE HB ⊢
  go_loopw [4, 5, 6, 7] (fun s l h k wr => ∃ (i : Nat) (X : List Nat) (lo hi : Int) (u : Value), u = s ∧ i ≤ n ∧ k = .int .i64 i ∧ l = .float .f64 (Flt.mk lo 0) ∧ h = .float .f64 (Flt.mk hi 0) ∧ Hid (X.length = 3 * i) ∧ Hid (∀ x ∈ X, x < 18446744073709551616) ∧ Hid (Qua.lows X = Flt.mk lo 0) ∧ Hid (Qua.highs X = Flt.mk hi 0) ∧ Hid (-1000 ≤ lo ∧ lo ≤ 0 ∧ 0 ≤ hi ∧ hi ≤ 1000) ∧ Hid (wr.ownsRow w0.heap.size 27 1 u (3 * i) (qf64s X)) ∧ Hid (Below w0.heap.size w0 wr)) (fun _ _ _ k _ => n - (intOf k).toNat)
  case atStart => exact ⟨0, [], 0, 0, _, rfl, by omega, rfl, by rw [mk_zero], by rw [mk_zero], hide rfl, hide (fun x hx => by cases hx), hide (by rw [mk_zero]; rfl), hide (by rw [mk_zero]; rfl), hide ⟨by decide, by decide, by decide, by decide⟩, hide ⟨rfl, .inl ⟨rfl, rfl⟩⟩, hide (Below.refl _ _)⟩
  case round =>
    obtain ⟨i, X, lo, hi, u, rfl, hin, rfl, rfl, rfl, HL, HX, Hlo, Hhi, Hb, HW, HBw⟩ := hrel
    by_cases hlt : i < n
    · obtain ⟨ad, z, rfl, ez, cz⟩ := ri_at (HA.out.below HBw.out) i (by rw [hn.out]; exact hlt)
      have him : (i : Int) < n := by omega
      have H1 := hide (number_c z 2000 (by decide) (by decide) 2000 rfl)
      go_wp2_with fail
      refine (H1.out _).mono ?_
      rintro e' w3 ⟨⟨k, hk, rfl⟩, rfl⟩
      obtain ⟨m, hm⟩ : ∃ m : Int, Hid ((k : Int) - 1000 = m) := ⟨_, hide rfl⟩
      have hm1 : m.natAbs ≤ 1000 := by have := hm.out; omega
      have s1 : IntKind.i64.wrap ((k : Int) - 1000) = m := by rw [hm.out]; exact iwrap_small _ (by omega) (by omega)
      have hfm := float_of_any m
      have hbb := Hb.out
      have HMin := hide (mathmin_c lo m (by omega) (by omega))
      have HMax := hide (mathmax_c hi m (by omega) (by omega))
      obtain ⟨st1, st2⟩ := spans_step X lo hi m (by omega) (by omega) hm1 Hlo.out Hhi.out
      have hb2 : -1000 ≤ min lo m ∧ min lo m ≤ 0 ∧ 0 ≤ max hi m ∧ max hi m ≤ 1000 := by omega
      have hFl := (mk_fin m (by omega)).2
      obtain ⟨F, hF⟩ : ∃ F, Hid (Flt.mk m 0 = F) := ⟨_, hide rfl⟩
      rw [hF.out] at hfm st1 st2 HMin HMax hFl
      have HS1 := hide st1
      have HS2 := hide st2
      have HB2 := hide hb2
      have HFl := hide hFl
      clear hm st1 st2 hb2 hbb hFl hm1 ez
      have hown2 := hide (HW.out.alloc (.cells #[.float .f64 F, .float .f64 9221120237041090561, .float .f64 9218868437227405312] 27))
      have hsz : Hid (w0.heap.size ≤ (w3.alloc (.cells #[.float .f64 F, .float .f64 9221120237041090561, .float .f64 9218868437227405312] 27)).heap.size) := hide (by have := HBw.out.size; simp; omega)
      have hb1 : Hid (3 * i + 3 ≤ maxLen) := hide (by unfold maxLen; omega)
      have hb2 : Hid ((3 * i + 3) * 8 ≤ 140737488355328) := hide (by omega)
      have hnw := hide (qnew_cells w3 27 [.float .f64 F, .float .f64 9221120237041090561, .float .f64 9218868437227405312])
      have h1w : Hid (∀ u ∈ [Value.float .f64 F, .float .f64 9221120237041090561, .float .f64 9218868437227405312], u.oneCell' = true) := hide (by
        intro u hu
        simp at hu
        rcases hu with rfl | rfl | rfl <;> rfl)
      go_wp2_with fail
      refine (M1.out _).mono ?_
      rintro e' w4 ⟨rfl, rfl⟩
      go_wp2_with fail
      refine (M2.out _).mono ?_
      rintro e' w4 ⟨rfl, rfl⟩
      go_wp2_with (at_builtin; refine wpList_append_own _ rfl (.tmp 35) (.tmp 39) 22 rfl w0.heap.size 27 i0 (.float .f64 0) 1 8 HU.out HI0.out HZ0.out HZ1.out HZ2.out rfl (by decide) u (3 * i) _ rfl hown2.out ⟨w4.heap.size, 0, none⟩ 3 3 [.float .f64 F, .float .f64 9221120237041090561, .float .f64 9218868437227405312] rfl rfl hnw.out h1w.out hb1.out hb2.out hsz.out ?_)
      intro v' w' hown' hgrow _
      have HB' := hide (qbelow_row HBw.out HW.out hgrow)
      have HO' := hide hown'
      clear hown' hgrow
      go_wp2_with fail
      refine (HMin.out _).mono ?_
      rintro e' w5 ⟨rfl, rfl⟩
      go_wp2_with fail
      refine (HMax.out _).mono ?_
      rintro e' w5 ⟨rfl, rfl⟩
      go_wp2_with fail
      go_roundw
      case rel =>
        refine ⟨i + 1, X ++ [F, 9221120237041090561, 9218868437227405312], min lo m, max hi m, _, rfl, by omega, by go_num, rfl, rfl, ?_, ?_, HS1, HS2, HB2, ?_, HB'⟩
        · exact hide (by rw [List.length_append, HL.out]; simp; omega)
        · refine hide fun x hx => ?_
          rcases List.mem_append.1 hx with hx | hx
          · exact HX.out x hx
          · simp at hx
            rcases hx with rfl | rfl | rfl
            · exact HFl.out
            · decide
            · decide
        · refine hide ?_
          rw [show 3 * (i + 1) = 3 * i + 3 by omega]
          simpa [qf64s] using HO'.out
      case measure => simp [intOf]; omega
    · obtain rfl : i = n := by omega
      obtain ⟨B, c, rfl, hfl, hxl⟩ := qfl_own HW.out HX.out
      have hbb := Hb.out
      have HEw := hide (HE.out.below HBw.out)
      have h1 := fit_c X B c ar wr hfl (by omega) (HEw.out.2.2 1 _ ar rfl har)
      rw [hxl] at h1
      have H1 := hide h1
      have ho := order_mk lo hi 0 (by omega) (by omega) (by decide) (by decide)
      by_cases hq : lo = hi
      · have hp : Qua.pos (Qua.fby X) = false := fby_none X (by rw [Hlo.out, show lo = 0 by omega, mk_zero]) (by rw [Hhi.out, show hi = 0 by omega, mk_zero])
        rw [Int.compare_eq_eq.2 hq] at ho
        have hsf := store_f 0
        generalize Flt.mk lo 0 = fl at *
        generalize Flt.mk hi 0 = fh at *
        clear h1 hfl hxl Hb hbb HL HX Hlo Hhi HW hq HI0 HZ0 HZ1 HZ2 HU M1 M2
        go_wp2_with fail
        refine H1.out.mono ?_
        rintro e' w3 ⟨⟨-, hx⟩, hb⟩
        obtain rfl := hx hp
        have hbA := (Below.refl w3.heap.size w3).alloc (Nat.le_refl _) (.cells #[.float .f64 0, .int .i64 0] 33)
        have HB3 := hide (HB.out.trans (HBw.out.mono HB.out.size))
        have hB4 := HB3.out.trans (hb.mono HB3.out.size)
        have HB5 := hide (hB4.trans (hbA.mono hB4.size))
        have HIs := hide (HI.out _ ((HEw.out.below hb).below hbA))
        clear hb hbA hB4 hx hp H1
        go_wp2_with fail
        refine HIs.out.mono ?_
        rintro e' w6 ⟨rfl, hb⟩
        have HBF := hide (HB5.out.trans (hb.mono HB5.out.size))
        clear hb
        go_wp2_with fail
        go_ret
        exact ⟨rfl, HBF.out⟩
      · obtain ⟨hp, a1, a2, ⟨d, hd, hdv⟩, hbs, hzb⟩ := spans_all X HX.out lo hi hbb.1 hbb.2.1 hbb.2.2.1 hbb.2.2.2 hq Hlo.out Hhi.out
        rw [Int.compare_eq_lt.2 (by omega)] at ho
        obtain ⟨b, hbq⟩ : ∃ b, Qua.fby X = b := ⟨_, rfl⟩
        obtain ⟨z, hzq⟩ : ∃ z, Qua.zer (Qua.lows X) (Qua.fby X) = z := ⟨_, rfl⟩
        rw [hzq] at a1 a2 hzb
        rw [hbq] at hp a1 a2 hdv hbs hzq
        rw [hbq, hzq] at H1
        have HO0 := hide (of_c b 0 z hzb)
        rw [(of_ends b z hzb hp).1] at HO0
        have HK := hide (back_c b z z hzb hp)
        rw [back_zero b z hzb hp] at HK
        have HM := hide (same_c 0 0)
        rw [Flt.same_self] at HM
        have HO1 := hide (of_c b (Flt.mk lo 0) z hzb)
        have HO2 := hide (of_c b (Flt.mk hi 0) z hzb)
        have HAb := hide (abs_c 0 (by decide))
        rw [show 0 % 9223372036854775808 = 0 from rfl] at HAb
        obtain ⟨v1, hv1⟩ : ∃ v, Qua.of b z (Flt.mk lo 0) = v := ⟨_, rfl⟩
        obtain ⟨v2, hv2⟩ : ∃ v, Qua.of b z (Flt.mk hi 0) = v := ⟨_, rfl⟩
        rw [hv1] at HO1 a1
        rw [hv2] at HO2 a2
        have oe : FloatKind.f64.format.order 0 4472406533629990549 = some .lt := by decide +kernel
        have hs1 : ∀ W : World, (binOp .sub 27 (.float .f64 (Flt.mk hi 0)) (.float .f64 (Flt.mk lo 0))).run Tryd.prog W = .ok (.float .f64 d) W := fun W => run_float_arith (P := Tryd.prog) W .sub 27 .f64 _ _ _ hd
        have hs2 : ∀ W : World, (binOp .quo 27 (.float .f64 d) (.float .f64 4643176031446892544)).run Tryd.prog W = .ok (.float .f64 b) W := fun W => run_float_arith (P := Tryd.prog) W .quo 27 .f64 _ _ _ hdv
        have hs3 : ∀ W : World, (binOp .sub 27 (.float .f64 b) (.float .f64 b)).run Tryd.prog W = .ok (.float .f64 0) W := fun W => run_float_arith (P := Tryd.prog) W .sub 27 .f64 _ _ _ hbs
        have hsf := store_f b
        generalize Flt.mk lo 0 = fl at *
        generalize Flt.mk hi 0 = fh at *
        clear h1 hfl hxl Hb hbb HL HX Hlo Hhi HW hq HI0 HZ0 HZ1 HZ2 HU M1 M2 hbq hzq hzb hd hdv hbs hv1 hv2 HI
        go_wp2_with fail
        refine H1.out.mono ?_
        rintro e' w3 ⟨⟨hx, -⟩, hb⟩
        obtain rfl := hx hp
        have hbA := (Below.refl w3.heap.size w3).alloc (Nat.le_refl _) (.cells #[.float .f64 b, .int .i64 z] 33)
        have HB3 := hide (HB.out.trans (HBw.out.mono HB.out.size))
        have hB4 := HB3.out.trans (hb.mono HB3.out.size)
        have HB5 := hide (hB4.trans (hbA.mono hB4.size))
        have hT := Has.new w3 33 [.float .f64 b, .int .i64 z]
        have hS0 : SpnS w3.heap.size (w3.alloc (.cells #[.float .f64 b, .int .i64 z] 33)) (.float .f64 b) (.int .i64 z) (w3.alloc (.cells #[.float .f64 b, .int .i64 z] 33)).drew := ⟨hT.cell 0, hT.cell 1, hide (Below.refl _ _).drew⟩
        clear hb hbA hB4 hx hp H1 hT
        go_wp2_with fail
        obtain ⟨W4, hW4⟩ : ∃ W4, Hid (w3.alloc (.cells #[.float .f64 b, .int .i64 z] 33) = W4) := ⟨_, hide rfl⟩
        obtain ⟨G, hG⟩ : ∃ G, Hid (w3.heap.size = G) := ⟨_, hide rfl⟩
        rw [hG.out, hW4.out] at hS0
        rw [hW4.out] at HB5
        have hW4' := hW4.out
        have hG' := hG.out
        rw [hG', hW4']
        clear hW4 hW4' hG hG'
        go_region_held3 (fun W => W.cell? ⟨G, 0, none⟩ = some (.float .f64 b) ∧ W.cell? ⟨G, 1, none⟩ = some (.int .i64 z) ∧ Hid (Below W4.heap.size W4 W))
          (first | exact hS0 | assumption | exact SpnS.keep (by assumption) hb)
          (first
            | (go_at_call 27; with_reducible refine (HO0.out _).mono ?_; rintro e W6 ⟨rfl, hb⟩)
            | (go_at_call 29; with_reducible refine (HK.out _).mono ?_; rintro e W6 ⟨rfl, hb⟩)
            | (go_at_call 15; with_reducible refine (HM.out _).mono ?_; rintro e W6 ⟨rfl, rfl⟩))
        have hS1 := (by assumption : SpnS G W4 (.float .f64 b) (.int .i64 z) W6)
        have HB7 := hide (HB5.out.trans (hS1.low.mono HB5.out.size))
        have c0 : W6.cell? ⟨G, 0, none⟩ = some (.float .f64 b) := hS1.1
        have c1 : W6.cell? ⟨G, 1, none⟩ = some (.int .i64 z) := hS1.2.1
        clear hb hS1 hS0 HO0 HK HM HB5
        go_wp2_with fail
        refine (HO1.out _).mono ?_
        rintro e' w7 ⟨rfl, hb⟩
        have k0 := spn_kept c0 hb
        have k1 := spn_kept c1 hb
        have HB8 := hide (HB7.out.trans (hb.mono HB7.out.size))
        clear hb c0 c1 HB7 HO1
        go_wp2_with fail
        refine (HO2.out _).mono ?_
        rintro e' w8 ⟨rfl, hb⟩
        have c0 := spn_kept k0 hb
        have c1 := spn_kept k1 hb
        have HB9 := hide (HB8.out.trans (hb.mono HB8.out.size))
        clear hb k0 k1 HB8 HO2
        go_wp2_with fail
        refine (HAb.out _).mono ?_
        rintro e' w9 ⟨rfl, rfl⟩
        go_wp2_with fail
        go_ret
        exact ⟨rfl, HB9.out⟩
set_option maxRecDepth 100000 in
set_option maxHeartbeats 4000000 in
theorem spans_great (n : Nat) (A : Option Addr) (cap : Nat) (w : World) (hl : 40 < n) :
    Calls Tryd.prog 11 #[.slice A n cap] w fun e w' => e = .returned (.bool true) ∧ Below w.heap.size w w' := by
  have HF := hide qfirst_c
  have h : (40 : Int) < n := by omega
  clear hl
  go_enter Tryd.func11, Tryd.ntmps11
  go_wp2_with fail
  refine (HF.out _).mono ?_
  rintro e w1 ⟨rfl, rfl⟩
  go_wp2_with fail
  go_ret
  exact ⟨rfl, (Below.refl _ _).drew⟩
theorem spanslaw_c (zs : List Int) (A : Option Addr) (cap : Nat) (es : List Addr) (w : World) (hr : Ri w A zs) (hE : Ez w es) :
    Calls Tryd.prog 11 #[.slice A zs.length cap] w fun e w' => e = .returned (.bool true) ∧ Below w.heap.size w w' := by
  rcases Nat.lt_or_ge 40 zs.length with h | h
  · exact spans_great zs.length A cap w h
  · exact spans_small zs A cap es w hr h hE
end Go.Proofs.YtboighnmgnjhdaaDoor
