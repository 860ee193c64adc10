/-
  The law QuantScales of package lodgelaw4. By an AI agent. No person has read it.
-/
import Derived.Test.YtboighnmgnjhdaaDoorQuaR
import Derived.Test.YtboighnmgnjhdaaDoorQuaMi
import Derived.Test.YtboighnmgnjhdaaDoorErrD
namespace Go.Proofs.YtboighnmgnjhdaaDoor
open Go.RowKit
open Ieee

theorem qua_kept {W W' : World} {p : Addr} {v : Value} (h : W.cell? p = some v) (hb : Below W.heap.size W W') : W'.cell? p = some v := by
  have hlt : p.block < W.heap.size := by
    rcases Nat.lt_or_ge p.block W.heap.size with h1 | h1
    · exact h1
    · unfold World.cell? at h
      rw [Array.getElem?_eq_none h1] at h
      simp at h
  exact (hb.cell hlt).trans h
abbrev ScaS (g G : Nat) (wr : World) (x1 x2 y1 y2 y3 : Value) (W : World) : Prop :=
  W.cell? ⟨g, 0, none⟩ = some x1 ∧ W.cell? ⟨g, 1, none⟩ = some x2 ∧ W.cell? ⟨G, 0, none⟩ = some y1 ∧ W.cell? ⟨G, 1, none⟩ = some y2 ∧ W.cell? ⟨G, 2, none⟩ = some y3 ∧ Hid (Below wr.heap.size wr W)
theorem ScaS.keep {g G : Nat} {wr : World} {x1 x2 y1 y2 y3 : Value} {W W' : World} (h : ScaS g G wr x1 x2 y1 y2 y3 W) (hb : Below W.heap.size W W') : ScaS g G wr x1 x2 y1 y2 y3 W' := by
  obtain ⟨h1, h2, h3, h4, h5, h⟩ := h
  exact ⟨qua_kept h1 hb, qua_kept h2 hb, qua_kept h3 hb, qua_kept h4 hb, qua_kept h5 hb, hide (h.out.trans (hb.mono h.out.size))⟩
theorem ScaS.low {g G : Nat} {wr : World} {x1 x2 y1 y2 y3 : Value} {W : World} (h : ScaS g G wr x1 x2 y1 y2 y3 W) : Below wr.heap.size wr W := h.2.2.2.2.2.out
set_option maxRecDepth 100000 in
set_option maxHeartbeats 8000000 in
theorem scales_good (b : Nat) (hb : b < 18446744073709551616) (z : Int) (hg : Qua.good b z = true) (x : Nat) (hx : x < 18446744073709551616) (q : Int) (w : World) :
    Calls Tryd.prog 4 #[.float .f64 b, .int .i64 z, .float .f64 x, .int .i64 q] w fun e w' => e = .returned (.bool true) ∧ Below w.heap.size w w' := by
  have HF := hide qfirst_c
  have HN := hide (new_good b hb z hg w.drew)
  have HG := hide (goodscale_c b hb z)
  have hg' : Qua.pos b = true ∧ -128 ≤ z ∧ z ≤ 127 := by
    unfold Qua.good at hg
    simp only [Bool.and_eq_true, decide_eq_true_eq] at hg
    exact ⟨hg.1.1, hg.1.2, hg.2⟩
  rw [hg] at HG
  obtain ⟨hp, hz⟩ := hg'
  obtain ⟨e0, e1, e2, e3⟩ := of_ends b z hz hp
  have HO := hide (of_c b x z hz)
  have HQ := hide (refquant_c b x z hz hp hx)
  have HK := hide (back_c b z q hz hp)
  have HR := hide (refback_c b z q hz hp)
  have H1 := hide (of_c b 9218868437227405312 z hz)
  have H2 := hide (of_c b 18442240474082181120 z hz)
  have H3 := hide (of_c b 9221120237041090561 z hz)
  rw [e1] at H1
  rw [e2] at H2
  rw [e3] at H3
  have HA := hide (all_three b z hz x b 0)
  rw [e0] at HA
  have HM := hide (same_c (Qua.back b z q) (Qua.back b z q))
  rw [Flt.same_self] at HM
  have M1 := hide mathnan_c
  have M2 := hide mathinf_p
  have M3 := hide mathinf_m
  have obb : FloatKind.f64.format.order b b = some .eq := order_num' (by
    unfold Qua.pos at hp
    rw [decide_eq_true_eq] at hp
    unfold Flt.nanb
    rw [decide_eq_false_iff_not]
    omega)
  obtain ⟨v, hv⟩ : ∃ r, Hid (Qua.of b z x = r) := ⟨_, hide rfl⟩
  obtain ⟨u, hu⟩ : ∃ r, Hid (Qua.of b z b = r) := ⟨_, hide rfl⟩
  obtain ⟨k, hk⟩ : ∃ r, Hid (Qua.back b z q = r) := ⟨_, hide rfl⟩
  rw [hv.out] at HO HQ HA
  rw [hu.out] at HA
  rw [hk.out] at HK HR HM
  have hsf := store_f b
  clear hv hu hk e0 e1 e2 e3 hg hp hz hb hx
  go_enter Tryd.func4, Tryd.ntmps4
  go_wp2_with fail
  refine (HF.out _).mono ?_
  rintro e w1 ⟨rfl, rfl⟩
  go_wp2_with fail
  refine HN.out.mono ?_
  rintro e w1 ⟨rfl, hb⟩
  have HB0 : Hid (Below w.heap.size w w1) := hide ((Below.refl w.heap.size w).drew.trans hb)
  clear hb HN
  go_wp2_with fail
  refine (HG.out _).mono ?_
  rintro e w2 ⟨rfl, hw2⟩
  have hs : Has w2 w1.heap.size 33 [.float .f64 b, .int .i64 z] := by rw [hw2]; exact Has.new w1 _ _
  have hB : Below w.heap.size w w2 := by rw [hw2]; exact HB0.out.alloc HB0.out.size _
  clear hw2
  obtain ⟨g, hg⟩ : ∃ g, Hid (w1.heap.size = g) := ⟨_, hide rfl⟩
  have hg' := hg.out
  rw [hg'] at hs ⊢
  have HX := hide (HA.out w2.heap.size 27 (w2.alloc (.cells #[.float .f64 x, .float .f64 b, .float .f64 0] 27)) (Has.new w2 _ _))
  have HS := hide (hs.alloc (.cells #[.float .f64 x, .float .f64 b, .float .f64 0] 27))
  have HB := hide (hB.alloc hB.size (.cells #[.float .f64 x, .float .f64 b, .float .f64 0] 27))
  have c0 : w2.cell? ⟨g, 0, none⟩ = some (.float .f64 b) := hs.cell 0
  have c1 : w2.cell? ⟨g, 1, none⟩ = some (.int .i64 z) := hs.cell 1
  clear hs hB hg hg' HB0 HA
  go_wp2_with fail
  refine HX.out.mono ?_
  rintro e w3 ⟨⟨G, rfl, hG1, hG2⟩, hb⟩
  have hs := HS.out.below hb HS.out.lt
  have HB3 := hide (HB.out.trans (hb.mono HB.out.size))
  have hS0 : ScaS g G w3 (.float .f64 b) (.int .i64 z) (.int .i64 v) (.int .i64 u) (.int .i64 z) w3.drew := ⟨hs.cell 0, hs.cell 1, hG2.cell 0, hG2.cell 1, hG2.cell 2, hide (Below.refl _ _).drew⟩
  clear hs hb hG1 hG2 HX HS HB c0 c1
  go_wp2_with fail
  dsimp only [List.append]
  go_region_held3 (fun W => W.cell? ⟨g, 0, none⟩ = some (.float .f64 b) ∧ W.cell? ⟨g, 1, none⟩ = some (.int .i64 z) ∧ W.cell? ⟨G, 0, none⟩ = some (.int .i64 v) ∧ W.cell? ⟨G, 1, none⟩ = some (.int .i64 u) ∧ W.cell? ⟨G, 2, none⟩ = some (.int .i64 z) ∧ Hid (Below w3.heap.size w3 W))
    (first | exact hS0 | assumption | exact ScaS.keep (by assumption) hb)
    (first
      | (go_at_call 27; with_reducible refine (HO.out _).mono ?_; rintro e W6 ⟨rfl, hb⟩)
      | (go_at_call 27; with_reducible refine (H1.out _).mono ?_; rintro e W6 ⟨rfl, hb⟩)
      | (go_at_call 27; with_reducible refine (H2.out _).mono ?_; rintro e W6 ⟨rfl, hb⟩)
      | (go_at_call 27; with_reducible refine (H3.out _).mono ?_; rintro e W6 ⟨rfl, hb⟩)
      | (go_at_call 29; with_reducible refine (HK.out _).mono ?_; rintro e W6 ⟨rfl, hb⟩)
      | (go_at_call 28; with_reducible refine (HQ.out _).mono ?_; rintro e W6 ⟨rfl, rfl⟩)
      | (go_at_call 30; with_reducible refine (HR.out _).mono ?_; rintro e W6 ⟨rfl, rfl⟩)
      | (go_at_call 15; with_reducible refine (HM.out _).mono ?_; rintro e W6 ⟨rfl, rfl⟩)
      | (go_at_call 20; with_reducible refine (M1.out _).mono ?_; rintro e W6 ⟨rfl, rfl⟩)
      | (go_at_call 31; with_reducible refine (M2.out _).mono ?_; rintro e W6 ⟨rfl, rfl⟩)
      | (go_at_call 31; with_reducible refine (M3.out _).mono ?_; rintro e W6 ⟨rfl, rfl⟩))
  go_wp2_with fail
  go_ret
  have hb9 := ScaS.low (by assumption : ScaS g G w3 (.float .f64 b) (.int .i64 z) (.int .i64 v) (.int .i64 u) (.int .i64 z) W6)
  exact ⟨rfl, HB3.out.trans (hb9.mono HB3.out.size)⟩
end Go.Proofs.YtboighnmgnjhdaaDoor
