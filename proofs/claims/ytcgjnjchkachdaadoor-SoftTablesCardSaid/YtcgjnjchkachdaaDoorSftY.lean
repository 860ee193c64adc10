/-
  soft.Table of a number that may not be; the reference's Table; walked. By an AI agent. No person has read it.
-/
import Derived.Test.YtcgjnjchkachdaaDoorSftX
namespace Go.Proofs.YtcgjnjchkachdaaDoor
open Go.RowKit
open Ieee F64

theorem order_none (a c : Nat) (hn : Flt.nanb a = true) : double.order a c = none := by
  have h := Flt.order_self a
  rw [hn, if_pos rfl] at h
  unfold Format.order at h ⊢
  cases hr : double.read a with
  | number s m e => rw [hr] at h; simp [Datum.order] at h
  | infinity s => rw [hr] at h; simp [Datum.order] at h
  | nan s f => simp [Datum.order]
set_option maxRecDepth 100000 in
theorem finite_c (b : Nat) (hb : b < 18446744073709551616) (w : World) :
    Calls Tryd.prog 73 #[.float .f64 b] w fun e w' => e = .returned (.bool (decide (3 ≤ Flt.kindNo b))) ∧ w' = w := by
  have H := hide (refkind_c b hb w)
  obtain ⟨k, hk⟩ : ∃ k, Hid (Flt.kindNo b = k) := ⟨_, hide rfl⟩
  obtain ⟨s, hs⟩ : ∃ k, Hid (Flt.kindNeg b = k) := ⟨_, hide rfl⟩
  rw [hk.out, hs.out] at H
  rw [hk.out]
  have hd : decide ((3 : Int) ≤ (k : Int)) = decide (3 ≤ k) := decide_eq_decide.2 (by omega)
  clear hk hs
  go_enter Tryd.func73, Tryd.ntmps73
  go_wp2_with fail
  refine H.out.mono ?_
  rintro e w1 ⟨rfl, rfl⟩
  go_wp2_with fail
  go_ret
  exact ⟨by first | rfl | rw [hd] | simp [hd], rfl⟩
theorem sf_orders (b : Nat) (hb : b < 18446744073709551616) (o1 : FloatKind.f64.format.order b 0 = some .gt) (o2 : FloatKind.f64.format.order b 4607182418800017408 = some .lt) : b % 9223372036854775808 < 9218868437227405312 ∧ Flt.kindNo b = 3 ∨ b % 9223372036854775808 < 9218868437227405312 ∧ 3 ≤ Flt.kindNo b := by
  by_cases hn : Flt.nanb b = true
  · have h := order_none b 0 hn
    rw [show double.order b 0 = some .gt from o1] at h
    cases h
  · have hm : b % 9223372036854775808 ≤ 9218868437227405312 := by unfold Flt.nanb at hn; simp at hn; omega
    by_cases hi : b % 9223372036854775808 = 9218868437227405312
    · have he : Flt.expo b = 2047 := by unfold Flt.expo; omega
      have hf : Flt.frac b = 0 := by unfold Flt.frac; omega
      have q1 := Flt.order_inf b 0 hb (by decide) he hf (by decide)
      have q2 := Flt.order_inf b 4607182418800017408 hb (by decide) he hf (by decide)
      rw [show double.order b 0 = some .gt from o1] at q1
      rw [show double.order b 4607182418800017408 = some .lt from o2] at q2
      cases hneg : Flt.neg b
      · rw [hneg] at q2
        cases q2
      · rw [hneg] at q1
        cases q1
    · refine .inr ⟨by omega, ?_⟩
      have he : Flt.expo b ≠ 2047 := by unfold Flt.expo; omega
      unfold Flt.kindNo
      rw [if_neg (fun h => he h.1), if_neg he]
      split
      · omega
      · split <;> omega

set_option maxRecDepth 100000 in
set_option maxHeartbeats 4000000 in
theorem stable_bad (b : Nat) (c1 c2 : Option Ordering) (o1 : FloatKind.f64.format.order b 0 = c1) (o2 : FloatKind.f64.format.order b 4607182418800017408 = c2) (h : ¬ (c1 = some .gt ∧ c2 = some .lt)) (ah am ar : Addr) (w : World) (hE : E3 w ah am ar) :
    Calls Tryd.prog 37 #[.float .f64 b] w fun e w' => e = .returned (.tuple #[.agg #[.slice none 0 0, .bool false, .slice none 0 0], errv ar]) ∧ Below w.heap.size w w' := by
  obtain ⟨W0, hW0⟩ : ∃ W, W = w.alloc (.cells #[.slice none 0 0, .bool false, .slice none 0 0] 26) := ⟨_, rfl⟩
  have HZ : Hid (Has W0 w.heap.size 26 [.slice none 0 0, .bool false, .slice none 0 0]) := hide (by rw [hW0]; exact Has.new _ _ _)
  have HB0 : Hid (Below w.heap.size w W0) := hide (by rw [hW0]; exact (Below.refl _ _).alloc (Nat.le_refl _) _)
  have HW := hide hW0
  obtain ⟨z0, z1, z2, zf0, zf1, zf2, HZf, HFf⟩ := elm_three HZ.out HB0.out (Nat.le_refl _) (.slice none 0 0) (.bool false) (.slice none 0 0)
  have hs5 : W0.drew.cell? ⟨1, 0, none⟩ = some (errv ar) := (hE.2.2.below HB0.out).1
  have hS9 := hide (hE.2.2.below HFf.out).1
  have hglt : 1 < w.heap.size := hE.2.2.2.1
  clear hE hW0
  cases c1 with
  | none =>
    clear h
    go_enter Tryd.func37, Tryd.ntmps37
    go_wp2_with fail
    rw [← HW.out]
    clear HW o1 o2
    go_region_held3 (fun W => W.cell? ⟨1, 0, none⟩ = some (errv ar))
      (first | exact hs5 | assumption | exact hS9.out)
      (first | fail)
    go_wp2_with fail
    refine bodyPost_ret (results_tn rfl _ _ w.heap.size _ _ _ rfl HZf.out) rfl ?_
    exact ⟨rfl, HFf.out.drew⟩
  | some q1 =>
    cases q1 with
    | lt =>
      clear h
      go_enter Tryd.func37, Tryd.ntmps37
      go_wp2_with fail
      rw [← HW.out]
      clear HW o1 o2
      go_region_held3 (fun W => W.cell? ⟨1, 0, none⟩ = some (errv ar))
        (first | exact hs5 | assumption | exact hS9.out)
        (first | fail)
      go_wp2_with fail
      refine bodyPost_ret (results_tn rfl _ _ w.heap.size _ _ _ rfl HZf.out) rfl ?_
      exact ⟨rfl, HFf.out.drew⟩
    | eq =>
      clear h
      go_enter Tryd.func37, Tryd.ntmps37
      go_wp2_with fail
      rw [← HW.out]
      clear HW o1 o2
      go_region_held3 (fun W => W.cell? ⟨1, 0, none⟩ = some (errv ar))
        (first | exact hs5 | assumption | exact hS9.out)
        (first | fail)
      go_wp2_with fail
      refine bodyPost_ret (results_tn rfl _ _ w.heap.size _ _ _ rfl HZf.out) rfl ?_
      exact ⟨rfl, HFf.out.drew⟩
    | gt =>
      cases c2 with
      | none =>
        clear h
        go_enter Tryd.func37, Tryd.ntmps37
        go_wp2_with fail
        rw [← HW.out]
        clear HW o1 o2
        go_region_held3 (fun W => W.cell? ⟨1, 0, none⟩ = some (errv ar))
          (first | exact hs5 | assumption | exact hS9.out)
          (first | fail)
        go_wp2_with fail
        refine bodyPost_ret (results_tn rfl _ _ w.heap.size _ _ _ rfl HZf.out) rfl ?_
        exact ⟨rfl, HFf.out.drew⟩
      | some q2 =>
        cases q2 with
        | lt => exact absurd ⟨rfl, rfl⟩ h
        | eq =>
          clear h
          go_enter Tryd.func37, Tryd.ntmps37
          go_wp2_with fail
          rw [← HW.out]
          clear HW o1 o2
          go_region_held3 (fun W => W.cell? ⟨1, 0, none⟩ = some (errv ar))
            (first | exact hs5 | assumption | exact hS9.out)
            (first | fail)
          go_wp2_with fail
          refine bodyPost_ret (results_tn rfl _ _ w.heap.size _ _ _ rfl HZf.out) rfl ?_
          exact ⟨rfl, HFf.out.drew⟩
        | gt =>
          clear h
          go_enter Tryd.func37, Tryd.ntmps37
          go_wp2_with fail
          rw [← HW.out]
          clear HW o1 o2
          go_region_held3 (fun W => W.cell? ⟨1, 0, none⟩ = some (errv ar))
            (first | exact hs5 | assumption | exact hS9.out)
            (first | fail)
          go_wp2_with fail
          refine bodyPost_ret (results_tn rfl _ _ w.heap.size _ _ _ rfl HZf.out) rfl ?_
          exact ⟨rfl, HFf.out.drew⟩
set_option maxRecDepth 100000 in
set_option maxHeartbeats 4000000 in
theorem rtable_bad (b : Nat) (hb : b < 18446744073709551616) (c1 c2 : Option Ordering) (o1 : FloatKind.f64.format.order b 0 = c1) (o2 : FloatKind.f64.format.order b 4607182418800017408 = c2) (h : ¬ (c1 = some .gt ∧ c2 = some .lt)) (w : World) :
    Calls Tryd.prog 38 #[.float .f64 b] w fun e w' => e = .returned (.tuple #[.agg #[.slice none 0 0, .bool false, .slice none 0 0], .bool false]) ∧ Below w.heap.size w w' := by
  obtain ⟨W0, hW0⟩ : ∃ W, W = w.alloc (.cells #[.slice none 0 0, .bool false, .slice none 0 0] 26) := ⟨_, rfl⟩
  have HZ : Hid (Has W0 w.heap.size 26 [.slice none 0 0, .bool false, .slice none 0 0]) := hide (by rw [hW0]; exact Has.new _ _ _)
  have HB0 : Hid (Below w.heap.size w W0) := hide (by rw [hW0]; exact (Below.refl _ _).alloc (Nat.le_refl _) _)
  have HW := hide hW0
  obtain ⟨z0, z1, z2, zf0, zf1, zf2, HZf, HFf⟩ := elm_three HZ.out HB0.out (Nat.le_refl _) (.slice none 0 0) (.bool false) (.slice none 0 0)
  have HF := hide (fun W => finite_c b hb W)
  obtain ⟨F, hF⟩ : ∃ F, Hid (decide (3 ≤ Flt.kindNo b) = F) := ⟨_, hide rfl⟩
  rw [hF.out] at HF
  clear hW0 hF hb
  cases F with
  | false =>
    clear h o1 o2
    go_enter Tryd.func38, Tryd.ntmps38
    go_wp2_with fail
    rw [← HW.out]
    clear HW
    refine (HF.out _).mono ?_
    rintro e wq ⟨rfl, hw⟩
    have hw := hw.symm
    subst hw
    go_wp2_with fail
    refine bodyPost_ret (results_tn rfl _ _ w.heap.size _ _ _ rfl HZf.out) rfl ?_
    exact ⟨rfl, HFf.out⟩
  | true =>
    cases c1 with
    | none =>
      clear h
      go_enter Tryd.func38, Tryd.ntmps38
      go_wp2_with fail
      rw [← HW.out]
      clear HW
      refine (HF.out _).mono ?_
      rintro e wq ⟨rfl, hw⟩
      have hw := hw.symm
      subst hw
      go_wp2_with fail
      refine bodyPost_ret (results_tn rfl _ _ w.heap.size _ _ _ rfl HZf.out) rfl ?_
      exact ⟨rfl, HFf.out⟩
    | some q1 =>
      cases q1 with
      | lt =>
        clear h
        go_enter Tryd.func38, Tryd.ntmps38
        go_wp2_with fail
        rw [← HW.out]
        clear HW
        refine (HF.out _).mono ?_
        rintro e wq ⟨rfl, hw⟩
        have hw := hw.symm
        subst hw
        go_wp2_with fail
        refine bodyPost_ret (results_tn rfl _ _ w.heap.size _ _ _ rfl HZf.out) rfl ?_
        exact ⟨rfl, HFf.out⟩
      | eq =>
        clear h
        go_enter Tryd.func38, Tryd.ntmps38
        go_wp2_with fail
        rw [← HW.out]
        clear HW
        refine (HF.out _).mono ?_
        rintro e wq ⟨rfl, hw⟩
        have hw := hw.symm
        subst hw
        go_wp2_with fail
        refine bodyPost_ret (results_tn rfl _ _ w.heap.size _ _ _ rfl HZf.out) rfl ?_
        exact ⟨rfl, HFf.out⟩
      | gt =>
        cases c2 with
        | none =>
          clear h
          go_enter Tryd.func38, Tryd.ntmps38
          go_wp2_with fail
          rw [← HW.out]
          clear HW
          refine (HF.out _).mono ?_
          rintro e wq ⟨rfl, hw⟩
          have hw := hw.symm
          subst hw
          go_wp2_with fail
          refine bodyPost_ret (results_tn rfl _ _ w.heap.size _ _ _ rfl HZf.out) rfl ?_
          exact ⟨rfl, HFf.out⟩
        | some q2 =>
          cases q2 with
          | lt => exact absurd ⟨rfl, rfl⟩ h
          | eq =>
            clear h
            go_enter Tryd.func38, Tryd.ntmps38
            go_wp2_with fail
            rw [← HW.out]
            clear HW
            refine (HF.out _).mono ?_
            rintro e wq ⟨rfl, hw⟩
            have hw := hw.symm
            subst hw
            go_wp2_with fail
            refine bodyPost_ret (results_tn rfl _ _ w.heap.size _ _ _ rfl HZf.out) rfl ?_
            exact ⟨rfl, HFf.out⟩
          | gt =>
            clear h
            go_enter Tryd.func38, Tryd.ntmps38
            go_wp2_with fail
            rw [← HW.out]
            clear HW
            refine (HF.out _).mono ?_
            rintro e wq ⟨rfl, hw⟩
            have hw := hw.symm
            subst hw
            go_wp2_with fail
            refine bodyPost_ret (results_tn rfl _ _ w.heap.size _ _ _ rfl HZf.out) rfl ?_
            exact ⟨rfl, HFf.out⟩
set_option maxRecDepth 100000 in
set_option maxHeartbeats 8000000 in
theorem rtable_good (b : Nat) (hb : b < 18446744073709551616) (o1 : FloatKind.f64.format.order b 0 = some .gt) (o2 : FloatKind.f64.format.order b 4607182418800017408 = some .lt) (w : World) :
    Calls Tryd.prog 38 #[.float .f64 b] w fun e w' => (∃ g c rest gd, e = .returned (.tuple #[.agg (tcells (some ⟨g, 0, none⟩) 1 c true (some ⟨gd, 0, none⟩) 256 256), .bool true]) ∧ Has w' g 3 (i64s [256] ++ rest) ∧ Has w' gd 3 (i64s (Sf.table b))) ∧ Below w.heap.size w w' := by
  have hfin : b % 9223372036854775808 < 9218868437227405312 ∧ 3 ≤ Flt.kindNo b := by
    rcases sf_orders b hb o1 o2 with h | h
    · exact ⟨h.1, by omega⟩
    · exact h
  have h8 := hfin.1
  have HF := hide (fun W => finite_c b hb W)
  rw [decide_eq_true hfin.2] at HF
  obtain ⟨W0, hW0⟩ : ∃ W, W = w.alloc (.cells #[.slice none 0 0, .bool false, .slice none 0 0] 26) := ⟨_, rfl⟩
  have HZ : Hid (Has W0 w.heap.size 26 [.slice none 0 0, .bool false, .slice none 0 0]) := hide (by rw [hW0]; exact Has.new _ _ _)
  obtain ⟨W1, hW1⟩ : ∃ W, W = W0.alloc (.cells #[.int .i64 256] 3) := ⟨_, rfl⟩
  have hb0 : Below w.heap.size w W0 := by rw [hW0]; exact (Below.refl _ _).alloc (Nat.le_refl _) _
  have hbA : Below W0.heap.size W0 W1 := by rw [hW1]; exact (Below.refl _ _).alloc (Nat.le_refl _) _
  have hsr : Ri W1 (some ⟨W0.heap.size, 0, none⟩) [256] := by rw [hW1]; exact new_ri W0 3 [256] (by decide)
  replace HZ := hide (HZ.out.below hbA HZ.out.lt)
  have HB0 := hide (hb0.trans (hbA.mono hb0.size))
  have HZR := hide (rzero_c [256] (some ⟨W0.heap.size, 0, none⟩) 1 true W1 hsr (by decide))
  rw [show (Shp.elems [256]).toNat = 256 by decide] at HZR
  have HO : Hid (∀ v : Int, 0 ≤ v → v ≤ 1048576 → ∃ f r, floatOfInt .f64 v = f ∧ double.mul f b = some r ∧ r < 18446744073709551616 ∧ F64.Flt.cutv (Flt.wv (Flt.rround r)) 0 1048576 = Sf.step b v) := hide (fun v h0 h1 => by
    obtain ⟨a1, a2, -⟩ := whole_facts v (by omega)
    obtain ⟨r, hr, hrl⟩ := sf_mul (Flt.mk v 0) b a1 a2 hb h8
    refine ⟨Flt.mk v 0, r, float_of_any v, hr, hrl, ?_⟩
    unfold Sf.step
    rw [hr, Option.getD_some, F64.Flt.clamp_cut, if_neg (by decide), round_rround r hrl])
  have HSI : Hid (∀ i, 0 ≤ Sf.tab b i ∧ Sf.tab b i ≤ 1048576) := hide (Sf.tab_le b)
  have HSS : Hid (∀ i, Sf.step b (Sf.tab b i) = Sf.tab b (i + 1)) := hide (fun i => rfl)
  have HT0 : Hid (Sf.tab b 0 = 1048576) := hide rfl
  obtain ⟨T, hT⟩ : ∃ T, Hid (Sf.tab b = T) := ⟨_, hide rfl⟩
  have HTL : Hid (∀ xs : List Int, xs.length = 256 → (∀ j, j ≤ 255 → xs[j]? = some (T j)) → xs = Sf.table b) := hide (fun xs hl hx => List.ext_getElem? (fun j => by
    rcases Nat.lt_or_ge j 256 with h | h
    · rw [hx j (by omega), Sf.table_at b j h, hT.out]
    · rw [List.getElem?_eq_none (by omega), List.getElem?_eq_none (by rw [Sf.table_length]; omega)]))
  rw [hT.out] at HSI HSS HT0
  have HW1 := hide hW1
  have HW0 := hide hW0
  clear hfin hb h8 hW0 hW1 hb0 hbA hsr hT
  go_enter Tryd.func38, Tryd.ntmps38
  go_wp2_with fail
  rw [← HW0.out]
  refine (HF.out _).mono ?_
  rintro e wq ⟨rfl, hw⟩
  have hw := hw.symm
  subst hw
  go_wp2_with fail
  rw [← HW1.out]
  clear HW1 HW0 HF o1 o2
  refine HZR.out.mono ?_
  rintro e w2 ⟨⟨g, c, rest, gd, rfl, hG, hD, hg, hgd, hne⟩, hb⟩
  have hgl := hD.lt
  obtain ⟨W3, hW3⟩ : ∃ W, W = (w2.setCell ⟨gd, 0, none⟩ (.int .i64 1048576)).alloc (.cells #[.slice (some ⟨g, 0, none⟩) 1 c, .bool true, .slice (some ⟨gd, 0, none⟩) 256 256] 26) := ⟨_, rfl⟩
  have hgd0 : w.heap.size < gd := Nat.lt_of_lt_of_le HZ.out.lt hgd
  have hb1 := HB0.out.trans (hb.mono HB0.out.size)
  have BT : Hid (Has W3 w2.heap.size 26 [.slice (some ⟨g, 0, none⟩) 1 c, .bool true, .slice (some ⟨gd, 0, none⟩) 256 256]) := hide (by rw [hW3]; exact box_at _ _ _ _ (by simp))
  have G : Hid (Has W3 g 3 (i64s [256] ++ rest)) := hide (by rw [hW3]; exact (hG.far (p := ⟨gd, 0, none⟩) hne _).alloc _)
  have D : Hid (Has W3 gd 3 (i64s ((List.replicate 256 0).set 0 1048576))) := hide (by
    rw [hW3]
    have h := (hD.set_ 0 (.int .i64 1048576)).alloc (.cells #[.slice (some ⟨g, 0, none⟩) 1 c, .bool true, .slice (some ⟨gd, 0, none⟩) 256 256] 26)
    unfold i64s at h ⊢
    rw [List.map_set]
    exact h)
  have HGD := hide hgd0
  have HG0 : Hid (w.heap.size < g) := hide (Nat.lt_of_lt_of_le HZ.out.lt hg)
  have Hgd2 := hide hD.lt
  have HNE := hide hne
  have HZ2 := HZ.out.below hb HZ.out.lt
  have HZ3 : Hid (Has W3 w.heap.size 26 [.slice none 0 0, .bool false, .slice none 0 0]) := hide (by rw [hW3]; exact (HZ2.far (p := ⟨gd, 0, none⟩) (by show w.heap.size ≠ gd; omega) _).alloc _)
  have HB : Hid (Below w.heap.size w W3) := hide (by rw [hW3]; exact (hb1.setCell (p := ⟨gd, 0, none⟩) (by show w.heap.size ≤ gd; omega) _).alloc (by simp; exact hb1.size) _)
  have Hw2 := hide (HZ2.lt)
  have d0 : w2.cell? ⟨gd, 0, none⟩ = some (.int .i64 0) := by rw [hD.cell]; rfl
  have d0f := hD.frozen 0
  have hgn : ¬ gd = w2.heap.size := by omega
  have hgn2 : ¬ w2.heap.size = gd := by omega
  have HW3 := hide hW3
  clear hG hD hgd hne hb hb1 hW3 HZR HB0 HZ HZ2 hgd0 hg
  go_wp2_with fail
  rw [← HW3.out]
  clear HW3 d0 d0f hgl
  go_loopg [5] 255 (fun gq kk wr => ∃ (i : Nat) (xs : List Int), gq + i = 255 ∧ kk = .int .i64 i ∧ Hid (xs.length = 256) ∧ Hid (∀ j, j ≤ i → xs[j]? = some (T j)) ∧ Hid (Has wr gd 3 (i64s xs)) ∧ Hid (Has wr g 3 (i64s [256] ++ rest)) ∧ Hid (Has wr w2.heap.size 26 [.slice (some ⟨g, 0, none⟩) 1 c, .bool true, .slice (some ⟨gd, 0, none⟩) 256 256]) ∧ Hid (Has wr w.heap.size 26 [.slice none 0 0, .bool false, .slice none 0 0]) ∧ Hid (Below w.heap.size w wr))
  case atStart =>
    refine ⟨0, (List.replicate 256 0).set 0 1048576, by omega, rfl, hide (by simp), hide (fun j hj => ?_), D, G, BT, HZ3, HB⟩
    obtain rfl : j = 0 := by omega
    rw [HT0.out]
    rfl
  case round =>
    clear D G BT HZ3 HB
    obtain ⟨i, xs, hi, rfl, HN, HI, D, G, BT, HZ, HB⟩ := hrel
    by_cases hlt : i < 255
    · have him : (i : Int) < 255 := by omega
      have hi0 : (0 : Int) ≤ (i : Int) := by omega
      have hi2 : (i : Int) < 256 := by omega
      have hi3 : (i : Int) + 1 < 256 := by omega
      obtain ⟨v, hv⟩ : ∃ v, Hid (T i = v) := ⟨_, hide rfl⟩
      have hvb := HSI.out i
      rw [hv.out] at hvb
      obtain ⟨f, r, hf, hr, hrl, hs⟩ := HO.out v hvb.1 hvb.2
      have hst := HSS.out i
      rw [hv.out, ← hs] at hst
      obtain ⟨u, hu⟩ : ∃ u, Hid (F64.Flt.cutv (Flt.wv (Flt.rround r)) 0 1048576 = u) := ⟨_, hide rfl⟩
      have HWH := hide (fun W => refwhole_c r hrl 0 1048576 (by decide) (by decide) (by decide) W)
      rw [if_neg (by decide : ¬ (1048576 : Int) < 0), hu.out] at HWH
      rw [hu.out] at hst
      have HST := hide hst
      have hq : ∀ W : World, (binOp .mul 60 (.float .f64 f) (.float .f64 b)).run Tryd.prog W = .ok (.float .f64 r) W := fun W => run_float_arith (P := Tryd.prog) W .mul 60 .f64 _ _ _ hr
      have gc : wr.cell? ⟨gd, i, none⟩ = some (.int .i64 v) := by
        rw [D.out.cell]
        unfold i64s
        rw [List.getElem?_map, HI.out i (Nat.le_refl _), hv.out]
        rfl
      obtain ⟨j, hj⟩ : ∃ j, Hid (i + 1 = j) := ⟨_, hide rfl⟩
      have hw1 : IntKind.i64.wrap ((i : Int) + 1) = (j : Int) := by rw [IntKind.wrap_i64]; have := hj.out; omega
      have hj0 : (0 : Int) ≤ (j : Int) := by omega
      have hj2 : (j : Int) < 256 := by have := hj.out; omega
      have hin : j < xs.length := by have := HN.out; omega
      have g1 : wr.cell? ⟨gd, j, none⟩ = some (.int .i64 (xs[j]'hin)) := by
        rw [D.out.cell]
        unfold i64s
        rw [List.getElem?_map, List.getElem?_eq_getElem hin]
        rfl
      have gf := D.out.frozen j
      have b2 := BT.out.cell 2
      clear hvb hr hrl hs hst hv hu
      go_wp2_with fail
      go_region_law (first
        | (go_simp; go_at_call 74; refine (HWH.out _).mono ?_; rintro e wq ⟨rfl, hw⟩; have hw := hw.symm; subst hw))
      all_goals go_ways
      all_goals
        obtain ⟨wy, hwy⟩ : ∃ W, Hid (W = (wr.setCell ⟨gd, j, none⟩ (.int .i64 u)).drew) := ⟨_, hide rfl⟩
        rw [← hwy.out]
        have DY : Hid (Has wy gd 3 (i64s (xs.set j u))) := hide (by
          rw [hwy.out]
          have h := (D.out.set_ j (.int .i64 u)).drewN 1
          unfold i64s at h ⊢
          rw [List.map_set]
          exact h)
        have GY : Hid (Has wy g 3 (i64s [256] ++ rest)) := hide (by rw [hwy.out]; exact (G.out.far (p := ⟨gd, j, none⟩) HNE.out _).drewN 1)
        have BY : Hid (Has wy w2.heap.size 26 [.slice (some ⟨g, 0, none⟩) 1 c, .bool true, .slice (some ⟨gd, 0, none⟩) 256 256]) := hide (by rw [hwy.out]; exact (BT.out.far (p := ⟨gd, j, none⟩) (by show w2.heap.size ≠ gd; have := Hgd2.out; omega) _).drewN 1)
        have ZY : Hid (Has wy w.heap.size 26 [.slice none 0 0, .bool false, .slice none 0 0]) := hide (by rw [hwy.out]; exact (HZ.out.far (p := ⟨gd, j, none⟩) (by show w.heap.size ≠ gd; have := HGD.out; omega) _).drewN 1)
        have HY : Hid (Below w.heap.size w wy) := hide (by rw [hwy.out]; exact (HB.out.setCell (p := ⟨gd, j, none⟩) (by show w.heap.size ≤ gd; have := HGD.out; omega) _).drew)
        clear hwy b2 g1 gc gf hq hf
        go_wp2_with fail
        go_roundg (255 - (i + 1))
        case measure => omega
        case rel =>
          refine ⟨j, xs.set j u, by have := hj.out; omega, rfl, hide (by rw [List.length_set]; exact HN.out), hide (fun k hk => ?_), DY, GY, BY, ZY, HY⟩
          rw [List.getElem?_set]
          by_cases h : j = k
          · subst h
            rw [if_pos rfl, if_pos hin, ← hj.out, ← HST.out]
          · rw [if_neg h]
            exact HI.out k (by have := hj.out; omega)
    · obtain rfl : i = 255 := by omega
      have hx := HTL.out xs HN.out HI.out
      have hnn : ¬ ((255 : Nat) : Int) < 255 := by omega
      rw [hx] at D
      have b0 := BT.out.cell 0
      have b1 := BT.out.cell 1
      have b2 := BT.out.cell 2
      obtain ⟨z0, z1, z2, zf0, zf1, zf2, HZf, HFf⟩ := elm_three HZ.out HB.out (Nat.le_refl _) (.slice (some ⟨g, 0, none⟩) 1 c) (.bool true) (.slice (some ⟨gd, 0, none⟩) 256 256)
      have hgz : w.heap.size ≠ gd := by have := HGD.out; omega
      have hgz2 : w.heap.size ≠ g := by have := HG0.out; omega
      have hDf := ((D.out.far (p := ⟨w.heap.size, 0, none⟩) hgz.symm (.slice (some ⟨g, 0, none⟩) 1 c)).far (p := ⟨w.heap.size, 1, none⟩) hgz.symm (.bool true)).far (p := ⟨w.heap.size, 2, none⟩) hgz.symm (.slice (some ⟨gd, 0, none⟩) 256 256)
      have hGf := ((G.out.far (p := ⟨w.heap.size, 0, none⟩) hgz2.symm (.slice (some ⟨g, 0, none⟩) 1 c)).far (p := ⟨w.heap.size, 1, none⟩) hgz2.symm (.bool true)).far (p := ⟨w.heap.size, 2, none⟩) hgz2.symm (.slice (some ⟨gd, 0, none⟩) 256 256)
      have HDf := hide hDf
      have HGf := hide hGf
      clear hx hgz hgz2 hDf hGf
      go_wp2_with fail
      refine bodyPost_ret (results_tn rfl _ _ w.heap.size _ _ _ rfl HZf.out) rfl ?_
      exact ⟨⟨g, c, rest, gd, rfl, HGf.out, HDf.out⟩, HFf.out⟩
end Go.Proofs.YtcgjnjchkachdaaDoor
