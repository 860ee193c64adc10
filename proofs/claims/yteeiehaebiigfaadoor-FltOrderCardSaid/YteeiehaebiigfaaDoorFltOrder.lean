/-
  The law FltOrder of package lodgelaw3, walked. By an AI agent. No person has read it.
-/
import Derived.Test.YteeiehaebiigfaaDoorFltOr
import Derived.Test.YteeiehaebiigfaaDoorFltJ
namespace Go.Proofs.YteeiehaebiigfaaDoor
open Go.RowKit

theorem fl_new (W : World) (t : TypeId) (x y z : W64) : Fl (W.alloc (.cells #[.float .f64 x.val, .float .f64 y.val, .float .f64 z.val] t)) (some ⟨W.heap.size, 0, none⟩) (vals #[x, y, z]) := by
  refine ⟨fun v hv => ?_, fun i v hi => ⟨_, rfl, by simp, ?_⟩⟩
  · obtain ⟨u, -, rfl⟩ := List.mem_map.1 hv
    exact u.isLt
  · rw [Addr.add_lit, cell_of_row _ W.heap.size (0 + i) _ t (0, 0) (heap_alloc_new W _), Nat.zero_add]
    match i, hi with
    | 0, hi => obtain rfl := Option.some.inj hi; rfl
    | 1, hi => obtain rfl := Option.some.inj hi; rfl
    | 2, hi => obtain rfl := Option.some.inj hi; rfl
    | i + 3, hi => simp [vals] at hi
theorem least3 (x y z : W64) (W : World) : Calls Tryd.prog 25 #[.slice (some ⟨W.heap.size, 0, none⟩) 3 3] (W.alloc (.cells #[.float .f64 x.val, .float .f64 y.val, .float .f64 z.val] 22)) fun e w' =>
    e = .returned (.float .f64 (Flt.least x.val [y.val, z.val])) ∧ Below W.heap.size W w' :=
  (least_c x.val [y.val, z.val] _ 3 _ (fl_new W _ x y z) (by simp)).mono fun e w' ⟨he, q, hw⟩ => ⟨he, by rw [hw]; exact below_drewN ((Below.refl _ W).alloc (Nat.le_refl _) _) q⟩
theorem sort3 (x y z : W64) (W : World) : ∃ m : W64, Flt.same (Flt.least x.val [y.val, z.val]) m.val = true ∧ Calls Tryd.prog 21 #[.slice (some ⟨W.heap.size, 0, none⟩) 3 3] (W.alloc (.cells #[.float .f64 z.val, .float .f64 y.val, .float .f64 x.val] 22)) fun e w' =>
    ∃ g c, e = .returned (.slice (some ⟨g, 0, none⟩) 3 c) ∧ w'.cell? ⟨g, 0, none⟩ = some (.float .f64 m.val) ∧ Below W.heap.size W w' := by
  obtain ⟨m, hm, hs⟩ := sorted_least x y z
  refine ⟨m, hs, (sort_small sortsF #[z, y, x] _ 3 _ (fl_new W _ z y x) (by simp) (by simp)).mono ?_⟩
  rintro e w' ⟨g, c, he, -, hh, hsz, hb⟩
  refine ⟨g, c, he, ?_, ?_⟩
  · have h := (hh 0 (by rw [hsz]; simp)).1
    rw [show (Sort.insertionSort ltF #[z, y, x] 0 (#[z, y, x] : Array W64).size)[0]! = m from hm] at h
    exact h
  · have h1 : Below W.heap.size W (W.alloc (.cells #[.float .f64 z.val, .float .f64 y.val, .float .f64 x.val] 22)) := (Below.refl _ W).alloc (Nat.le_refl _) _
    exact below_two h1 hb

set_option maxRecDepth 100000 in
set_option maxHeartbeats 4000000 in
theorem order_lt_t (x y z : Nat) (hx : x < 18446744073709551616) (hy : y < 18446744073709551616) (hz : z < 18446744073709551616) (w : World) (hT : Tz w)
    (h1 : Flt.less x y = true) (h2 : Flt.less y x = false) (h3 : Flt.same x y = false) (h4 : Flt.less y z = true) (h5 : Flt.same x 9221120237041090561 = false) :
    Calls Tryd.prog 8 #[.float .f64 x, .float .f64 y, .float .f64 z] w fun e w' => e = .returned (.bool true) ∧ Below w.heap.size w w' := by
  have H0 := hide (first_c w hT)
  have hxy := less_c x y hx hy w
  rw [h1] at hxy
  have hyx := less_c y x hy hx w
  rw [h2] at hyx
  have hsxy := same_c x y w
  rw [h3] at hsxy
  have HXY := hide hxy
  have HYX := hide hyx
  have HSXY := hide hsxy
  have hyz := less_c y z hy hz w
  rw [h4] at hyz
  have HYZ := hide hyz
  clear hyz
  have hxz := less_c x z hx hz w
  rw [show Flt.less x z = true by rw [less_iff] at h1 h4 ⊢; omega] at hxz
  have HXZ := hide hxz
  clear hxz
  have HN := hide (mathnan_c w)
  have HI := hide (mathinf_m w)
  have hsn := same_c x 9221120237041090561 w
  rw [h5] at hsn
  have HSN := hide hsn
  have rn : Flt.rank 9221120237041090561 = 18446744073709551615 := by decide
  have ri : Flt.rank 18442240474082181120 = 4503599627370495 := by decide
  have rm := rank_max x hx
  have rl := rank_inf x hx
  have hln := less_c 9221120237041090561 x (by decide) hx w
  rw [(less_not _ _).2 (by omega)] at hln
  have HLN := hide hln
  have hli := less_c x 18442240474082181120 hx (by decide) w
  rw [(less_not _ _).2 (by omega)] at hli
  have HLI := hide hli
  have hnl := less_c x 9221120237041090561 hx (by decide) w
  have h6 := rank_same x 9221120237041090561 hx (by decide)
  rw [h5, rn] at h6
  rw [(less_iff _ _).2 (by have := mt h6.1 (by decide); omega)] at hnl
  have HNL := hide hnl
  clear hnl h6
  clear hxy hyx hsxy hsn hln hli rn ri rm rl
  go_enter Tryd.func8, Tryd.ntmps8
  go_wp2_with fail
  refine H0.out.mono ?_
  rintro e' w2 ⟨rfl, rfl⟩
  go_wp2_with fail
  refine HXY.out.mono ?_
  rintro e' w2 ⟨rfl, rfl⟩
  go_wp2_with fail
  refine HYZ.out.mono ?_
  rintro e' w2 ⟨rfl, rfl⟩
  go_wp2_with fail
  refine HXZ.out.mono ?_
  rintro e' w2 ⟨rfl, rfl⟩
  go_wp2_with fail
  refine HXY.out.mono ?_
  rintro e' w2 ⟨rfl, rfl⟩
  go_wp2_with fail
  refine HYX.out.mono ?_
  rintro e' w2 ⟨rfl, rfl⟩
  go_wp2_with fail
  refine HSXY.out.mono ?_
  rintro e' w2 ⟨rfl, rfl⟩
  go_wp2_with fail
  refine HN.out.mono ?_
  rintro e' w2 ⟨rfl, rfl⟩
  go_wp2_with fail
  refine HSN.out.mono ?_
  rintro e' w2 ⟨rfl, rfl⟩
  go_wp2_with fail
  refine HNL.out.mono ?_
  rintro e' w2 ⟨rfl, rfl⟩
  go_wp2_with fail
  refine HLN.out.mono ?_
  rintro e' w2 ⟨rfl, rfl⟩
  go_wp2_with fail
  refine HI.out.mono ?_
  rintro e' w2 ⟨rfl, rfl⟩
  go_wp2_with fail
  refine HLI.out.mono ?_
  rintro e' w2 ⟨rfl, rfl⟩
  go_wp2_with fail
  refine (least3 ⟨x, hx⟩ ⟨y, hy⟩ ⟨z, hz⟩ _).mono ?_
  rintro e' w3 ⟨rfl, hb3⟩
  have HB := hide hb3
  clear hb3
  obtain ⟨m, hm, hs⟩ := sort3 ⟨x, hx⟩ ⟨y, hy⟩ ⟨z, hz⟩ w3
  obtain ⟨R, hR⟩ : ∃ R, Hid (Flt.least x [y, z] = R) := ⟨_, hide rfl⟩
  have hRl : R < 18446744073709551616 := by
    rw [← hR.out]
    rcases (least_rank x y z).1 with h | h | h <;> rw [h] <;> assumption
  have hm' : Flt.same (Flt.least x [y, z]) m.val = true := hm
  rw [hR.out] at hm' ⊢
  have HS := hide hs
  have hsm := fun w => same_c R m.val w
  rw [hm'] at hsm
  have HSM := hide hsm
  clear hm hs hm' hsm
  go_wp2_with fail
  refine HS.out.mono ?_
  rintro e' w4 ⟨g, c, rfl, hcell, hb4⟩
  have HB4 := hide hb4
  clear hb4
  go_wp2_with fail
  refine (HSM.out _).mono ?_
  rintro e' w5 ⟨rfl, rfl⟩
  go_wp2_with fail
  go_ret
  exact ⟨rfl, below_two HB.out HB4.out⟩
set_option maxRecDepth 100000 in
set_option maxHeartbeats 4000000 in
theorem order_lt_f (x y z : Nat) (hx : x < 18446744073709551616) (hy : y < 18446744073709551616) (hz : z < 18446744073709551616) (w : World) (hT : Tz w)
    (h1 : Flt.less x y = true) (h2 : Flt.less y x = false) (h3 : Flt.same x y = false) (h4 : Flt.less y z = false) (h5 : Flt.same x 9221120237041090561 = false) :
    Calls Tryd.prog 8 #[.float .f64 x, .float .f64 y, .float .f64 z] w fun e w' => e = .returned (.bool true) ∧ Below w.heap.size w w' := by
  have H0 := hide (first_c w hT)
  have hxy := less_c x y hx hy w
  rw [h1] at hxy
  have hyx := less_c y x hy hx w
  rw [h2] at hyx
  have hsxy := same_c x y w
  rw [h3] at hsxy
  have HXY := hide hxy
  have HYX := hide hyx
  have HSXY := hide hsxy
  have hyz := less_c y z hy hz w
  rw [h4] at hyz
  have HYZ := hide hyz
  clear hyz
  have HN := hide (mathnan_c w)
  have HI := hide (mathinf_m w)
  have hsn := same_c x 9221120237041090561 w
  rw [h5] at hsn
  have HSN := hide hsn
  have rn : Flt.rank 9221120237041090561 = 18446744073709551615 := by decide
  have ri : Flt.rank 18442240474082181120 = 4503599627370495 := by decide
  have rm := rank_max x hx
  have rl := rank_inf x hx
  have hln := less_c 9221120237041090561 x (by decide) hx w
  rw [(less_not _ _).2 (by omega)] at hln
  have HLN := hide hln
  have hli := less_c x 18442240474082181120 hx (by decide) w
  rw [(less_not _ _).2 (by omega)] at hli
  have HLI := hide hli
  have hnl := less_c x 9221120237041090561 hx (by decide) w
  have h6 := rank_same x 9221120237041090561 hx (by decide)
  rw [h5, rn] at h6
  rw [(less_iff _ _).2 (by have := mt h6.1 (by decide); omega)] at hnl
  have HNL := hide hnl
  clear hnl h6
  clear hxy hyx hsxy hsn hln hli rn ri rm rl
  go_enter Tryd.func8, Tryd.ntmps8
  go_wp2_with fail
  refine H0.out.mono ?_
  rintro e' w2 ⟨rfl, rfl⟩
  go_wp2_with fail
  refine HXY.out.mono ?_
  rintro e' w2 ⟨rfl, rfl⟩
  go_wp2_with fail
  refine HYZ.out.mono ?_
  rintro e' w2 ⟨rfl, rfl⟩
  go_wp2_with fail
  refine HXY.out.mono ?_
  rintro e' w2 ⟨rfl, rfl⟩
  go_wp2_with fail
  refine HYX.out.mono ?_
  rintro e' w2 ⟨rfl, rfl⟩
  go_wp2_with fail
  refine HSXY.out.mono ?_
  rintro e' w2 ⟨rfl, rfl⟩
  go_wp2_with fail
  refine HN.out.mono ?_
  rintro e' w2 ⟨rfl, rfl⟩
  go_wp2_with fail
  refine HSN.out.mono ?_
  rintro e' w2 ⟨rfl, rfl⟩
  go_wp2_with fail
  refine HNL.out.mono ?_
  rintro e' w2 ⟨rfl, rfl⟩
  go_wp2_with fail
  refine HLN.out.mono ?_
  rintro e' w2 ⟨rfl, rfl⟩
  go_wp2_with fail
  refine HI.out.mono ?_
  rintro e' w2 ⟨rfl, rfl⟩
  go_wp2_with fail
  refine HLI.out.mono ?_
  rintro e' w2 ⟨rfl, rfl⟩
  go_wp2_with fail
  refine (least3 ⟨x, hx⟩ ⟨y, hy⟩ ⟨z, hz⟩ _).mono ?_
  rintro e' w3 ⟨rfl, hb3⟩
  have HB := hide hb3
  clear hb3
  obtain ⟨m, hm, hs⟩ := sort3 ⟨x, hx⟩ ⟨y, hy⟩ ⟨z, hz⟩ w3
  obtain ⟨R, hR⟩ : ∃ R, Hid (Flt.least x [y, z] = R) := ⟨_, hide rfl⟩
  have hRl : R < 18446744073709551616 := by
    rw [← hR.out]
    rcases (least_rank x y z).1 with h | h | h <;> rw [h] <;> assumption
  have hm' : Flt.same (Flt.least x [y, z]) m.val = true := hm
  rw [hR.out] at hm' ⊢
  have HS := hide hs
  have hsm := fun w => same_c R m.val w
  rw [hm'] at hsm
  have HSM := hide hsm
  clear hm hs hm' hsm
  go_wp2_with fail
  refine HS.out.mono ?_
  rintro e' w4 ⟨g, c, rfl, hcell, hb4⟩
  have HB4 := hide hb4
  clear hb4
  go_wp2_with fail
  refine (HSM.out _).mono ?_
  rintro e' w5 ⟨rfl, rfl⟩
  go_wp2_with fail
  go_ret
  exact ⟨rfl, below_two HB.out HB4.out⟩
set_option maxRecDepth 100000 in
set_option maxHeartbeats 4000000 in
theorem order_gt_t (x y z : Nat) (hx : x < 18446744073709551616) (hy : y < 18446744073709551616) (hz : z < 18446744073709551616) (w : World) (hT : Tz w)
    (h1 : Flt.less x y = false) (h2 : Flt.less y x = true) (h3 : Flt.same x y = false) (h5 : Flt.same x 9221120237041090561 = true) :
    Calls Tryd.prog 8 #[.float .f64 x, .float .f64 y, .float .f64 z] w fun e w' => e = .returned (.bool true) ∧ Below w.heap.size w w' := by
  have H0 := hide (first_c w hT)
  have hxy := less_c x y hx hy w
  rw [h1] at hxy
  have hyx := less_c y x hy hx w
  rw [h2] at hyx
  have hsxy := same_c x y w
  rw [h3] at hsxy
  have HXY := hide hxy
  have HYX := hide hyx
  have HSXY := hide hsxy
  have HN := hide (mathnan_c w)
  have HI := hide (mathinf_m w)
  have hsn := same_c x 9221120237041090561 w
  rw [h5] at hsn
  have HSN := hide hsn
  have rn : Flt.rank 9221120237041090561 = 18446744073709551615 := by decide
  have ri : Flt.rank 18442240474082181120 = 4503599627370495 := by decide
  have rm := rank_max x hx
  have rl := rank_inf x hx
  have hln := less_c 9221120237041090561 x (by decide) hx w
  rw [(less_not _ _).2 (by omega)] at hln
  have HLN := hide hln
  have hli := less_c x 18442240474082181120 hx (by decide) w
  rw [(less_not _ _).2 (by omega)] at hli
  have HLI := hide hli
  clear hxy hyx hsxy hsn hln hli rn ri rm rl
  go_enter Tryd.func8, Tryd.ntmps8
  go_wp2_with fail
  refine H0.out.mono ?_
  rintro e' w2 ⟨rfl, rfl⟩
  go_wp2_with fail
  refine HXY.out.mono ?_
  rintro e' w2 ⟨rfl, rfl⟩
  go_wp2_with fail
  refine HXY.out.mono ?_
  rintro e' w2 ⟨rfl, rfl⟩
  go_wp2_with fail
  refine HYX.out.mono ?_
  rintro e' w2 ⟨rfl, rfl⟩
  go_wp2_with fail
  refine HSXY.out.mono ?_
  rintro e' w2 ⟨rfl, rfl⟩
  go_wp2_with fail
  refine HN.out.mono ?_
  rintro e' w2 ⟨rfl, rfl⟩
  go_wp2_with fail
  refine HSN.out.mono ?_
  rintro e' w2 ⟨rfl, rfl⟩
  go_wp2_with fail
  refine HLN.out.mono ?_
  rintro e' w2 ⟨rfl, rfl⟩
  go_wp2_with fail
  refine HI.out.mono ?_
  rintro e' w2 ⟨rfl, rfl⟩
  go_wp2_with fail
  refine HLI.out.mono ?_
  rintro e' w2 ⟨rfl, rfl⟩
  go_wp2_with fail
  refine (least3 ⟨x, hx⟩ ⟨y, hy⟩ ⟨z, hz⟩ _).mono ?_
  rintro e' w3 ⟨rfl, hb3⟩
  have HB := hide hb3
  clear hb3
  obtain ⟨m, hm, hs⟩ := sort3 ⟨x, hx⟩ ⟨y, hy⟩ ⟨z, hz⟩ w3
  obtain ⟨R, hR⟩ : ∃ R, Hid (Flt.least x [y, z] = R) := ⟨_, hide rfl⟩
  have hRl : R < 18446744073709551616 := by
    rw [← hR.out]
    rcases (least_rank x y z).1 with h | h | h <;> rw [h] <;> assumption
  have hm' : Flt.same (Flt.least x [y, z]) m.val = true := hm
  rw [hR.out] at hm' ⊢
  have HS := hide hs
  have hsm := fun w => same_c R m.val w
  rw [hm'] at hsm
  have HSM := hide hsm
  clear hm hs hm' hsm
  go_wp2_with fail
  refine HS.out.mono ?_
  rintro e' w4 ⟨g, c, rfl, hcell, hb4⟩
  have HB4 := hide hb4
  clear hb4
  go_wp2_with fail
  refine (HSM.out _).mono ?_
  rintro e' w5 ⟨rfl, rfl⟩
  go_wp2_with fail
  go_ret
  exact ⟨rfl, below_two HB.out HB4.out⟩
set_option maxRecDepth 100000 in
set_option maxHeartbeats 4000000 in
theorem order_gt_f (x y z : Nat) (hx : x < 18446744073709551616) (hy : y < 18446744073709551616) (hz : z < 18446744073709551616) (w : World) (hT : Tz w)
    (h1 : Flt.less x y = false) (h2 : Flt.less y x = true) (h3 : Flt.same x y = false) (h5 : Flt.same x 9221120237041090561 = false) :
    Calls Tryd.prog 8 #[.float .f64 x, .float .f64 y, .float .f64 z] w fun e w' => e = .returned (.bool true) ∧ Below w.heap.size w w' := by
  have H0 := hide (first_c w hT)
  have hxy := less_c x y hx hy w
  rw [h1] at hxy
  have hyx := less_c y x hy hx w
  rw [h2] at hyx
  have hsxy := same_c x y w
  rw [h3] at hsxy
  have HXY := hide hxy
  have HYX := hide hyx
  have HSXY := hide hsxy
  have HN := hide (mathnan_c w)
  have HI := hide (mathinf_m w)
  have hsn := same_c x 9221120237041090561 w
  rw [h5] at hsn
  have HSN := hide hsn
  have rn : Flt.rank 9221120237041090561 = 18446744073709551615 := by decide
  have ri : Flt.rank 18442240474082181120 = 4503599627370495 := by decide
  have rm := rank_max x hx
  have rl := rank_inf x hx
  have hln := less_c 9221120237041090561 x (by decide) hx w
  rw [(less_not _ _).2 (by omega)] at hln
  have HLN := hide hln
  have hli := less_c x 18442240474082181120 hx (by decide) w
  rw [(less_not _ _).2 (by omega)] at hli
  have HLI := hide hli
  have hnl := less_c x 9221120237041090561 hx (by decide) w
  have h6 := rank_same x 9221120237041090561 hx (by decide)
  rw [h5, rn] at h6
  rw [(less_iff _ _).2 (by have := mt h6.1 (by decide); omega)] at hnl
  have HNL := hide hnl
  clear hnl h6
  clear hxy hyx hsxy hsn hln hli rn ri rm rl
  go_enter Tryd.func8, Tryd.ntmps8
  go_wp2_with fail
  refine H0.out.mono ?_
  rintro e' w2 ⟨rfl, rfl⟩
  go_wp2_with fail
  refine HXY.out.mono ?_
  rintro e' w2 ⟨rfl, rfl⟩
  go_wp2_with fail
  refine HXY.out.mono ?_
  rintro e' w2 ⟨rfl, rfl⟩
  go_wp2_with fail
  refine HYX.out.mono ?_
  rintro e' w2 ⟨rfl, rfl⟩
  go_wp2_with fail
  refine HSXY.out.mono ?_
  rintro e' w2 ⟨rfl, rfl⟩
  go_wp2_with fail
  refine HN.out.mono ?_
  rintro e' w2 ⟨rfl, rfl⟩
  go_wp2_with fail
  refine HSN.out.mono ?_
  rintro e' w2 ⟨rfl, rfl⟩
  go_wp2_with fail
  refine HNL.out.mono ?_
  rintro e' w2 ⟨rfl, rfl⟩
  go_wp2_with fail
  refine HLN.out.mono ?_
  rintro e' w2 ⟨rfl, rfl⟩
  go_wp2_with fail
  refine HI.out.mono ?_
  rintro e' w2 ⟨rfl, rfl⟩
  go_wp2_with fail
  refine HLI.out.mono ?_
  rintro e' w2 ⟨rfl, rfl⟩
  go_wp2_with fail
  refine (least3 ⟨x, hx⟩ ⟨y, hy⟩ ⟨z, hz⟩ _).mono ?_
  rintro e' w3 ⟨rfl, hb3⟩
  have HB := hide hb3
  clear hb3
  obtain ⟨m, hm, hs⟩ := sort3 ⟨x, hx⟩ ⟨y, hy⟩ ⟨z, hz⟩ w3
  obtain ⟨R, hR⟩ : ∃ R, Hid (Flt.least x [y, z] = R) := ⟨_, hide rfl⟩
  have hRl : R < 18446744073709551616 := by
    rw [← hR.out]
    rcases (least_rank x y z).1 with h | h | h <;> rw [h] <;> assumption
  have hm' : Flt.same (Flt.least x [y, z]) m.val = true := hm
  rw [hR.out] at hm' ⊢
  have HS := hide hs
  have hsm := fun w => same_c R m.val w
  rw [hm'] at hsm
  have HSM := hide hsm
  clear hm hs hm' hsm
  go_wp2_with fail
  refine HS.out.mono ?_
  rintro e' w4 ⟨g, c, rfl, hcell, hb4⟩
  have HB4 := hide hb4
  clear hb4
  go_wp2_with fail
  refine (HSM.out _).mono ?_
  rintro e' w5 ⟨rfl, rfl⟩
  go_wp2_with fail
  go_ret
  exact ⟨rfl, below_two HB.out HB4.out⟩
set_option maxRecDepth 100000 in
set_option maxHeartbeats 4000000 in
theorem order_eq_t (x y z : Nat) (hx : x < 18446744073709551616) (hy : y < 18446744073709551616) (hz : z < 18446744073709551616) (w : World) (hT : Tz w)
    (h1 : Flt.less x y = false) (h2 : Flt.less y x = false) (h3 : Flt.same x y = true) (h5 : Flt.same x 9221120237041090561 = true) :
    Calls Tryd.prog 8 #[.float .f64 x, .float .f64 y, .float .f64 z] w fun e w' => e = .returned (.bool true) ∧ Below w.heap.size w w' := by
  have H0 := hide (first_c w hT)
  have hxy := less_c x y hx hy w
  rw [h1] at hxy
  have hyx := less_c y x hy hx w
  rw [h2] at hyx
  have hsxy := same_c x y w
  rw [h3] at hsxy
  have HXY := hide hxy
  have HYX := hide hyx
  have HSXY := hide hsxy
  have HN := hide (mathnan_c w)
  have HI := hide (mathinf_m w)
  have hsn := same_c x 9221120237041090561 w
  rw [h5] at hsn
  have HSN := hide hsn
  have rn : Flt.rank 9221120237041090561 = 18446744073709551615 := by decide
  have ri : Flt.rank 18442240474082181120 = 4503599627370495 := by decide
  have rm := rank_max x hx
  have rl := rank_inf x hx
  have hln := less_c 9221120237041090561 x (by decide) hx w
  rw [(less_not _ _).2 (by omega)] at hln
  have HLN := hide hln
  have hli := less_c x 18442240474082181120 hx (by decide) w
  rw [(less_not _ _).2 (by omega)] at hli
  have HLI := hide hli
  clear hxy hyx hsxy hsn hln hli rn ri rm rl
  go_enter Tryd.func8, Tryd.ntmps8
  go_wp2_with fail
  refine H0.out.mono ?_
  rintro e' w2 ⟨rfl, rfl⟩
  go_wp2_with fail
  refine HXY.out.mono ?_
  rintro e' w2 ⟨rfl, rfl⟩
  go_wp2_with fail
  refine HXY.out.mono ?_
  rintro e' w2 ⟨rfl, rfl⟩
  go_wp2_with fail
  refine HYX.out.mono ?_
  rintro e' w2 ⟨rfl, rfl⟩
  go_wp2_with fail
  refine HSXY.out.mono ?_
  rintro e' w2 ⟨rfl, rfl⟩
  go_wp2_with fail
  refine HN.out.mono ?_
  rintro e' w2 ⟨rfl, rfl⟩
  go_wp2_with fail
  refine HSN.out.mono ?_
  rintro e' w2 ⟨rfl, rfl⟩
  go_wp2_with fail
  refine HLN.out.mono ?_
  rintro e' w2 ⟨rfl, rfl⟩
  go_wp2_with fail
  refine HI.out.mono ?_
  rintro e' w2 ⟨rfl, rfl⟩
  go_wp2_with fail
  refine HLI.out.mono ?_
  rintro e' w2 ⟨rfl, rfl⟩
  go_wp2_with fail
  refine (least3 ⟨x, hx⟩ ⟨y, hy⟩ ⟨z, hz⟩ _).mono ?_
  rintro e' w3 ⟨rfl, hb3⟩
  have HB := hide hb3
  clear hb3
  obtain ⟨m, hm, hs⟩ := sort3 ⟨x, hx⟩ ⟨y, hy⟩ ⟨z, hz⟩ w3
  obtain ⟨R, hR⟩ : ∃ R, Hid (Flt.least x [y, z] = R) := ⟨_, hide rfl⟩
  have hRl : R < 18446744073709551616 := by
    rw [← hR.out]
    rcases (least_rank x y z).1 with h | h | h <;> rw [h] <;> assumption
  have hm' : Flt.same (Flt.least x [y, z]) m.val = true := hm
  rw [hR.out] at hm' ⊢
  have HS := hide hs
  have hsm := fun w => same_c R m.val w
  rw [hm'] at hsm
  have HSM := hide hsm
  clear hm hs hm' hsm
  go_wp2_with fail
  refine HS.out.mono ?_
  rintro e' w4 ⟨g, c, rfl, hcell, hb4⟩
  have HB4 := hide hb4
  clear hb4
  go_wp2_with fail
  refine (HSM.out _).mono ?_
  rintro e' w5 ⟨rfl, rfl⟩
  go_wp2_with fail
  go_ret
  exact ⟨rfl, below_two HB.out HB4.out⟩
set_option maxRecDepth 100000 in
set_option maxHeartbeats 4000000 in
theorem order_eq_f (x y z : Nat) (hx : x < 18446744073709551616) (hy : y < 18446744073709551616) (hz : z < 18446744073709551616) (w : World) (hT : Tz w)
    (h1 : Flt.less x y = false) (h2 : Flt.less y x = false) (h3 : Flt.same x y = true) (h5 : Flt.same x 9221120237041090561 = false) :
    Calls Tryd.prog 8 #[.float .f64 x, .float .f64 y, .float .f64 z] w fun e w' => e = .returned (.bool true) ∧ Below w.heap.size w w' := by
  have H0 := hide (first_c w hT)
  have hxy := less_c x y hx hy w
  rw [h1] at hxy
  have hyx := less_c y x hy hx w
  rw [h2] at hyx
  have hsxy := same_c x y w
  rw [h3] at hsxy
  have HXY := hide hxy
  have HYX := hide hyx
  have HSXY := hide hsxy
  have HN := hide (mathnan_c w)
  have HI := hide (mathinf_m w)
  have hsn := same_c x 9221120237041090561 w
  rw [h5] at hsn
  have HSN := hide hsn
  have rn : Flt.rank 9221120237041090561 = 18446744073709551615 := by decide
  have ri : Flt.rank 18442240474082181120 = 4503599627370495 := by decide
  have rm := rank_max x hx
  have rl := rank_inf x hx
  have hln := less_c 9221120237041090561 x (by decide) hx w
  rw [(less_not _ _).2 (by omega)] at hln
  have HLN := hide hln
  have hli := less_c x 18442240474082181120 hx (by decide) w
  rw [(less_not _ _).2 (by omega)] at hli
  have HLI := hide hli
  have hnl := less_c x 9221120237041090561 hx (by decide) w
  have h6 := rank_same x 9221120237041090561 hx (by decide)
  rw [h5, rn] at h6
  rw [(less_iff _ _).2 (by have := mt h6.1 (by decide); omega)] at hnl
  have HNL := hide hnl
  clear hnl h6
  clear hxy hyx hsxy hsn hln hli rn ri rm rl
  go_enter Tryd.func8, Tryd.ntmps8
  go_wp2_with fail
  refine H0.out.mono ?_
  rintro e' w2 ⟨rfl, rfl⟩
  go_wp2_with fail
  refine HXY.out.mono ?_
  rintro e' w2 ⟨rfl, rfl⟩
  go_wp2_with fail
  refine HXY.out.mono ?_
  rintro e' w2 ⟨rfl, rfl⟩
  go_wp2_with fail
  refine HYX.out.mono ?_
  rintro e' w2 ⟨rfl, rfl⟩
  go_wp2_with fail
  refine HSXY.out.mono ?_
  rintro e' w2 ⟨rfl, rfl⟩
  go_wp2_with fail
  refine HN.out.mono ?_
  rintro e' w2 ⟨rfl, rfl⟩
  go_wp2_with fail
  refine HSN.out.mono ?_
  rintro e' w2 ⟨rfl, rfl⟩
  go_wp2_with fail
  refine HNL.out.mono ?_
  rintro e' w2 ⟨rfl, rfl⟩
  go_wp2_with fail
  refine HLN.out.mono ?_
  rintro e' w2 ⟨rfl, rfl⟩
  go_wp2_with fail
  refine HI.out.mono ?_
  rintro e' w2 ⟨rfl, rfl⟩
  go_wp2_with fail
  refine HLI.out.mono ?_
  rintro e' w2 ⟨rfl, rfl⟩
  go_wp2_with fail
  refine (least3 ⟨x, hx⟩ ⟨y, hy⟩ ⟨z, hz⟩ _).mono ?_
  rintro e' w3 ⟨rfl, hb3⟩
  have HB := hide hb3
  clear hb3
  obtain ⟨m, hm, hs⟩ := sort3 ⟨x, hx⟩ ⟨y, hy⟩ ⟨z, hz⟩ w3
  obtain ⟨R, hR⟩ : ∃ R, Hid (Flt.least x [y, z] = R) := ⟨_, hide rfl⟩
  have hRl : R < 18446744073709551616 := by
    rw [← hR.out]
    rcases (least_rank x y z).1 with h | h | h <;> rw [h] <;> assumption
  have hm' : Flt.same (Flt.least x [y, z]) m.val = true := hm
  rw [hR.out] at hm' ⊢
  have HS := hide hs
  have hsm := fun w => same_c R m.val w
  rw [hm'] at hsm
  have HSM := hide hsm
  clear hm hs hm' hsm
  go_wp2_with fail
  refine HS.out.mono ?_
  rintro e' w4 ⟨g, c, rfl, hcell, hb4⟩
  have HB4 := hide hb4
  clear hb4
  go_wp2_with fail
  refine (HSM.out _).mono ?_
  rintro e' w5 ⟨rfl, rfl⟩
  go_wp2_with fail
  go_ret
  exact ⟨rfl, below_two HB.out HB4.out⟩
theorem order_c (x y z : Nat) (hx : x < 18446744073709551616) (hy : y < 18446744073709551616) (hz : z < 18446744073709551616) (w : World) (hT : Tz w) :
    Calls Tryd.prog 8 #[.float .f64 x, .float .f64 y, .float .f64 z] w fun e w' => e = .returned (.bool true) ∧ Below w.heap.size w w' := by
  rcases three x y hx hy with ⟨h1, h2, h3⟩ | ⟨h1, h2, h3⟩ | ⟨h1, h2, h3⟩
  · have h5 : Flt.same x 9221120237041090561 = false := by
      have h6 := rank_same x 9221120237041090561 hx (by decide)
      rw [show Flt.rank 9221120237041090561 = 18446744073709551615 by decide] at h6
      have h7 := (less_iff x y).1 h1
      have h8 := rank_max y hy
      rw [Bool.eq_false_iff, Ne, ← h6]
      omega
    cases h4 : Flt.less y z
    · exact order_lt_f x y z hx hy hz w hT h1 h2 h3 h4 h5
    · exact order_lt_t x y z hx hy hz w hT h1 h2 h3 h4 h5
  · cases h5 : Flt.same x 9221120237041090561
    · exact order_gt_f x y z hx hy hz w hT h1 h2 h3 h5
    · exact order_gt_t x y z hx hy hz w hT h1 h2 h3 h5
  · cases h5 : Flt.same x 9221120237041090561
    · exact order_eq_f x y z hx hy hz w hT h1 h2 h3 h5
    · exact order_eq_t x y z hx hy hz w hT h1 h2 h3 h5
end Go.Proofs.YteeiehaebiigfaaDoor
