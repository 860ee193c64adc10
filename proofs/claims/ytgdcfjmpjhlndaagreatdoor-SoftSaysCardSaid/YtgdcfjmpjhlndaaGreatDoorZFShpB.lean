/-
  The reference's ValidDesc and Elems, walked. By an AI agent. No person has read it.
-/
import Derived.Test.YtgdcfjmpjhlndaaGreatDoorZFShpA
namespace Go.Proofs.YtgdcfjmpjhlndaaGreatDoor
open Go.RowKit
set_option maxRecDepth 100000 in
set_option maxHeartbeats 4000000 in
theorem refvalid_c (zs : List Int) (P : Option Addr) (cap : Nat) (wide : Bool) (w : World) (hr : Ri w P zs) (hm : zs.length ≤ 9223372036854775807) :
    Calls Tryz.prog 63 #[.agg (dcells P zs.length cap wide)] w fun e w' => e = .returned (.int .i64 (Shp.code zs)) ∧ Below w.heap.size w w' := by
  obtain ⟨n, hn⟩ : ∃ n, Hid (zs.length = n) := ⟨_, hide rfl⟩
  rw [hn.out] at hm ⊢
  have hb1 := (Below.refl _ w).alloc (Nat.le_refl _) (Obj.cells (dcells P n cap wide) 24)
  have HB1 := hide hb1
  have HA := hide (hr.below hb1)
  have HC := hide (cell_of_row (w.alloc (Obj.cells (dcells P n cap wide) 24)) w.heap.size 0 _ 24 (0, 0) (heap_alloc_new w _))
  clear hb1 hr
  obtain ⟨R, hR⟩ : ∃ R, Hid (Shp.code zs = R) := ⟨_, hide rfl⟩
  rw [hR.out]
  by_cases h4 : 4 < n
  · have h4' : (4 : Int) < n := by omega
    obtain rfl : 104 = R := by
      have := hR.out
      unfold Shp.code at this
      rw [if_pos (by rw [hn.out]; exact h4)] at this
      exact this
    clear hR HC
    go_enter Tryz.func63, Tryz.ntmps63
    go_wp2_with fail
    go_ret
    exact ⟨rfl, HB1.out⟩
  · have h4' : ¬ (4 : Int) < n := by omega
    have h4n : n ≤ 4 := by omega
    have hR2 : Hid ((if zs.all Shp.okDim = false then 102 else if 16384 < Shp.prod zs then 104 else 0) = R) := by
      have := hR.out
      unfold Shp.code at this
      rw [if_neg (by rw [hn.out]; exact h4)] at this
      exact hide this
    clear hR h4
    go_enter Tryz.func63, Tryz.ntmps63
    go_wp2_with fail
    obtain ⟨w1, hw1⟩ : ∃ w1, Hid (w.alloc (Obj.cells (dcells P n cap wide) 24) = w1) := ⟨_, hide rfl⟩
    rw [hw1.out] at HB1 HA HC
    have hw1' := hw1.out
    rw [hw1']
    clear hw1 hw1'
    have cd : w1.cell? ⟨w.heap.size, 0, none⟩ = some (.slice P n cap) := HC.out
    go_loopw [3, 4] (fun p k wr => ∃ (i : Nat) (v : Int), i ≤ n ∧ k = .int .i64 i ∧ p = .int .i64 v ∧ Hid (Shp.prod (zs.take i) = v) ∧ Hid ((zs.take i).all Shp.okDim = true) ∧ wr = w1) (fun _ k _ => n - (intOf k).toNat)
    case atStart => exact ⟨0, 1, by omega, rfl, rfl, hide rfl, hide rfl, rfl⟩
    case round =>
      obtain ⟨i, v, hi, rfl, rfl, hI, hD, rfl⟩ := hrel
      have hv := Shp.prod_pos _ hD.out
      rw [hI.out, List.length_take, hn.out, Nat.min_eq_left hi] at hv
      by_cases hlt : i < n
      · obtain ⟨ad, z, rfl, ez, cz⟩ := ri_at HA.out i (by rw [hn.out]; exact hlt)
        have him : (i : Int) < n := by omega
        by_cases hz1 : z < 1
        · obtain rfl : 102 = R := by
            rw [← hR2.out, if_pos (Shp.not_all zs i z ez.out (by omega))]
          clear hR2 hv
          go_wp2_with fail
          go_ret
          exact ⟨rfl, HB1.out⟩
        · by_cases hz2 : 256 < z
          · obtain rfl : 102 = R := by
              rw [← hR2.out, if_pos (Shp.not_all zs i z ez.out (by omega))]
            clear hR2 hv
            go_wp2_with fail
            go_ret
            exact ⟨rfl, HB1.out⟩
          · have hp : Shp.prod (zs.take (i + 1)) = v * z := by
              rw [List.take_add_one, ez.out, Option.toList_some, Shp.prod_snoc, hI.out]
            have ha : (zs.take (i + 1)).all Shp.okDim = true := by
              rw [List.take_add_one, ez.out, Option.toList_some]
              exact Shp.all_snoc _ z hD.out (by omega)
            have hq := Shp.prod_pos _ ha
            rw [hp, List.length_take, hn.out, Nat.min_eq_left (by omega)] at hq
            have hq2 := Shp.pow_le (i + 1) (by omega)
            have hw : wrap64 (v * z) = v * z := by unfold wrap64; omega
            obtain ⟨t, ht⟩ : ∃ t, Hid (v * z = t) := ⟨_, hide rfl⟩
            have hwr : wrap64 (v * z) = t := hw.trans ht.out
            clear hw
            rw [ht.out] at hp
            have HP := hide hp
            have HA' := hide ha
            clear hp ha hq hq2 hv
            go_wp2_with fail
            go_roundw
            case rel => exact ⟨i + 1, t, by omega, by go_num, by rw [hwr], HP, HA', trivial⟩
            case measure => simp [intOf]; omega
      · obtain rfl : i = n := by omega
        have hall : zs.all Shp.okDim = true := by
          have := hD.out
          rwa [List.take_of_length_le (by rw [hn.out]; exact Nat.le_refl _)] at this
        have hpr : Shp.prod zs = v := by
          have := hI.out
          rwa [List.take_of_length_le (by rw [hn.out]; exact Nat.le_refl _)] at this
        by_cases hbig : 16384 < v
        · obtain rfl : 104 = R := by
            rw [← hR2.out, if_neg (by rw [hall]; decide), if_pos (by rw [hpr]; exact hbig)]
          clear hR2 hv hall hpr
          go_wp2_with fail
          go_ret
          exact ⟨rfl, HB1.out⟩
        · obtain rfl : 0 = R := by
            rw [← hR2.out, if_neg (by rw [hall]; decide), if_neg (by rw [hpr]; exact hbig)]
          clear hR2 hv hall hpr
          go_wp2_with fail
          go_ret
          exact ⟨rfl, HB1.out⟩
end Go.Proofs.YtgdcfjmpjhlndaaGreatDoor
