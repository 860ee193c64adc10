/-
  shape.Index and the reference's Elems and Index, walked. By an AI agent. No person has read it.
-/
import Derived.Test.YtgdcfjmpjhlndaaGreatDoorZFShpB
namespace Go.Proofs.YtgdcfjmpjhlndaaGreatDoor
open Go.RowKit
set_option maxRecDepth 100000 in
set_option maxHeartbeats 4000000 in
theorem refelems_c (zs : List Int) (P : Option Addr) (cap : Nat) (w : World) (hr : Ri w P zs) (hm : zs.length ≤ 9223372036854775807) :
    Calls Tryz.prog 54 #[.slice P zs.length cap] w fun e w' => e = .returned (.int .i64 (Shp.elems zs)) ∧ Below w.heap.size w w' := by
  have HV := hide (refvalid_c zs P cap false w hr hm)
  have HA0 := hide hr
  clear hr
  unfold Shp.elems
  cases hk : Shp.ok zs
  · rw [if_neg (by decide)]
    have hne : ((Shp.code zs : Nat) : Int) ≠ 0 := by
      unfold Shp.ok at hk
      rw [decide_eq_false_iff_not] at hk
      omega
    have hne' : (((Shp.code zs : Nat) : Int) != 0) = true := by simpa using hne
    obtain ⟨n, hn⟩ : ∃ n, Hid (zs.length = n) := ⟨_, hide rfl⟩
    obtain ⟨c, hc⟩ : ∃ c, Hid (Shp.code zs = c) := ⟨_, hide rfl⟩
    rw [hn.out, hc.out] at HV
    rw [hc.out] at hne'
    rw [hn.out] at hm ⊢
    clear hk HA0 hn hne hc
    go_enter Tryz.func54, Tryz.ntmps54
    go_wp2_with fail
    refine HV.out.mono ?_
    rintro e w1 ⟨rfl, hb⟩
    go_wp2_with fail
    go_ret
    exact ⟨rfl, hb⟩
  · rw [if_pos rfl]
    have hc0 : Shp.code zs = 0 := by unfold Shp.ok at hk; simpa using hk
    rw [hc0] at HV
    rw [Shp.ok_iff] at hk
    obtain ⟨n, hn⟩ : ∃ n, Hid (zs.length = n) := ⟨_, hide rfl⟩
    rw [hn.out] at HV hm hk ⊢
    obtain ⟨h4n, hall, -⟩ := hk
    have HALL := hide hall
    clear hall hc0
    obtain ⟨R, hR⟩ : ∃ R, Hid (Shp.prod zs = R) := ⟨_, hide rfl⟩
    rw [hR.out]
    go_enter Tryz.func54, Tryz.ntmps54
    go_wp2_with fail
    refine HV.out.mono ?_
    rintro e w1 ⟨rfl, hb⟩
    have HB1 := hide hb
    have HA := hide (HA0.out.below hb)
    clear hb HV HA0
    go_wp2_with fail
    go_loopw [3, 4] (fun p k wr => ∃ (i : Nat) (v : Int), i ≤ n ∧ k = .int .i64 i ∧ p = .int .i64 v ∧ Hid (Shp.prod (zs.take i) = v) ∧ wr = w1) (fun _ k _ => n - (intOf k).toNat)
    case atStart => exact ⟨0, 1, by omega, rfl, rfl, hide rfl, rfl⟩
    case round =>
      obtain ⟨i, v, hi, rfl, rfl, hI, rfl⟩ := hrel
      by_cases hlt : i < n
      · obtain ⟨ad, z, rfl, ez, cz⟩ := ri_at HA.out i (by rw [hn.out]; exact hlt)
        have him : (i : Int) < n := by omega
        have hp : Shp.prod (zs.take (i + 1)) = v * z := by
          rw [List.take_add_one, ez.out, Option.toList_some, Shp.prod_snoc, hI.out]
        have ha : (zs.take (i + 1)).all Shp.okDim = true := by
          have := HALL.out
          rw [List.all_eq_true] at this ⊢
          exact fun x hx => this x (List.mem_of_mem_take hx)
        have hq := Shp.prod_pos _ ha
        rw [hp, List.length_take, hn.out, Nat.min_eq_left (by omega)] at hq
        have hq2 := Shp.pow_le (i + 1) (by omega)
        have hw : wrap64 (v * z) = v * z := by unfold wrap64; omega
        obtain ⟨t, ht⟩ : ∃ t, Hid (v * z = t) := ⟨_, hide rfl⟩
        have hwr : wrap64 (v * z) = t := hw.trans ht.out
        clear hw
        rw [ht.out] at hp
        have HP := hide hp
        clear hp ha hq hq2
        go_wp2_with fail
        go_roundw
        case rel => exact ⟨i + 1, t, by omega, by go_num, by rw [hwr], HP, trivial⟩
        case measure => simp [intOf]; omega
      · obtain rfl : i = n := by omega
        obtain rfl : v = R := by
          have := hI.out
          rw [List.take_of_length_le (by rw [hn.out]; exact Nat.le_refl _), hR.out] at this
          exact this.symm
        go_wp2_with fail
        go_ret
        exact ⟨rfl, HB1.out⟩
end Go.Proofs.YtgdcfjmpjhlndaaGreatDoor
