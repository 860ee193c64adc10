/-
  The reference's Index, walked. By an AI agent. No person has read it.
-/
import Derived.Test.YtnbjcdmiehnceaaDoorShpC
import Derived.Deep.QuietTactic
import Derived.BigQuiet
namespace Go.Proofs.YtnbjcdmiehnceaaDoor
open Go.RowKit

set_option maxRecDepth 100000 in
set_option maxHeartbeats 4000000 in
theorem refindex_c (zs ys : List Int) (P Q : Option Addr) (cap capq : Nat) (w : World) (hr : Ri w P zs) (hq : Ri w Q ys) (hm : zs.length ≤ 9223372036854775807) (hm2 : ys.length ≤ 9223372036854775807) :
    Calls Tryd.prog 32 #[.slice P zs.length cap, .slice Q ys.length capq] w fun e w' => e = .returned (.tuple #[.int .i64 ((Shp.index zs ys).getD 0), .bool (Shp.index zs ys).isSome]) ∧ Below w.heap.size w w' := by
  have HV := hide (refelems_c zs P cap w hr hm)
  have HA0 := hide hr
  have HQ0 := hide hq
  clear hr hq
  obtain ⟨n, hn⟩ : ∃ n, Hid (zs.length = n) := ⟨_, hide rfl⟩
  obtain ⟨m, hm'⟩ : ∃ m, Hid (ys.length = m) := ⟨_, hide rfl⟩
  rw [hn.out] at HV hm ⊢
  rw [hm'.out] at hm2 ⊢
  obtain ⟨O, hO⟩ : ∃ O, Hid (Shp.index zs ys = O) := ⟨_, hide rfl⟩
  rw [hO.out]
  cases hk : Shp.ok zs
  · obtain rfl : none = O := by
      rw [← hO.out, Shp.index, hk, if_neg (fun h => by cases h.1)]
    rw [(Shp.elems_zero zs).2 hk] at HV
    clear hk HA0 HQ0 hn hm' hO
    rw [Option.getD_none, Option.isSome_none]
    go_enter Tryd.func32, Tryd.ntmps32
    go_wp2_with fail
    refine HV.out.mono ?_
    rintro e w1 ⟨rfl, hb⟩
    go_wp2_with fail
    go_ret2
    exact ⟨rfl, hb⟩
  · have hne : Shp.elems zs ≠ 0 := fun h => by rw [(Shp.elems_zero zs).1 h] at hk; cases hk
    have hneb : (Shp.elems zs == 0) = false := by simpa using hne
    obtain ⟨E, hEl⟩ : ∃ E, Hid (Shp.elems zs = E) := ⟨_, hide rfl⟩
    rw [hEl.out] at HV hneb
    clear hne hEl
    by_cases hl : m = n
    · subst hl
      have hOi : Hid (Shp.idx 0 zs ys = O) := hide (by rw [← hO.out, Shp.index, if_pos ⟨hk, by rw [hn.out, hm'.out]⟩])
      have h4 : m ≤ 4 := by have := ((Shp.ok_iff zs).1 hk).1; rw [hn.out] at this; exact this
      have HK := hide hk
      clear hk hO
      go_enter Tryd.func32, Tryd.ntmps32
      go_wp2_with fail
      refine HV.out.mono ?_
      rintro e w1 ⟨rfl, hb⟩
      have HB1 := hide hb
      have HA := hide (HA0.out.below hb)
      have HQ := hide (HQ0.out.below hb)
      clear hb HV HA0 HQ0
      go_wp2_with fail
      go_loopw [6, 7] (fun p k wr => ∃ (i : Nat) (v : Int), i ≤ m ∧ k = .int .i64 i ∧ p = .int .i64 v ∧ Hid (0 ≤ v ∧ v < 256 ^ i) ∧ Hid (Shp.idx v (zs.drop i) (ys.drop i) = O) ∧ ∃ q, wr = w1.drewN q) (fun _ k _ => m - (intOf k).toNat)
      case atStart => exact ⟨0, 0, by omega, rfl, rfl, hide (by decide), hOi, 0, rfl⟩
      case round =>
        obtain ⟨i, v, hi, rfl, rfl, hV, hI, q, rfl⟩ := hrel
        have HBq := hide (below_drewN HB1.out q)
        clear hOi
        by_cases hlt : i < m
        · obtain ⟨ad, z, rfl, ez, cz⟩ := ri_at HA.out i (by rw [hn.out]; exact hlt)
          obtain ⟨bd, y, rfl, ey, cy⟩ := ri_at HQ.out i (by rw [hm'.out]; exact hlt)
          have him : (i : Int) < m := by omega
          have hst := Shp.idx_step v zs ys i z y ez.out ey.out
          rw [hI.out] at hst
          have HST := hide hst
          have HD := hide (Shp.dims zs HK.out i z ez.out)
          clear hst
          by_cases hy1 : y < 0
          · obtain rfl : none = O := by rw [HST.out, if_neg (by omega)]
            clear HST
            have hyd : decide (y < 0) = true := decide_eq_true hy1
            go_wp2_with fail
            go_quiet (fail)
            go_wp2_with fail
            go_ret2
            exact ⟨rfl, below_drewN HBq.out _⟩
          · have hyd : decide (y < 0) = false := decide_eq_false hy1
            by_cases hy2 : y ≥ z
            · obtain rfl : none = O := by rw [HST.out, if_neg (by omega)]
              clear HST
              have hyz : z ≤ y := hy2
              go_wp2_with fail
              go_quiet (fail)
              go_wp2_with fail
              go_ret2
              exact ⟨rfl, below_drewN HBq.out _⟩
            · have hh := Shp.horner v z y i hV.out.1 hV.out.2 HD.out (by omega) (by omega)
              have hst := HST.out
              rw [if_pos (by omega)] at hst
              have hq2 := Shp.pow_le (i + 1) (by omega)
              have h0 : 0 ≤ v * z := Int.mul_nonneg hV.out.1 (by have := HD.out; omega)
              have hw1 : wrap64 (v * z) = v * z := by unfold wrap64; omega
              have hw2 : wrap64 (v * z + y) = v * z + y := by unfold wrap64; omega
              obtain ⟨s, hs⟩ : ∃ s, Hid (v * z = s) := ⟨_, hide rfl⟩
              have hws : wrap64 (v * z) = s := hw1.trans hs.out
              rw [hs.out] at hw2 hh hst
              obtain ⟨t, ht⟩ : ∃ t, Hid (s + y = t) := ⟨_, hide rfl⟩
              have hwt : wrap64 (s + y) = t := hw2.trans ht.out
              rw [ht.out] at hh hst
              have HH := hide hh
              have HS := hide hst
              have hy1' : ¬ y < 0 := hy1
              have hy3 : y < z := by omega
              have hws' : IntKind.i64.wrap (v * z) = s := by rw [IntKind.wrap_i64]; have h := hws; unfold wrap64 at h; exact h
              have hwt' : IntKind.i64.wrap (s + y) = t := by rw [IntKind.wrap_i64]; have h := hwt; unfold wrap64 at h; exact h
              have hyz : ¬ z ≤ y := by omega
              have hyd2 : decide (z ≤ y) = false := decide_eq_false hyz
              clear hw1 hw2 hh hst h0 hq2 HST HD
              go_wp2_with fail
              go_quiet (fail)
              go_wp2_with fail
              go_quiet (fail)
              go_wp2_with fail
              go_roundw
              case rel => exact ⟨i + 1, t, by omega, by go_num, by simp only [hwt], HH, hide HS.out.symm, _, rfl⟩
              case measure => simp [intOf]; omega
        · obtain rfl : i = m := by omega
          have hfin : some v = O := by
            have := hI.out
            rw [List.drop_eq_nil_of_le (by rw [hn.out]; exact Nat.le_refl _), List.drop_eq_nil_of_le (by rw [hm'.out]; exact Nat.le_refl _), Shp.idx] at this
            exact this
          subst hfin
          go_wp2_with fail
          go_ret2
          exact ⟨rfl, HBq.out⟩
    · obtain rfl : none = O := by
        rw [← hO.out, Shp.index, if_neg (fun h => by rw [hn.out, hm'.out] at h; exact hl h.2)]
      have hlb : ((m : Int) == (n : Int)) = false := by simp; omega
      have hlb' : ((m : Int) != (n : Int)) = true := by simp; omega
      clear hk HA0 HQ0 hn hm' hO hl
      rw [Option.getD_none, Option.isSome_none]
      go_enter Tryd.func32, Tryd.ntmps32
      go_wp2_with fail
      refine HV.out.mono ?_
      rintro e w1 ⟨rfl, hb⟩
      go_wp2_with fail
      go_ret2
      exact ⟨rfl, hb⟩
end Go.Proofs.YtnbjcdmiehnceaaDoor
