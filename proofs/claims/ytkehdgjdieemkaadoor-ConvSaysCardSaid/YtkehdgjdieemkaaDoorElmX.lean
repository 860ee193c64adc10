/-
  lodgeref3.descs, walked; narrow. By an AI agent. No person has read it.
-/
import Derived.Test.YtkehdgjdieemkaaDoorCelW
import Derived.Test.YtkehdgjdieemkaaDoorShpB
namespace Go.Proofs.YtkehdgjdieemkaaDoor
open Go.RowKit

set_option maxRecDepth 100000 in
set_option maxHeartbeats 4000000 in
theorem descs_c (ds : List Dsc) (B : Option Addr) (cap : Nat) (w : World) (hR : Row w B (ds.flatMap Dsc.vals)) (hI : ∀ d ∈ ds, d.In w) (hl : ds.length ≤ 1000000) :
    Calls Tryd.prog 51 #[.slice B ds.length cap] w fun e w' => e = .returned (.int .i64 (Shp.firstbad ds : Nat)) ∧ Below w.heap.size w w' := by
  have V1 : Hid (∀ (i : Nat) (d : Dsc), ds[i]? = some d → ∀ W, Below w.heap.size w W → Calls Tryd.prog 64 #[.agg (dcells d.P d.zs.length d.cap d.u)] W fun e w' => e = .returned (.int .i64 (Shp.code d.zs)) ∧ Below W.heap.size W w') := hide fun i d hd W hb => by
    have h := (hI d (List.mem_of_getElem? hd)).below hb
    exact refvalid_c d.zs d.P d.cap d.u W h.shp (by have := h.ls; omega)
  have HR := hide hR
  obtain ⟨nd, hnd⟩ : ∃ n, Hid (ds.length = n) := ⟨_, hide rfl⟩
  obtain ⟨F, hF⟩ : ∃ n, Hid (Shp.firstbad ds = n) := ⟨_, hide rfl⟩
  rw [hF.out]
  rw [hnd.out] at hl ⊢
  clear hR hI
  go_enter Tryd.func51, Tryd.ntmps51
  go_wp2_with fail
  go_loopw [3] (fun k wr => ∃ i : Nat, i ≤ nd ∧ k = .int .i64 i ∧ Hid (Below w.heap.size w wr) ∧ Hid (∀ (j : Nat) x, j < i → ds[j]? = some x → Shp.code x.zs = 0)) (fun k _ => nd - (intOf k).toNat)
  case atStart => exact ⟨0, by omega, rfl, hide (Below.refl _ _), hide (fun j x hj => by omega)⟩
  case round =>
    obtain ⟨i, hi, rfl, HB, HK⟩ := hrel
    by_cases hlt : i < nd
    · obtain ⟨ad, d, hBad, had, hd, c0, c1⟩ := row_dsc (HR.out.below HB.out) i (by rw [hnd.out]; exact hlt)
      subst hBad
      have HV := hide (V1.out i d hd.out _ HB.out)
      have hcs := Shp.code_is d.zs
      clear had
      go_wp2_with fail
      clear c0 c1
      refine HV.out.mono ?_
      rintro e w1 ⟨rfl, hb⟩
      have HB2 := hide (HB.out.trans (hb.mono HB.out.size))
      clear HV HB hb
      by_cases hf : Shp.code d.zs = 0
      · rw [hf]
        have HFt := hide hf
        clear hcs hf
        go_wp2_with fail
        go_roundw
        case rel =>
          refine ⟨i + 1, by omega, by go_num, HB2, hide (fun j x hj hx => ?_)⟩
          rcases Nat.lt_or_ge j i with h | h
          · exact HK.out j x h hx
          · obtain rfl : j = i := by omega
            rw [hd.out] at hx
            obtain rfl := Option.some.inj hx
            exact HFt.out
        case measure => simp [intOf]; omega
      · have hR2 : F = Shp.code d.zs := by
          rw [← hF.out]
          exact Shp.first_at ds i d hd.out HK.out hf
        rw [← hR2] at hcs hf ⊢
        have hfi : ((F : Int) == 0) = false := by simp; omega
        have hfj : ((F : Int) != 0) = true := by simp; omega
        clear hR2 hcs hf hF
        go_wp2_with fail
        go_ret
        exact ⟨rfl, HB2.out⟩
    · obtain rfl : i = nd := by omega
      have hfb := Shp.first_none ds fun j x hx => HK.out j x (by have := (List.getElem?_eq_some_iff.1 hx).1; rw [hnd.out] at this; exact this) hx
      rw [hF.out] at hfb
      subst hfb
      clear HK hlt hi V1 hF
      go_wp2_with fail
      go_ret
      exact ⟨rfl, HB.out⟩
set_option maxRecDepth 100000 in
theorem in3_c (n : Int) (u : Bool) (w : World) :
    Calls Tryd.prog 65 #[.int .i64 n, .bool u] w fun e w' => e = .returned (.bool (Tens.fit u n)) ∧ w' = w := by
  unfold Tens.fit
  cases u
  · rw [if_neg (by decide)]
    by_cases h1 : -128 ≤ n
    · by_cases h2 : n ≤ 127
      · rw [decide_eq_true ⟨h1, h2⟩]
        go_enter Tryd.func65, Tryd.ntmps65
        go_wp2_with fail
        go_ret
        exact ⟨rfl, rfl⟩
      · rw [decide_eq_false (fun h => h2 h.2)]
        go_enter Tryd.func65, Tryd.ntmps65
        go_wp2_with fail
        go_ret
        exact ⟨rfl, rfl⟩
    · rw [decide_eq_false (fun h => h1 h.1)]
      go_enter Tryd.func65, Tryd.ntmps65
      go_wp2_with fail
      go_ret
      exact ⟨rfl, rfl⟩
  · rw [if_pos rfl]
    by_cases h1 : -2147483648 ≤ n
    · by_cases h2 : n ≤ 2147483647
      · rw [decide_eq_true ⟨h1, h2⟩]
        go_enter Tryd.func65, Tryd.ntmps65
        go_wp2_with fail
        go_ret
        exact ⟨rfl, rfl⟩
      · rw [decide_eq_false (fun h => h2 h.2)]
        go_enter Tryd.func65, Tryd.ntmps65
        go_wp2_with fail
        go_ret
        exact ⟨rfl, rfl⟩
    · rw [decide_eq_false (fun h => h1 h.1)]
      go_enter Tryd.func65, Tryd.ntmps65
      go_wp2_with fail
      go_ret
      exact ⟨rfl, rfl⟩
set_option maxRecDepth 100000 in
theorem rnarrow_c (n : Int) (w : World) :
    Calls Tryd.prog 52 #[.int .i64 n] w fun e w' => e = .returned (.bool (Tens.fit false n)) ∧ w' = w := by
  have H := hide (in3_c n false)
  obtain ⟨b, hb⟩ : ∃ b, Hid (Tens.fit false n = b) := ⟨_, hide rfl⟩
  rw [hb.out] at H ⊢
  clear hb
  go_enter Tryd.func52, Tryd.ntmps52
  go_wp2_with fail
  refine (H.out _).mono ?_
  rintro e w1 ⟨rfl, rfl⟩
  go_wp2_with fail
  go_ret
  exact ⟨rfl, rfl⟩
end Go.Proofs.YtkehdgjdieemkaaDoor
