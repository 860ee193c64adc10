/-
  lodgeref.SameBytes, walked. By an AI agent. No person has read it.
-/
import Derived.Test.YtemaaipgjghlaaaDoorBasB
import Derived.Laws.BitsAllLaws
namespace Go.Proofs.YtemaaipgjghlaaaDoor
open Go.RowKit

set_option maxRecDepth 100000 in
set_option maxHeartbeats 4000000 in
theorem samebytes_c (a b : List Nat) (A B : Option Addr) (ca cb : Nat) (w : World) (ha : Rb w A a) (hb : Rb w B b) (hl : a.length ≤ 1000000) (hl2 : b.length ≤ 1000000) :
    Calls Tryd.prog 19 #[.slice A a.length ca, .slice B b.length cb] w fun e w' => e = .returned (.bool (decide (a = b))) ∧ Below w.heap.size w w' := by
  obtain ⟨n, hn⟩ : ∃ n, Hid (a.length = n) := ⟨_, hide rfl⟩
  obtain ⟨m, hm⟩ : ∃ m, Hid (b.length = m) := ⟨_, hide rfl⟩
  rw [hn.out] at hl
  rw [hm.out] at hl2
  rw [hn.out, hm.out]
  have HA := hide ha
  have HB := hide hb
  clear ha hb
  obtain ⟨r, hr⟩ : ∃ r, Hid (decide (a = b) = r) := ⟨_, hide rfl⟩
  rw [hr.out]
  by_cases hnm : n = m
  · subst hnm
    go_enter Tryd.func19, Tryd.ntmps19
    go_wp2_with fail
    go_loopw [5] (fun k wr => ∃ i : Nat, i ≤ n ∧ k = .int .i64 i ∧ Hid (∀ j, j < i → a[j]? = b[j]?) ∧ ∃ q, wr = w.drewN q) (fun k _ => n - (intOf k).toNat)
    case atStart => exact ⟨0, by omega, rfl, hide (fun j hj => by omega), 0, rfl⟩
    case round =>
      obtain ⟨i, hi, rfl, hI, q, rfl⟩ := hrel
      by_cases hlt : i < n
      · obtain ⟨ad, x, rfl, ex, lx, cx⟩ := rb_at HA.out i (by rw [hn.out]; exact hlt)
        obtain ⟨bd, y, rfl, ey, ly, cy⟩ := rb_at HB.out i (by rw [hm.out]; exact hlt)
        have him : (i : Int) < n := by omega
        by_cases hxy : x = y
        · have hne : (((x : Int) == (y : Int)) : Bool) = true := by simp; omega
          have HXY := hide hxy
          clear hxy
          go_wp2_with fail
          go_quiet (fail)
          go_wp2_with fail
          go_roundw
          case rel =>
            refine ⟨i + 1, by omega, by go_num, hide (fun j hj => ?_), _, rfl⟩
            rcases Nat.lt_or_ge j i with h | h
            · exact hI.out j h
            · obtain rfl : j = i := by omega
              rw [ex.out, ey.out]
              exact congrArg some HXY.out
          case measure => simp [intOf]; omega
        · have hne : (((x : Int) == (y : Int)) : Bool) = false := by simp; omega
          have hrf : r = false := by
            rw [← hr.out, decide_eq_false_iff_not]
            rintro rfl
            exact hxy (Option.some.inj (ex.out.symm.trans ey.out))
          subst hrf
          clear hxy
          go_wp2_with fail
          go_quiet (fail)
          go_wp2_with fail
          go_ret
          exact ⟨rfl, ⟨rfl, rfl, rfl, Nat.le_refl _, fun _ _ => rfl⟩⟩
      · obtain rfl : i = n := by omega
        have hrt : r = true := by
          rw [← hr.out, decide_eq_true_eq]
          refine List.ext_getElem? fun j => ?_
          rcases Nat.lt_or_ge j i with h | h
          · exact hI.out j h
          · rw [List.getElem?_eq_none (by rw [hn.out]; exact h), List.getElem?_eq_none (by rw [hm.out]; exact h)]
        subst hrt
        go_wp2_with fail
        go_ret
        exact ⟨rfl, ⟨rfl, rfl, rfl, Nat.le_refl _, fun _ _ => rfl⟩⟩
  · have hne : (((n : Int) == (m : Int)) : Bool) = false := by simp; omega
    have hd : decide (a = b) = false := by
      rw [decide_eq_false_iff_not]
      rintro rfl
      exact hnm (hn.out.symm.trans hm.out)
    rw [hr.out] at hd
    subst hd
    clear hnm
    go_enter Tryd.func19, Tryd.ntmps19
    go_wp2_with fail
    go_ret
    exact ⟨rfl, Below.refl _ _⟩
end Go.Proofs.YtemaaipgjghlaaaDoor
