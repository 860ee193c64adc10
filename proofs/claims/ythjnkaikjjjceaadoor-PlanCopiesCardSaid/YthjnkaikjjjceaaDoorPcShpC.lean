/-
  shape.Index and the reference's Elems and Index, walked. By an AI agent. No person has read it.
-/
import Derived.Test.YthjnkaikjjjceaaDoorPcShpA
import Derived.Test.YthjnkaikjjjceaaDoorPcBasB
import Derived.Laws.BitsAllLaws
namespace Go.Proofs.YthjnkaikjjjceaaDoor
open Go.RowKit
theorem Shp.elems_zero (zs : List Int) : (Shp.elems zs = 0) ↔ Shp.ok zs = false := by
  unfold Shp.elems
  cases h : Shp.ok zs
  · simp
  · rw [Shp.ok_iff] at h
    have := (Shp.prod_pos zs h.2.1).1
    rw [if_pos rfl]
    constructor
    · intro h; omega
    · intro h; cases h
end Go.Proofs.YthjnkaikjjjceaaDoor
namespace Go.Proofs.YthjnkaikjjjceaaDoor
open Go.RowKit
set_option maxRecDepth 100000 in
set_option maxHeartbeats 4000000 in
theorem sameints_c (a b : List Int) (A B : Option Addr) (ca cb : Nat) (w : World) (ha : Ri w A a) (hb : Ri w B b) (hl : a.length ≤ 1000000) (hl2 : b.length ≤ 1000000) :
    Calls Tryd.prog 57 #[.slice A a.length ca, .slice B b.length cb] w fun e w' => e = .returned (.bool (decide (a = b))) ∧ Below w.heap.size w w' := by
  obtain ⟨n, hn⟩ : ∃ n, Hid (a.length = n) := ⟨_, hide rfl⟩
  obtain ⟨m, hm⟩ : ∃ m, Hid (b.length = m) := ⟨_, hide rfl⟩
  rw [hn.out] at hl
  rw [hm.out] at hl2
  rw [hn.out, hm.out]
  have HA := hide ha
  have HB := hide hb
  clear ha hb
  obtain ⟨r, hr⟩ : ∃ r, Hid (decide (a = b) = r) := ⟨_, hide rfl⟩
  rw [hr.out]
  by_cases hnm : n = m
  · subst hnm
    go_enter Tryd.func57, Tryd.ntmps57
    go_wp2_with fail
    go_loopw [5] (fun k wr => ∃ i : Nat, i ≤ n ∧ k = .int .i64 i ∧ Hid (∀ j, j < i → a[j]? = b[j]?) ∧ ∃ q, wr = w.drewN q) (fun k _ => n - (intOf k).toNat)
    case atStart => exact ⟨0, by omega, rfl, hide (fun j hj => by omega), 0, rfl⟩
    case round =>
      obtain ⟨i, hi, rfl, hI, q, rfl⟩ := hrel
      by_cases hlt : i < n
      · obtain ⟨ad, x, rfl, ex, cx⟩ := ri_at HA.out i (by rw [hn.out]; exact hlt)
        obtain ⟨bd, y, rfl, ey, cy⟩ := ri_at HB.out i (by rw [hm.out]; exact hlt)
        have him : (i : Int) < n := by omega
        by_cases hxy : x = y
        · have hne : ((x == y) : Bool) = true := by simpa using hxy
          have HXY := hide hxy
          clear hxy
          go_wp2_with fail
          go_quiet (fail)
          go_wp2_with fail
          go_roundw
          case rel =>
            refine ⟨i + 1, by omega, by go_num, hide (fun j hj => ?_), _, rfl⟩
            rcases Nat.lt_or_ge j i with h | h
            · exact hI.out j h
            · obtain rfl : j = i := by omega
              rw [ex.out, ey.out]
              exact congrArg some HXY.out
          case measure => simp [intOf]; omega
        · have hne : ((x == y) : Bool) = false := by simpa using hxy
          have hrf : r = false := by
            rw [← hr.out, decide_eq_false_iff_not]
            rintro rfl
            exact hxy (Option.some.inj (ex.out.symm.trans ey.out))
          subst hrf
          clear hxy
          go_wp2_with fail
          go_quiet (fail)
          go_wp2_with fail
          go_ret
          exact ⟨rfl, ⟨rfl, rfl, rfl, Nat.le_refl _, fun _ _ => rfl⟩⟩
      · obtain rfl : i = n := by omega
        have hrt : r = true := by
          rw [← hr.out, decide_eq_true_eq]
          refine List.ext_getElem? fun j => ?_
          rcases Nat.lt_or_ge j i with h | h
          · exact hI.out j h
          · rw [List.getElem?_eq_none (by rw [hn.out]; exact h), List.getElem?_eq_none (by rw [hm.out]; exact h)]
        subst hrt
        go_wp2_with fail
        go_ret
        exact ⟨rfl, ⟨rfl, rfl, rfl, Nat.le_refl _, fun _ _ => rfl⟩⟩
  · have hne : (((n : Int) == (m : Int)) : Bool) = false := by simp; omega
    have hd : decide (a = b) = false := by
      rw [decide_eq_false_iff_not]
      rintro rfl
      exact hnm (hn.out.symm.trans hm.out)
    rw [hr.out] at hd
    subst hd
    clear hnm
    go_enter Tryd.func57, Tryd.ntmps57
    go_wp2_with fail
    go_ret
    exact ⟨rfl, Below.refl _ _⟩
/-- A block whose first cells are these ints reads as them. -/
theorem Has.ri_app {w : World} {g : Nat} {t : TypeId} {zs : List Int} {rest : List Value} (h : Has w g t (i64s zs ++ rest)) (hb : ∀ z ∈ zs, (Lit.int .i64 z).wf = true) : Ri w (some ⟨g, 0, none⟩) zs :=
  ⟨hb, fun _ => ⟨_, rfl, h.lt, fun i z hi => by
    have hl := (List.getElem?_eq_some_iff.1 hi).1
    rw [Addr.add_lit, h.cell, Nat.zero_add, List.getElem?_append_left (by simpa using hl)]
    simp [hi]⟩⟩
theorem own_has {w : World} {base n : Nat} {t : TypeId} {v : Value} {zs : List Int} (h : w.ownsRow base t 1 v n (i64s zs)) (hv : v ≠ .slice none 0 0) :
    ∃ g cap rest, v = .slice (some ⟨g, 0, none⟩) n cap ∧ zs.length = n ∧ base ≤ g ∧ n ≤ cap ∧ cap ≤ 9223372036854775807 ∧ Has w g t (i64s zs ++ rest) := by
  have hl : zs.length = n := by simpa using h.1
  rcases h.2 with ⟨rfl, rfl⟩ | ⟨g, cap, cur, rfl, h2, h3, h4, h5, h6, h7⟩
  · exact absurd rfl hv
  · refine ⟨g, cap, cur.toList.drop (n * 1), rfl, hl, h2, h4, by unfold maxLen at h5; omega, ?_⟩
    unfold Has
    rw [← h7, List.take_append_drop]
    exact h3
end Go.Proofs.YthjnkaikjjjceaaDoor
