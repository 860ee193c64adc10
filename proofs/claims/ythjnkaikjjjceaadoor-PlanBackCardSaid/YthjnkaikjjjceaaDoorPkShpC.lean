/-
  shape.Index and the reference's Elems and Index, walked. By an AI agent. No person has read it.
-/
import Derived.Test.YthjnkaikjjjceaaDoorPkShpA
import Derived.Test.YthjnkaikjjjceaaDoorPkBasA
import Derived.Laws.BitsAllLaws
import Derived.Deep.QuietTactic
import Derived.BigQuiet
namespace Go.Proofs.YthjnkaikjjjceaaDoor
open Go.RowKit
theorem Shp.elems_zero (zs : List Int) : (Shp.elems zs = 0) ↔ Shp.ok zs = false := by
  unfold Shp.elems
  cases h : Shp.ok zs
  · simp
  · rw [Shp.ok_iff] at h
    have := (Shp.prod_pos zs h.2.1).1
    rw [if_pos rfl]
    constructor
    · intro h; omega
    · intro h; cases h
end Go.Proofs.YthjnkaikjjjceaaDoor
namespace Go.Proofs.YthjnkaikjjjceaaDoor
open Go.RowKit
set_option maxRecDepth 100000 in
set_option maxHeartbeats 4000000 in
theorem sameints_c (a b : List Int) (A B : Option Addr) (ca cb : Nat) (w : World) (ha : Ri w A a) (hb : Ri w B b) (hl : a.length ≤ 1000000) (hl2 : b.length ≤ 1000000) :
    Calls Tryd.prog 57 #[.slice A a.length ca, .slice B b.length cb] w fun e w' => e = .returned (.bool (decide (a = b))) ∧ Below w.heap.size w w' := by
  obtain ⟨n, hn⟩ : ∃ n, Hid (a.length = n) := ⟨_, hide rfl⟩
  obtain ⟨m, hm⟩ : ∃ m, Hid (b.length = m) := ⟨_, hide rfl⟩
  rw [hn.out] at hl
  rw [hm.out] at hl2
  rw [hn.out, hm.out]
  have HA := hide ha
  have HB := hide hb
  clear ha hb
  obtain ⟨r, hr⟩ : ∃ r, Hid (decide (a = b) = r) := ⟨_, hide rfl⟩
  rw [hr.out]
  by_cases hnm : n = m
  · subst hnm
    go_enter Tryd.func57, Tryd.ntmps57
    go_wp2_with fail
    go_loopw [5] (fun k wr => ∃ i : Nat, i ≤ n ∧ k = .int .i64 i ∧ Hid (∀ j, j < i → a[j]? = b[j]?) ∧ ∃ q, wr = w.drewN q) (fun k _ => n - (intOf k).toNat)
    case atStart => exact ⟨0, by omega, rfl, hide (fun j hj => by omega), 0, rfl⟩
    case round =>
      obtain ⟨i, hi, rfl, hI, q, rfl⟩ := hrel
      by_cases hlt : i < n
      · obtain ⟨ad, x, rfl, ex, cx⟩ := ri_at HA.out i (by rw [hn.out]; exact hlt)
        obtain ⟨bd, y, rfl, ey, cy⟩ := ri_at HB.out i (by rw [hm.out]; exact hlt)
        have him : (i : Int) < n := by omega
        by_cases hxy : x = y
        · have hne : ((x == y) : Bool) = true := by simpa using hxy
          have HXY := hide hxy
          clear hxy
          go_wp2_with fail
          go_quiet (fail)
          go_wp2_with fail
          go_roundw
          case rel =>
            refine ⟨i + 1, by omega, by go_num, hide (fun j hj => ?_), _, rfl⟩
            rcases Nat.lt_or_ge j i with h | h
            · exact hI.out j h
            · obtain rfl : j = i := by omega
              rw [ex.out, ey.out]
              exact congrArg some HXY.out
          case measure => simp [intOf]; omega
        · have hne : ((x == y) : Bool) = false := by simpa using hxy
          have hrf : r = false := by
            rw [← hr.out, decide_eq_false_iff_not]
            rintro rfl
            exact hxy (Option.some.inj (ex.out.symm.trans ey.out))
          subst hrf
          clear hxy
          go_wp2_with fail
          go_quiet (fail)
          go_wp2_with fail
          go_ret
          exact ⟨rfl, ⟨rfl, rfl, rfl, Nat.le_refl _, fun _ _ => rfl⟩⟩
      · obtain rfl : i = n := by omega
        have hrt : r = true := by
          rw [← hr.out, decide_eq_true_eq]
          refine List.ext_getElem? fun j => ?_
          rcases Nat.lt_or_ge j i with h | h
          · exact hI.out j h
          · rw [List.getElem?_eq_none (by rw [hn.out]; exact h), List.getElem?_eq_none (by rw [hm.out]; exact h)]
        subst hrt
        go_wp2_with fail
        go_ret
        exact ⟨rfl, ⟨rfl, rfl, rfl, Nat.le_refl _, fun _ _ => rfl⟩⟩
  · have hne : (((n : Int) == (m : Int)) : Bool) = false := by simp; omega
    have hd : decide (a = b) = false := by
      rw [decide_eq_false_iff_not]
      rintro rfl
      exact hnm (hn.out.symm.trans hm.out)
    rw [hr.out] at hd
    subst hd
    clear hnm
    go_enter Tryd.func57, Tryd.ntmps57
    go_wp2_with fail
    go_ret
    exact ⟨rfl, Below.refl _ _⟩
/-- A block whose first cells are these ints reads as them. -/
theorem Has.ri_app {w : World} {g : Nat} {t : TypeId} {zs : List Int} {rest : List Value} (h : Has w g t (i64s zs ++ rest)) (hb : ∀ z ∈ zs, (Lit.int .i64 z).wf = true) : Ri w (some ⟨g, 0, none⟩) zs :=
  ⟨hb, fun _ => ⟨_, rfl, h.lt, fun i z hi => by
    have hl := (List.getElem?_eq_some_iff.1 hi).1
    rw [Addr.add_lit, h.cell, Nat.zero_add, List.getElem?_append_left (by simpa using hl)]
    simp [hi]⟩⟩
theorem own_has {w : World} {base n : Nat} {t : TypeId} {v : Value} {zs : List Int} (h : w.ownsRow base t 1 v n (i64s zs)) (hv : v ≠ .slice none 0 0) :
    ∃ g cap rest, v = .slice (some ⟨g, 0, none⟩) n cap ∧ zs.length = n ∧ base ≤ g ∧ n ≤ cap ∧ cap ≤ 9223372036854775807 ∧ Has w g t (i64s zs ++ rest) := by
  have hl : zs.length = n := by simpa using h.1
  rcases h.2 with ⟨rfl, rfl⟩ | ⟨g, cap, cur, rfl, h2, h3, h4, h5, h6, h7⟩
  · exact absurd rfl hv
  · refine ⟨g, cap, cur.toList.drop (n * 1), rfl, hl, h2, h4, by unfold maxLen at h5; omega, ?_⟩
    unfold Has
    rw [← h7, List.take_append_drop]
    exact h3
end Go.Proofs.YthjnkaikjjjceaaDoor
namespace Go.Proofs.YthjnkaikjjjceaaDoor
open Go.RowKit
set_option maxRecDepth 100000 in
set_option maxHeartbeats 4000000 in
theorem equal_c (a b : List Int) (A B : Option Addr) (ca cb : Nat) (w : World) (ha : Ri w A a) (hb : Ri w B b) (hl : a.length ≤ 1000000) (hl2 : b.length ≤ 1000000) :
    Calls Tryd.prog 82 #[.slice A a.length ca, .slice B b.length cb] w fun e w' => e = .returned (.bool (decide (a = b))) ∧ Below w.heap.size w w' := by
  obtain ⟨n, hn⟩ : ∃ n, Hid (a.length = n) := ⟨_, hide rfl⟩
  obtain ⟨m, hm⟩ : ∃ m, Hid (b.length = m) := ⟨_, hide rfl⟩
  rw [hn.out] at hl
  rw [hm.out] at hl2
  rw [hn.out, hm.out]
  have HA := hide ha
  have HB := hide hb
  clear ha hb
  obtain ⟨r, hr⟩ : ∃ r, Hid (decide (a = b) = r) := ⟨_, hide rfl⟩
  rw [hr.out]
  by_cases hnm : n = m
  · subst hnm
    go_enter Tryd.func82, Tryd.ntmps82
    go_wp2_with fail
    go_loopw [13] (fun k wr => ∃ i : Nat, i ≤ n ∧ k = .int .i64 i ∧ Hid (∀ j, j < i → a[j]? = b[j]?) ∧ ∃ q, wr = w.drewN q) (fun k _ => n - (intOf k).toNat)
    case atStart => exact ⟨0, by omega, rfl, hide (fun j hj => by omega), 0, rfl⟩
    case round =>
      obtain ⟨i, hi, rfl, hI, q, rfl⟩ := hrel
      by_cases hlt : i < n
      · obtain ⟨ad, x, rfl, ex, cx⟩ := ri_at HA.out i (by rw [hn.out]; exact hlt)
        obtain ⟨bd, y, rfl, ey, cy⟩ := ri_at HB.out i (by rw [hm.out]; exact hlt)
        have him : (i : Int) < n := by omega
        by_cases hxy : x = y
        · have hne : ((x != y) : Bool) = false := by simpa using hxy
          have HXY := hide hxy
          clear hxy
          go_wp2_with fail
          go_quiet (fail)
          go_wp2_with fail
          go_roundw
          case rel =>
            refine ⟨i + 1, by omega, by go_num, hide (fun j hj => ?_), _, rfl⟩
            rcases Nat.lt_or_ge j i with h | h
            · exact hI.out j h
            · obtain rfl : j = i := by omega
              rw [ex.out, ey.out]
              exact congrArg some HXY.out
          case measure => simp [intOf]; omega
        · have hne : ((x != y) : Bool) = true := by simpa using hxy
          have hrf : r = false := by
            rw [← hr.out, decide_eq_false_iff_not]
            rintro rfl
            exact hxy (Option.some.inj (ex.out.symm.trans ey.out))
          subst hrf
          clear hxy
          go_wp2_with fail
          go_quiet (fail)
          go_wp2_with fail
          go_ret
          exact ⟨rfl, ⟨rfl, rfl, rfl, Nat.le_refl _, fun _ _ => rfl⟩⟩
      · obtain rfl : i = n := by omega
        have hrt : r = true := by
          rw [← hr.out, decide_eq_true_eq]
          refine List.ext_getElem? fun j => ?_
          rcases Nat.lt_or_ge j i with h | h
          · exact hI.out j h
          · rw [List.getElem?_eq_none (by rw [hn.out]; exact h), List.getElem?_eq_none (by rw [hm.out]; exact h)]
        subst hrt
        go_wp2_with fail
        go_ret
        exact ⟨rfl, ⟨rfl, rfl, rfl, Nat.le_refl _, fun _ _ => rfl⟩⟩
  · have hne : (((n : Int) != (m : Int)) : Bool) = true := by simp; omega
    have hd : decide (a = b) = false := by
      rw [decide_eq_false_iff_not]
      rintro rfl
      exact hnm (hn.out.symm.trans hm.out)
    rw [hr.out] at hd
    subst hd
    clear hnm
    go_enter Tryd.func82, Tryd.ntmps82
    go_wp2_with fail
    go_ret
    exact ⟨rfl, Below.refl _ _⟩

def Shp.size (zs : List Int) (wide : Bool) : Int := if wide = true then 4 * Shp.elems zs else Shp.elems zs
theorem Shp.size_eq (zs : List Int) (wide : Bool) : Shp.size zs wide = if wide = true then 4 * Shp.elems zs else Shp.elems zs := rfl
/-- The block in which a Desc lies. -/
theorem desc_row (w : World) (P : Option Addr) (n cap : Nat) (wide : Bool) : Has (w.alloc (Obj.cells (dcells P n cap wide) 59)) w.heap.size 59 [.slice P n cap, .bool wide] := Has.new w _ _
theorem worlddesc_c (P : Option Addr) (n cap : Nat) (wide : Bool) (w : World) :
    Calls Tryd.prog 25 #[.agg (dcells P n cap wide)] w fun e w' => e = .returned (.bool (decide (n ≤ 8))) ∧ Below w.heap.size w w' := by
  have hb1 := (Below.refl _ w).alloc (Nat.le_refl _) (Obj.cells (dcells P n cap wide) 59)
  have hd : decide ((n : Int) ≤ 8) = decide (n ≤ 8) := by rw [decide_eq_decide]; omega
  go_enter Tryd.func25, Tryd.ntmps25
  go_wp2_with fail
  go_ret
  exact ⟨by first | rw [hd] | rfl, hb1⟩
set_option maxRecDepth 100000 in
set_option maxHeartbeats 4000000 in
theorem bytes_c (zs : List Int) (P : Option Addr) (cap : Nat) (wide : Bool) (am ar : Addr) (w : World) (hr : Ri w P zs) (hm : zs.length ≤ 9223372036854775807) (hE : E2 w am ar) :
    Calls Tryd.prog 80 #[.agg (dcells P zs.length cap wide)] w fun e w' => e = .returned (.int .i64 (Shp.size zs wide)) ∧ Below w.heap.size w w' := by
  have hb1 := (Below.refl _ w).alloc (Nat.le_refl _) (Obj.cells (dcells P zs.length cap wide) 59)
  have HV := hide (elems_c zs P cap am ar _ (hr.below hb1) hm (hE.below hb1))
  have HB1 := hide hb1
  clear hr hb1 hE
  have hEb := Shp.elems_le zs
  rw [Shp.size_eq]
  obtain ⟨E, hE⟩ : ∃ E, Hid (Shp.elems zs = E) := ⟨_, hide rfl⟩
  rw [hE.out] at HV hEb ⊢
  obtain ⟨n, hn⟩ : ∃ n, Hid (zs.length = n) := ⟨_, hide rfl⟩
  rw [hn.out] at HV HB1 ⊢
  clear hn hE hm
  obtain ⟨t, ht⟩ : ∃ t, Hid (4 * E = t) := ⟨_, hide rfl⟩
  have hw : wrap64 (4 * E) = t := by rw [← ht.out]; unfold wrap64; omega
  have hw' : IntKind.i64.wrap (4 * E) = t := by rw [IntKind.wrap_i64]; have h := hw; unfold wrap64 at h; exact h
  rw [ht.out]
  cases wide
  · rw [if_neg (by decide)]
    go_enter Tryd.func80, Tryd.ntmps80
    go_wp2_with fail
    refine HV.out.mono ?_
    rintro e w1 ⟨rfl, hb⟩
    have hfin := HB1.out.trans (hb.mono HB1.out.size)
    clear hb
    go_wp2_with fail
    go_ret
    exact ⟨rfl, hfin⟩
  · rw [if_pos rfl]
    go_enter Tryd.func80, Tryd.ntmps80
    go_wp2_with fail
    refine HV.out.mono ?_
    rintro e w1 ⟨rfl, hb⟩
    have hfin := HB1.out.trans (hb.mono HB1.out.size)
    clear hb
    go_wp2_with fail
    go_ret
    exact ⟨by first | rw [hw] | rfl, hfin⟩
set_option maxRecDepth 100000 in
set_option maxHeartbeats 4000000 in
theorem same_c (a b : List Int) (A B : Option Addr) (ca cb : Nat) (u v : Bool) (w : World) (ha : Ri w A a) (hb : Ri w B b) (hl : a.length ≤ 1000000) (hl2 : b.length ≤ 1000000) :
    Calls Tryd.prog 49 #[.agg (dcells A a.length ca u), .agg (dcells B b.length cb v)] w fun e w' => e = .returned (.bool (decide (a = b) && (u == v))) ∧ Below w.heap.size w w' := by
  have hb1 := ((Below.refl _ w).alloc (Nat.le_refl _) (Obj.cells (dcells A a.length ca u) 59)).alloc (by simp) (Obj.cells (dcells B b.length cb v) 59)
  have HV := hide (equal_c a b A B ca cb _ (ha.below hb1) (hb.below hb1) hl hl2)
  have HB1 := hide hb1
  clear ha hb hb1
  obtain ⟨r, hr⟩ : ∃ r, Hid (decide (a = b) = r) := ⟨_, hide rfl⟩
  rw [hr.out] at HV ⊢
  obtain ⟨n, hn⟩ : ∃ n, Hid (a.length = n) := ⟨_, hide rfl⟩
  obtain ⟨m, hm⟩ : ∃ m, Hid (b.length = m) := ⟨_, hide rfl⟩
  rw [hn.out, hm.out] at HV HB1 ⊢
  clear hn hm hl hl2 hr
  by_cases huv : u = v
  · subst huv
    have e1 : (u == u) = true := by simp
    rw [e1, Bool.and_true]
    go_enter Tryd.func49, Tryd.ntmps49
    go_wp2_with fail
    refine HV.out.mono ?_
    rintro e w1 ⟨rfl, hb⟩
    have hfin := HB1.out.trans (hb.mono HB1.out.size)
    clear hb
    go_wp2_with fail
    go_ret
    exact ⟨rfl, hfin⟩
  · have e1 : (u == v) = false := by simpa using huv
    rw [e1, Bool.and_false]
    go_enter Tryd.func49, Tryd.ntmps49
    go_wp2_with fail
    go_ret
    exact ⟨rfl, HB1.out⟩
end Go.Proofs.YthjnkaikjjjceaaDoor
