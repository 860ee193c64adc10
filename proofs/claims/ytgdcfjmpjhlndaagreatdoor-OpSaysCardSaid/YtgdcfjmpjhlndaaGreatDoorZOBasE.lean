/-
  lodgeref.SameInts and Ints, walked. By an AI agent. No person has read it.
-/
import Derived.Test.YtgdcfjmpjhlndaaGreatDoorZOBasA
import Derived.Laws.BitsAllLaws
namespace Go.Proofs.YtgdcfjmpjhlndaaGreatDoor
open Go.RowKit
set_option maxRecDepth 100000 in
set_option maxHeartbeats 4000000 in
theorem sameints_c (a b : List Int) (A B : Option Addr) (ca cb : Nat) (w : World) (ha : Ri w A a) (hb : Ri w B b) (hl : a.length ≤ 1000000) (hl2 : b.length ≤ 1000000) :
  Calls Tryz.prog 34 #[.slice A a.length ca, .slice B b.length cb] w fun e w' => e = .returned (.bool (decide (a = b))) ∧ Below w.heap.size w w' := by
 obtain ⟨n, hn⟩ : ∃ n, Hid (a.length = n) := ⟨_, hide rfl⟩
 obtain ⟨m, hm⟩ : ∃ m, Hid (b.length = m) := ⟨_, hide rfl⟩
 rw [hn.out] at hl
 rw [hm.out] at hl2
 rw [hn.out, hm.out]
 have HA := hide ha
 have HB := hide hb
 clear ha hb
 obtain ⟨r, hr⟩ : ∃ r, Hid (decide (a = b) = r) := ⟨_, hide rfl⟩
 rw [hr.out]
 by_cases hnm : n = m
 ·subst hnm
  go_enter Tryz.func34, Tryz.ntmps34
  go_wp2_with fail
  go_loopw [5] (fun k wr => ∃ i : Nat, i ≤ n ∧ k = .int .i64 i ∧ Hid (∀ j, j < i → a[j]? = b[j]?) ∧ ∃ q, wr = w.drewN q) (fun k _ => n - (intOf k).toNat)
  case atStart => exact ⟨0, by omega, rfl, hide (fun j hj => by omega), 0, rfl⟩
  case round =>
   obtain ⟨i, hi, rfl, hI, q, rfl⟩ := hrel
   by_cases hlt : i < n
   ·obtain ⟨ad, x, rfl, ex, cx⟩ := ri_at HA.out i (by rw [hn.out]; exact hlt)
    obtain ⟨bd, y, rfl, ey, cy⟩ := ri_at HB.out i (by rw [hm.out]; exact hlt)
    have him : (i : Int) < n := by omega
    by_cases hxy : x = y
    ·have hne : ((x == y) : Bool) = true := by simpa using hxy
     have HXY := hide hxy
     clear hxy
     go_wp2_with fail
     go_quiet (fail)
     go_wp2_with fail
     go_roundw
     case rel =>
      refine ⟨i + 1, by omega, by go_num, hide (fun j hj => ?_), _, rfl⟩
      rcases Nat.lt_or_ge j i with h | h
      ·exact hI.out j h
      ·obtain rfl : j = i := by omega
       rw [ex.out, ey.out]
       exact congrArg some HXY.out
     case measure => simp [intOf]; omega
    ·have hne : ((x == y) : Bool) = false := by simpa using hxy
     have hrf : r = false := by
      rw [← hr.out, decide_eq_false_iff_not]
      rintro rfl
      exact hxy (Option.some.inj (ex.out.symm.trans ey.out))
     subst hrf
     clear hxy
     go_wp2_with fail
     go_quiet (fail)
     go_wp2_with fail
     go_ret
     exact ⟨rfl, ⟨rfl, rfl, rfl, Nat.le_refl _, fun _ _ => rfl⟩⟩
   ·obtain rfl : i = n := by omega
    have hrt : r = true := by
     rw [← hr.out, decide_eq_true_eq]
     refine List.ext_getElem? fun j => ?_
     rcases Nat.lt_or_ge j i with h | h
     ·exact hI.out j h
     ·rw [List.getElem?_eq_none (by rw [hn.out]; exact h), List.getElem?_eq_none (by rw [hm.out]; exact h)]
    subst hrt
    go_wp2_with fail
    go_ret
    exact ⟨rfl, ⟨rfl, rfl, rfl, Nat.le_refl _, fun _ _ => rfl⟩⟩
 ·have hne : (((n : Int) == (m : Int)) : Bool) = false := by simp; omega
  have hd : decide (a = b) = false := by
   rw [decide_eq_false_iff_not]
   rintro rfl
   exact hnm (hn.out.symm.trans hm.out)
  rw [hr.out] at hd
  subst hd
  clear hnm
  go_enter Tryz.func34, Tryz.ntmps34
  go_wp2_with fail
  go_ret
  exact ⟨rfl, Below.refl _ _⟩
theorem Has.ri_app {w : World} {g : Nat} {t : TypeId} {zs : List Int} {rest : List Value} (h : Has w g t (i64s zs ++ rest)) (hb : ∀ z ∈ zs, (Lit.int .i64 z).wf = true) : Ri w (some ⟨g, 0, none⟩) zs :=
 ⟨hb, fun _ => ⟨_, rfl, h.lt, fun i z hi => by
  have hl := (List.getElem?_eq_some_iff.1 hi).1
  rw [Addr.add_lit, h.cell, Nat.zero_add, List.getElem?_append_left (by simpa using hl)]
  simp [hi]⟩⟩
theorem own_has {w : World} {base n : Nat} {t : TypeId} {v : Value} {zs : List Int} (h : w.ownsRow base t 1 v n (i64s zs)) (hv : v ≠ .slice none 0 0) :
  ∃ g cap rest, v = .slice (some ⟨g, 0, none⟩) n cap ∧ zs.length = n ∧ base ≤ g ∧ n ≤ cap ∧ cap ≤ 9223372036854775807 ∧ Has w g t (i64s zs ++ rest) := by
 have hl : zs.length = n := by simpa using h.1
 rcases h.2 with ⟨rfl, rfl⟩ | ⟨g, cap, cur, rfl, h2, h3, h4, h5, h6, h7⟩
 ·exact absurd rfl hv
 ·refine ⟨g, cap, cur.toList.drop (n * 1), rfl, hl, h2, h4, by unfold maxLen at h5; omega, ?_⟩
  unfold Has
  rw [← h7, List.take_append_drop]
  exact h3
set_option maxRecDepth 100000 in
set_option maxHeartbeats 4000000 in
theorem refints_c (zs : List Int) (P : Option Addr) (capp : Nat) (w : World) (hr : Ri w P zs) (hl : zs.length ≤ 1000000) :
  Calls Tryz.prog 70 #[.slice P zs.length capp] w fun e w' => (∃ g cap rest, e = .returned (.slice (some ⟨g, 0, none⟩) zs.length cap) ∧ w.heap.size ≤ g ∧ zs.length ≤ cap ∧ cap ≤ 9223372036854775807 ∧ Has w' g 3 (i64s zs ++ rest)) ∧ Below w.heap.size w w' := by
 obtain ⟨n, hn⟩ : ∃ n, Hid (zs.length = n) := ⟨_, hide rfl⟩
 rw [hn.out] at hl ⊢
 have HA := hide hr
 clear hr
 obtain ⟨i0, hi0, hz0, hz1, hz2⟩ := i64info
 have HI0 := hide hi0
 have HZ0 := hide hz0
 have HZ1 := hide hz1
 have HZ2 := hide hz2
 have HU := hide uis
 obtain ⟨Z, hZs, hmk⟩ : ∃ Z : Array Value, Hid (Z.size = n) ∧ ∀ w : World, (Instr.makeSlice 22 (.int .i64 0) (.int .i64 n)).run Tryz.prog w = .ok (.slice (some ⟨w.heap.size, 0, none⟩) 0 n) (w.alloc (.cells Z 3)) := by
  refine ⟨madeCells (Value.int .i64 0).cells n, hide (by rw [size_madeCells]), fun w => ?_⟩
  have h := run_make (P := Tryz.prog) w 22 3 i0 (.int .i64 0) uis hi0 hz0 .i64 .i64 0 (n : Int) (by omega) (by omega) (by rw [hz2]; omega) (by omega)
  rw [hz1, Int.toNat_natCast, Nat.mul_one] at h
  exact h
 clear hi0 hz0 hz1 hz2
 have HO0 : Hid ((w.alloc (.cells Z 3)).ownsRow w.heap.size 3 1 (.slice (some ⟨w.heap.size, 0, none⟩) 0 n) 0 (i64s [])) := hide (by
  refine ⟨by simp, .inr ⟨_, n, Z, rfl, Nat.le_refl _, heap_alloc_new w _, by omega, by unfold maxLen; omega, by rw [hZs.out, Nat.mul_one], by simp⟩⟩)
 have HB0 := hide ((Below.refl _ w).alloc (Nat.le_refl _) (.cells Z 3))
 go_enter Tryz.func70, Tryz.ntmps70
 go_wp2_with fail
 go_loopw [3, 4] (fun v k wr => ∃ (i : Nat) (u : Value), u = v ∧ i ≤ n ∧ k = .int .i64 i ∧ Hid (wr.ownsRow w.heap.size 3 1 v i (i64s (zs.take i))) ∧ Hid (v ≠ .slice none 0 0) ∧ Hid (Below w.heap.size w wr)) (fun _ k _ => n - (intOf k).toNat)
 case atStart => exact ⟨0, _, rfl, by omega, rfl, HO0, hide (by intro h; cases h), HB0⟩
 case round =>
  obtain ⟨i, v, rfl, hi, rfl, HO, HN, HB⟩ := hrel
  clear HO0 HB0
  by_cases hlt : i < n
  ·obtain ⟨ad, z, rfl, ez, cz⟩ := ri_at (HA.out.below HB.out) i (by rw [hn.out]; exact hlt)
   have him : (i : Int) < n := by omega
   have hown2 := hide (HO.out.alloc (.cells #[.int .i64 z] 3))
   have hsz : Hid (w.heap.size ≤ (wr.alloc (.cells #[.int .i64 z] 3)).heap.size) := hide (by have := HB.out.size; simp; omega)
   have hb1 : Hid (i + 1 ≤ maxLen) := hide (by unfold maxLen; omega)
   have hb2 : Hid ((i + 1) * 8 ≤ 140737488355328) := hide (by omega)
   have hnw := hide (new_cells wr 3 [.int .i64 z])
   have h1w : Hid (∀ u ∈ [Value.int .i64 z], u.oneCell' = true) := hide (by
    intro u hu
    simp at hu
    subst hu
    rfl)
   go_wp2_with (at_builtin; refine wpList_append_own _ rfl _ _ 22 rfl w.heap.size 3 i0 (.int .i64 0) 1 8 HU.out HI0.out HZ0.out HZ1.out HZ2.out rfl (by decide) v i _ rfl hown2.out ⟨wr.heap.size, 0, none⟩ 1 1 [.int .i64 z] rfl rfl hnw.out h1w.out hb1.out hb2.out hsz.out ?_)
   intro v' w' hown' hgrow hnil
   have HB' := hide (below_row HB.out HO.out hgrow)
   have HO' := hide hown'
   have HN' : Hid (v' ≠ .slice none 0 0) := hide fun h => hnil h
   clear hown' hgrow hnil
   go_wp2_with fail
   go_roundw
   case rel =>
    refine ⟨i + 1, _, rfl, by omega, by go_num, ?_, HN', HB'⟩
    rw [List.take_add_one, ez.out, Option.toList_some]
    unfold i64s
    rw [List.map_append, List.map_take]
    exact HO'
   case measure => simp [intOf]; omega
  ·obtain rfl : i = n := by omega
   have h := HO.out
   rw [List.take_of_length_le (by rw [hn.out]; exact Nat.le_refl _)] at h
   obtain ⟨g, cap, rest, rfl, -, h2, h3, h4, h5⟩ := own_has h HN.out
   clear h
   go_wp2_with fail
   go_ret
   exact ⟨⟨g, cap, rest, rfl, h2, h3, h4, h5⟩, HB.out⟩
end Go.Proofs.YtgdcfjmpjhlndaaGreatDoor
