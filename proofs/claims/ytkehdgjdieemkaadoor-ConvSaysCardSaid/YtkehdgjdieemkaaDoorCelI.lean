/-
  lodgeref.Ints: a copy of the call's own, that may be appended to. By an AI agent. No person has read it.
-/
import Derived.Test.YtkehdgjdieemkaaDoorTenX
namespace Go.Proofs.YtkehdgjdieemkaaDoor
open Go.RowKit

set_option maxRecDepth 100000 in
set_option maxHeartbeats 4000000 in
theorem refints_o (zs : List Int) (P : Option Addr) (capp : Nat) (w : World) (hr : Ri w P zs) (hl : zs.length ≤ 1000000) :
    Calls Tryd.prog 28 #[.slice P zs.length capp] w fun e w' => (∃ v, e = .returned v ∧ w'.ownsRow w.heap.size 3 1 v zs.length (i64s zs) ∧ v ≠ .slice none 0 0) ∧ Below w.heap.size w w' := by
  obtain ⟨n, hn⟩ : ∃ n, Hid (zs.length = n) := ⟨_, hide rfl⟩
  rw [hn.out] at hl ⊢
  have HA := hide hr
  clear hr
  obtain ⟨i0, hi0, hz0, hz1, hz2⟩ := i64info
  have HI0 := hide hi0
  have HZ0 := hide hz0
  have HZ1 := hide hz1
  have HZ2 := hide hz2
  have HU := hide uis
  obtain ⟨Z, hZs, hmk⟩ : ∃ Z : Array Value, Hid (Z.size = n) ∧ ∀ w : World, (Instr.makeSlice 22 (.int .i64 0) (.int .i64 n)).run Tryd.prog w = .ok (.slice (some ⟨w.heap.size, 0, none⟩) 0 n) (w.alloc (.cells Z 3)) := by
    refine ⟨madeCells (Value.int .i64 0).cells n, hide (by rw [size_madeCells]), fun w => ?_⟩
    have h := run_make (P := Tryd.prog) w 22 3 i0 (.int .i64 0) uis hi0 hz0 .i64 .i64 0 (n : Int) (by omega) (by omega) (by rw [hz2]; omega) (by omega)
    rw [hz1, Int.toNat_natCast, Nat.mul_one] at h
    exact h
  clear hi0 hz0 hz1 hz2
  have HO0 : Hid ((w.alloc (.cells Z 3)).ownsRow w.heap.size 3 1 (.slice (some ⟨w.heap.size, 0, none⟩) 0 n) 0 (i64s [])) := hide (by
    refine ⟨by simp, .inr ⟨_, n, Z, rfl, Nat.le_refl _, heap_alloc_new w _, by omega, by unfold maxLen; omega, by rw [hZs.out, Nat.mul_one], by simp⟩⟩)
  have HB0 := hide ((Below.refl _ w).alloc (Nat.le_refl _) (.cells Z 3))
  go_enter Tryd.func28, Tryd.ntmps28
  go_wp2_with fail
  go_loopw [3, 4] (fun v k wr => ∃ (i : Nat) (u : Value), u = v ∧ i ≤ n ∧ k = .int .i64 i ∧ Hid (wr.ownsRow w.heap.size 3 1 v i (i64s (zs.take i))) ∧ Hid (v ≠ .slice none 0 0) ∧ Hid (Below w.heap.size w wr)) (fun _ k _ => n - (intOf k).toNat)
  case atStart => exact ⟨0, _, rfl, by omega, rfl, HO0, hide (by intro h; cases h), HB0⟩
  case round =>
    obtain ⟨i, v, rfl, hi, rfl, HO, HN, HB⟩ := hrel
    clear HO0 HB0
    by_cases hlt : i < n
    · obtain ⟨ad, z, rfl, ez, cz⟩ := ri_at (HA.out.below HB.out) i (by rw [hn.out]; exact hlt)
      have him : (i : Int) < n := by omega
      have hown2 := hide (HO.out.alloc (.cells #[.int .i64 z] 3))
      have hsz : Hid (w.heap.size ≤ (wr.alloc (.cells #[.int .i64 z] 3)).heap.size) := hide (by have := HB.out.size; simp; omega)
      have hb1 : Hid (i + 1 ≤ maxLen) := hide (by unfold maxLen; omega)
      have hb2 : Hid ((i + 1) * 8 ≤ 140737488355328) := hide (by omega)
      have hnw := hide (new_cells wr 3 [.int .i64 z])
      have h1w : Hid (∀ u ∈ [Value.int .i64 z], u.oneCell' = true) := hide (by
        intro u hu
        simp at hu
        subst hu
        rfl)
      go_wp2_with (at_builtin; refine wpList_append_own _ rfl _ _ 22 rfl w.heap.size 3 i0 (.int .i64 0) 1 8 HU.out HI0.out HZ0.out HZ1.out HZ2.out rfl (by decide) v i _ rfl hown2.out ⟨wr.heap.size, 0, none⟩ 1 1 [.int .i64 z] rfl rfl hnw.out h1w.out hb1.out hb2.out hsz.out ?_)
      intro v' w' hown' hgrow hnil
      have HB' := hide (below_row HB.out HO.out hgrow)
      have HO' := hide hown'
      have HN' : Hid (v' ≠ .slice none 0 0) := hide fun h => hnil h
      clear hown' hgrow hnil
      go_wp2_with fail
      go_roundw
      case rel =>
        refine ⟨i + 1, _, rfl, by omega, by go_num, ?_, HN', HB'⟩
        rw [List.take_add_one, ez.out, Option.toList_some]
        unfold i64s
        rw [List.map_append, List.map_take]
        exact HO'
      case measure => simp [intOf]; omega
    · obtain rfl : i = n := by omega
      have h := HO.out
      rw [List.take_of_length_le (by rw [hn.out]; exact Nat.le_refl _)] at h
      have HO2 := hide h
      clear h HO
      go_wp2_with fail
      go_ret
      exact ⟨⟨_, rfl, HO2.out, HN.out⟩, HB.out⟩
end Go.Proofs.YtkehdgjdieemkaaDoor
