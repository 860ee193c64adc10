/-
  The examples of package lodgelaw7, walked. By an AI agent. No person has read it.
-/
import Derived.Test.YtgdcfjmpjhlndaaDoorElmU
import Derived.Test.YtgdcfjmpjhlndaaDoorBasE
namespace Go.Proofs.YtgdcfjmpjhlndaaDoor
open Go.RowKit

set_option maxRecDepth 100000 in
set_option maxHeartbeats 4000000 in
theorem first7_c (ah am ar ak : Addr) (w : World) (hE : E4 w ah am ar ak) :
    Calls Tryd.prog 10 #[] w fun e w' => e = .returned (.bool true) ∧ Below w.heap.size w w' := by
  obtain ⟨W, hW⟩ : ∃ W, W = (w.alloc (.cells #[.int .i64 100] 3)).alloc (.cells #[.slice none 0 0, .bool false, .slice (some ⟨w.heap.size, 0, none⟩) 1 1] 26) := ⟨_, rfl⟩
  have hBW : Below w.heap.size w W := by
    rw [hW]
    exact ((Below.refl _ w).alloc (Nat.le_refl _) _).alloc (by simp) _
  have hZW : Has W (w.heap.size + 1) 26 [.slice none 0 0, .bool false, .slice (some ⟨w.heap.size, 0, none⟩) 1 1] := by
    rw [hW]
    exact box_at (w.alloc (.cells #[.int .i64 100] 3)) 26 [.slice none 0 0, .bool false, .slice (some ⟨w.heap.size, 0, none⟩) 1 1] (w.heap.size + 1) (by simp)
  have hR : Ri W (some ⟨w.heap.size, 0, none⟩) [100] := by
    have h := (new_ri w 3 [100] (by decide)).below ((Below.refl (w.alloc (.cells (i64s [100]).toArray 3)).heap.size _).alloc (Nat.le_refl _) (.cells #[.slice none 0 0, .bool false, .slice (some ⟨w.heap.size, 0, none⟩) 1 1] 26))
    rw [hW]
    exact h
  have ha : Ten.In W ⟨none, [], 0, false, some ⟨w.heap.size, 0, none⟩, [100], 1⟩ := ⟨Ri.nil _ _, hR, by simp, by simp⟩
  have HV := hide (two_c 4 ⟨none, [], 0, false, some ⟨w.heap.size, 0, none⟩, [100], 1⟩ ⟨none, [], 0, false, some ⟨w.heap.size, 0, none⟩, [100], 1⟩ ah am ar ak W ha ha (hE.below hBW))
  have e1 : Elm.fault 4 [] [⟨none, [], 0, false, some ⟨w.heap.size, 0, none⟩, [100], 1⟩, ⟨none, [], 0, false, some ⟨w.heap.size, 0, none⟩, [100], 1⟩] = (0, none) := by rfl
  have e2 : Elm.ods 4 [] [⟨none, [], 0, false, some ⟨w.heap.size, 0, none⟩, [100], 1⟩, ⟨none, [], 0, false, some ⟨w.heap.size, 0, none⟩, [100], 1⟩] = [127] := by rfl
  rw [e1, e2] at HV
  have HB := hide hBW
  have HW := hide hW
  have z0 := hZW.cell 0
  have z1 := hZW.cell 1
  have z2 := hZW.cell 2
  clear hE hBW hZW hR ha e1 e2
  go_enter Tryd.func10, Tryd.ntmps10
  go_wp2_with fail
  rw [← HW.out]
  refine HV.out.mono ?_
  rintro e w2 ⟨⟨t, x, rfl, hIn, -, -, -, e3, hEr⟩, hb⟩
  have hB2 := HB.out.trans (hb.mono HB.out.size)
  obtain rfl : x = .nilIface := by
    unfold Elm.Err at hEr
    rw [if_neg (by simp)] at hEr
    exact hEr
  have hD := hIn.dat
  rw [e3] at hD
  have hB3 := hB2.alloc hB2.size (.cells #[.slice t.P t.zs.length t.cap, .bool t.u, .slice t.D 1 t.dcap] 26)
  have hB4 := hB3.alloc hB3.size (.cells #[.int .i64 127] 3)
  have hD4 := (hD.below ((Below.refl _ w2).alloc (Nat.le_refl _) (.cells #[.slice t.P t.zs.length t.cap, .bool t.u, .slice t.D 1 t.dcap] 26))).below ((Below.refl _ _).alloc (Nat.le_refl _) (.cells #[.int .i64 127] 3))
  have HS := hide (sameints_c [127] [127] t.D (some ⟨w2.heap.size + 1, 0, none⟩) t.dcap 1 _ hD4 (by
    have h := new_ri (w2.alloc (.cells #[.slice t.P t.zs.length t.cap, .bool t.u, .slice t.D 1 t.dcap] 26)) 3 [127] (by decide)
    simpa using h) (by decide) (by decide))
  rw [decide_eq_true (rfl : ([127] : List Int) = [127])] at HS
  have HB4 := hide hB4
  rw [e3]
  clear hEr hIn hD e3 hB2 hB3 hB4 hD4 HV HB hb HW
  go_wp2_with fail
  refine HS.out.mono ?_
  rintro e w3 ⟨rfl, hb⟩
  have HF := hide (HB4.out.trans (hb.mono HB4.out.size))
  clear hb HS HB4
  go_wp2_with fail
  go_ret
  exact ⟨rfl, HF.out⟩
end Go.Proofs.YtgdcfjmpjhlndaaDoor
