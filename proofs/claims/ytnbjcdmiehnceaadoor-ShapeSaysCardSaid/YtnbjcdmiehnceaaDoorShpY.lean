/-
  Steps of both where a shape may not be, the reference's Steps, walked; what comes of either. By an AI agent. No person has read it.
-/
import Derived.Test.YtnbjcdmiehnceaaDoorShpX
import Derived.Test.YtnbjcdmiehnceaaDoorShpT
namespace Go.Proofs.YtnbjcdmiehnceaaDoor
open Go.RowKit

theorem Shp.prod_drop (zs : List Int) (hok : Shp.ok zs = true) (j : Nat) (z : Int) (hz : zs[j]? = some z) : wrap64 (Shp.prod (zs.drop (j + 1)) * z) = Shp.prod (zs.drop j) ∧ Shp.prod (zs.drop (j + 1)) * z = Shp.prod (zs.drop j) := by
  obtain ⟨hj, rfl⟩ := List.getElem?_eq_some_iff.1 hz
  have hd := List.drop_eq_getElem_cons hj
  have hp : Shp.prod (zs.drop j) = zs[j] * Shp.prod (zs.drop (j + 1)) := by rw [hd, Shp.prod]
  have hall : (zs.drop j).all Shp.okDim = true := by
    have := ((Shp.ok_iff zs).1 hok).2.1
    rw [List.all_eq_true] at this ⊢
    exact fun x hx => this x (List.mem_of_mem_drop hx)
  have hq := Shp.prod_pos _ hall
  have hq2 := Shp.pow_le (zs.drop j).length (by have := ((Shp.ok_iff zs).1 hok).1; rw [List.length_drop]; omega)
  rw [Int.mul_comm, ← hp]
  refine ⟨?_, rfl⟩
  unfold wrap64
  omega
set_option maxRecDepth 100000 in
theorem steps_nil (zs : List Int) (P : Option Addr) (cap : Nat) (am ar : Addr) (w : World) (hr : Ri w P zs) (hm : zs.length ≤ 9223372036854775807) (hE : E2 w am ar) (hok : Shp.ok zs = false) :
    Calls Tryd.prog 25 #[.slice P zs.length cap] w fun e w' => e = .returned (.slice none 0 0) ∧ Below w.heap.size w w' := by
  have HV := hide (isvalid_c zs P cap am ar w hr hm hE)
  rw [hok] at HV
  obtain ⟨n, hn⟩ : ∃ n, Hid (zs.length = n) := ⟨_, hide rfl⟩
  rw [hn.out] at HV ⊢
  clear hr hE hm hok hn
  go_enter Tryd.func25, Tryd.ntmps25
  go_wp2_with fail
  refine HV.out.mono ?_
  rintro e w1 ⟨rfl, hb⟩
  go_wp2_with fail
  go_ret
  exact ⟨rfl, hb⟩
set_option maxRecDepth 100000 in
theorem refsteps_nil (zs : List Int) (P : Option Addr) (cap : Nat) (w : World) (hr : Ri w P zs) (hm : zs.length ≤ 9223372036854775807) (hok : Shp.ok zs = false) :
    Calls Tryd.prog 26 #[.slice P zs.length cap] w fun e w' => e = .returned (.slice none 0 0) ∧ Below w.heap.size w w' := by
  have HV := hide (refelems_c zs P cap w hr hm)
  rw [(Shp.elems_zero zs).2 hok] at HV
  obtain ⟨n, hn⟩ : ∃ n, Hid (zs.length = n) := ⟨_, hide rfl⟩
  rw [hn.out] at HV ⊢
  clear hr hm hok hn
  go_enter Tryd.func26, Tryd.ntmps26
  go_wp2_with fail
  refine HV.out.mono ?_
  rintro e w1 ⟨rfl, hb⟩
  go_wp2_with fail
  go_ret
  exact ⟨rfl, hb⟩
theorem Shp.stepRow_cell (zs : List Int) (r : Nat) : (i64s (Shp.stepRow zs (r + 1)))[r]? = some (.int .i64 0) := by
  unfold i64s Shp.stepRow
  rw [List.getElem?_map, List.getElem?_append_left (by simp), List.getElem?_replicate, if_pos (by omega)]
  rfl
set_option maxRecDepth 100000 in
set_option maxHeartbeats 4000000 in
theorem refsteps_c (zs : List Int) (P : Option Addr) (cap : Nat) (w : World) (hr : Ri w P zs) (hm : zs.length ≤ 9223372036854775807) (hok : Shp.ok zs = true) :
    Calls Tryd.prog 26 #[.slice P zs.length cap] w fun e w' => (∃ g, e = .returned (.slice (some ⟨g, 0, none⟩) zs.length zs.length) ∧ w.heap.size ≤ g ∧ Has w' g 3 (i64s (Shp.steps zs))) ∧ Below w.heap.size w w' := by
  have HV := hide (refelems_c zs P cap w hr hm)
  have HA0 := hide hr
  have HOK := hide hok
  have hne : Shp.elems zs ≠ 0 := fun h => by rw [(Shp.elems_zero zs).1 h] at hok; cases hok
  have hneb : (Shp.elems zs == 0) = false := by simpa using hne
  obtain ⟨n, hn⟩ : ∃ n, Hid (zs.length = n) := ⟨_, hide rfl⟩
  rw [hn.out] at HV ⊢
  obtain ⟨E, hEl⟩ : ∃ E, Hid (Shp.elems zs = E) := ⟨_, hide rfl⟩
  rw [hEl.out] at HV hneb
  have h4 : n ≤ 4 := by have := ((Shp.ok_iff zs).1 hok).1; rw [hn.out] at this; exact this
  obtain ⟨Z, hZ, hmk⟩ := made_ints n (by omega)
  clear hr hok hne hEl hm
  go_enter Tryd.func26, Tryd.ntmps26
  go_wp2_with fail
  refine HV.out.mono ?_
  rintro e w1 ⟨rfl, hb⟩
  have HI0 : Hid (Has (w1.alloc (.cells Z 3)) w1.heap.size 3 (i64s (Shp.stepRow zs n))) := by
    rw [hZ.out, show Shp.stepRow zs n = List.replicate n 0 by unfold Shp.stepRow; rw [List.drop_eq_nil_of_le (by rw [hn.out]; exact Nat.le_refl _)]; simp [Shp.steps]]
    exact hide (Has.new w1 _ _)
  have HB1 := hide hb
  have HA := hide (HA0.out.below hb)
  have hS0 : Shp.prod (zs.drop n) = 1 := by
    rw [List.drop_eq_nil_of_le (by rw [hn.out]; exact Nat.le_refl _)]
    rfl
  have HS0 := hide hS0
  clear hb HV HA0 hZ hS0
  go_wp2_with fail
  go_loopw [4, 5] (fun s k wr => ∃ (r : Nat) (S v : Int), r ≤ n ∧ Hid (v = (r : Int) - 1) ∧ k = .int .i64 v ∧ s = .int .i64 S ∧ Hid (Shp.prod (zs.drop r) = S) ∧ Hid (Has wr w1.heap.size 3 (i64s (Shp.stepRow zs r))) ∧ Hid (Below w1.heap.size w1 wr)) (fun _ k _ => (intOf k + 1).toNat)
  case atStart => exact ⟨n, 1, (n : Int) - 1, Nat.le_refl _, hide rfl, by go_num, rfl, HS0, HI0, hide ((Below.refl _ w1).alloc (Nat.le_refl _) _)⟩
  case round =>
    obtain ⟨r, S, v, hrn, hv, rfl, rfl, hS, hI, hB⟩ := hrel
    cases r with
    | zero =>
      obtain rfl : v = -1 := by have := hv.out; omega
      have hfin : Has wr w1.heap.size 3 (i64s (Shp.steps zs)) := by
        have h := hI.out
        unfold Shp.stepRow at h
        rw [List.drop_zero, List.replicate_zero, List.nil_append] at h
        exact h
      have HF := hide hfin
      clear hfin hI
      go_wp2_with fail
      go_ret
      exact ⟨⟨w1.heap.size, rfl, HB1.out.size, HF.out⟩, HB1.out.trans (hB.out.mono HB1.out.size)⟩
    | succ j =>
      obtain rfl : v = (j : Int) := by have := hv.out; omega
      have hjn : j < n := by omega
      have hji : (j : Int) < n := by omega
      have hc : wr.cell? ⟨w1.heap.size, j, none⟩ = some (.int .i64 0) := by rw [hI.out.cell, Shp.stepRow_cell]
      have hf := hI.out.frozen j
      have h1 := hI.out.set_ j (.int .i64 S)
      rw [← hS.out, Shp.stepRow_set zs j (by rw [hn.out]; exact hjn), hS.out] at h1
      have HS1 := hide h1
      have HB2 := hide (hB.out.setCell (p := ⟨w1.heap.size, j, none⟩) (Nat.le_refl _) (.int .i64 S))
      obtain ⟨ad, z, rfl, ez, cz⟩ := ri_at (HA.out.below HB2.out) j (by rw [hn.out]; exact hjn)
      have hst := Shp.prod_drop zs HOK.out j z ez.out
      rw [hS.out] at hst
      obtain ⟨T, hT⟩ : ∃ T, Hid (Shp.prod (zs.drop j) = T) := ⟨_, hide rfl⟩
      rw [hT.out] at hst
      have hw := hst.1
      have hw' : IntKind.i64.wrap (S * z) = T := by rw [IntKind.wrap_i64]; have h := hw; unfold wrap64 at h; exact h
      clear h1 HI0 hI hv hst
      go_wp2_with fail
      go_roundw
      case rel => exact ⟨j, T, (j : Int) - 1, by omega, hide rfl, by go_num, by first | rfl | (simp only [hw]) | go_num, hT, HS1, HB2⟩
      case measure => simp [intOf]
theorem Shp.steps_wf (zs : List Int) (hok : Shp.ok zs = true) : ∀ x ∈ Shp.steps zs, (Lit.int .i64 x).wf = true := by
  intro x hx
  obtain ⟨j, hj⟩ := List.getElem?_of_mem hx
  have hjl := (List.getElem?_eq_some_iff.1 hj).1
  have hd := congrArg (fun l => l[0]?) (Shp.steps_drop zs j)
  simp only [List.getElem?_drop, Nat.add_zero] at hd
  rw [hj, List.drop_eq_getElem_cons (by rw [← Shp.steps_length zs]; exact hjl), Shp.steps, List.getElem?_cons_zero] at hd
  obtain rfl := Option.some.inj hd
  have hall : (zs.drop (j + 1)).all Shp.okDim = true := by
    have := ((Shp.ok_iff zs).1 hok).2.1
    rw [List.all_eq_true] at this ⊢
    exact fun x hx => this x (List.mem_of_mem_drop hx)
  have hq := Shp.prod_pos _ hall
  have hq2 := Shp.pow_le (zs.drop (j + 1)).length (by have := ((Shp.ok_iff zs).1 hok).1; rw [List.length_drop]; omega)
  exact wf_i64 _ (by omega)
def Shp.steps' (zs : List Int) : List Int := if Shp.ok zs = true then Shp.steps zs else []
/-- What comes of Steps, of both. -/
theorem steps_any (zs : List Int) (P : Option Addr) (cap : Nat) (am ar : Addr) (w : World) (hr : Ri w P zs) (hm : zs.length ≤ 9223372036854775807) (hE : E2 w am ar) :
    Calls Tryd.prog 25 #[.slice P zs.length cap] w fun e w' => (∃ A, e = .returned (.slice A (Shp.steps' zs).length (Shp.steps' zs).length) ∧ Ri w' A (Shp.steps' zs)) ∧ Below w.heap.size w w' := by
  unfold Shp.steps'
  cases hok : Shp.ok zs
  · rw [if_neg (by decide)]
    exact (steps_nil zs P cap am ar w hr hm hE hok).mono fun e w' h => ⟨⟨none, h.1, Ri.nil _ _⟩, h.2⟩
  · rw [if_pos rfl, Shp.steps_length]
    exact (steps_c zs P cap am ar w hr hm hE hok).mono fun e w' ⟨⟨g, h1, _, h3⟩, h4⟩ => ⟨⟨_, h1, h3.ri (Shp.steps_wf zs hok)⟩, h4⟩
theorem refsteps_any (zs : List Int) (P : Option Addr) (cap : Nat) (w : World) (hr : Ri w P zs) (hm : zs.length ≤ 9223372036854775807) :
    Calls Tryd.prog 26 #[.slice P zs.length cap] w fun e w' => (∃ A, e = .returned (.slice A (Shp.steps' zs).length (Shp.steps' zs).length) ∧ Ri w' A (Shp.steps' zs)) ∧ Below w.heap.size w w' := by
  unfold Shp.steps'
  cases hok : Shp.ok zs
  · rw [if_neg (by decide)]
    exact (refsteps_nil zs P cap w hr hm hok).mono fun e w' h => ⟨⟨none, h.1, Ri.nil _ _⟩, h.2⟩
  · rw [if_pos rfl, Shp.steps_length]
    exact (refsteps_c zs P cap w hr hm hok).mono fun e w' ⟨⟨g, h1, _, h3⟩, h4⟩ => ⟨⟨_, h1, h3.ri (Shp.steps_wf zs hok)⟩, h4⟩
end Go.Proofs.YtnbjcdmiehnceaaDoor
