/-
  The reference's At, walked. By an AI agent. No person has read it.
-/
import Derived.Test.YtnbjcdmiehnceaaDoorShpV
import Derived.Deep.RegionWith
namespace Go.Proofs.YtnbjcdmiehnceaaDoor
open Go.RowKit

theorem Shp.at_bound (zs : List Int) (i : Int) (hi : 0 ≤ i) (hz : ∀ z ∈ zs, 1 ≤ z) : (0 ≤ (Shp.at zs i).2 ∧ (Shp.at zs i).2 ≤ i) ∧ ∀ x ∈ (Shp.at zs i).1, 0 ≤ x ∧ x ≤ i := by
  induction zs with
  | nil => exact ⟨⟨hi, Int.le_refl _⟩, fun x hx => by cases hx⟩
  | cons z zs ih =>
    obtain ⟨⟨h1, h2⟩, h3⟩ := ih (fun y hy => hz y (List.mem_cons_of_mem _ hy))
    have hz1 := hz z (List.mem_cons_self ..)
    rw [Shp.at]
    have a := Int.ediv_nonneg h1 (show 0 ≤ z by omega)
    have b := Int.ediv_le_self z h1
    have c := Int.emod_nonneg (Shp.at zs i).2 (show z ≠ 0 by omega)
    have d : (Shp.at zs i).2 % z ≤ (Shp.at zs i).2 := by
      have := Int.mul_ediv_add_emod (Shp.at zs i).2 z
      have := Int.mul_nonneg (show 0 ≤ z by omega) a
      omega
    refine ⟨?_, fun x hx => ?_⟩
    · show 0 ≤ (Shp.at zs i).2.tdiv z ∧ (Shp.at zs i).2.tdiv z ≤ i
      rw [Int.tdiv_eq_ediv_of_nonneg h1]
      omega
    · rcases List.mem_cons.1 hx with rfl | hx
      · rw [Int.tmod_eq_emod_of_nonneg h1]
        omega
      · exact h3 x hx
theorem Shp.atRow_set (zs : List Int) (i : Int) (r : Nat) (z : Int) (hz : zs[r]? = some z) :
    (i64s (Shp.atRow zs i (r + 1))).set r (.int .i64 ((Shp.at (zs.drop (r + 1)) i).2.tmod z)) = i64s (Shp.atRow zs i r) ∧ (Shp.at (zs.drop r) i).2 = (Shp.at (zs.drop (r + 1)) i).2.tdiv z := by
  obtain ⟨hj, rfl⟩ := List.getElem?_eq_some_iff.1 hz
  have hd := List.drop_eq_getElem_cons hj
  constructor
  · unfold i64s
    rw [show (Value.int .i64 ((Shp.at (zs.drop (r + 1)) i).2.tmod zs[r])) = (fun z => Value.int .i64 z) ((Shp.at (zs.drop (r + 1)) i).2.tmod zs[r]) from rfl, ← List.map_set]
    congr 1
    unfold Shp.atRow
    rw [hd, Shp.at, List.replicate_succ', List.append_assoc, List.set_append_right _ _ (by simp), List.length_replicate, Nat.sub_self]
    rfl
  · rw [hd, Shp.at]
theorem Shp.atRow_cell (zs : List Int) (i : Int) (r : Nat) : (i64s (Shp.atRow zs i (r + 1)))[r]? = some (.int .i64 0) := by
  unfold i64s Shp.atRow
  rw [List.getElem?_map, List.getElem?_append_left (by simp), List.getElem?_replicate, if_pos (by omega)]
  rfl
set_option maxRecDepth 100000 in
theorem refat_neg (n cap : Nat) (P : Option Addr) (i : Int) (h : i < 0) (w : World) :
    Calls Tryd.prog 34 #[.slice P n cap, .int .i64 i] w fun e w' => e = .returned (.tuple #[.slice none 0 0, .bool false]) ∧ Below w.heap.size w w' := by
  have hd : decide (i < 0) = true := decide_eq_true h
  go_enter Tryd.func34, Tryd.ntmps34
  go_wp2_with fail
  go_ret2
  exact ⟨rfl, Below.refl _ w⟩
set_option maxRecDepth 100000 in
set_option maxHeartbeats 4000000 in
theorem refat_c (zs : List Int) (P : Option Addr) (cap : Nat) (i : Int) (w : World) (hr : Ri w P zs) (hm : zs.length ≤ 9223372036854775807) (hi : 0 ≤ i) (hi2 : i ≤ 9223372036854775807) :
    Calls Tryd.prog 34 #[.slice P zs.length cap, .int .i64 i] w fun e w' =>
      ((Shp.elems zs ≤ i ∧ e = .returned (.tuple #[.slice none 0 0, .bool false])) ∨ (i < Shp.elems zs ∧ ∃ g, e = .returned (.tuple #[.slice (some ⟨g, 0, none⟩) zs.length zs.length, .bool true]) ∧ Has w' g 3 (i64s (Shp.at zs i).1))) ∧ Below w.heap.size w w' := by
  have HV := hide (refelems_c zs P cap w hr hm)
  have HA0 := hide hr
  clear hr
  obtain ⟨n, hn⟩ : ∃ n, Hid (zs.length = n) := ⟨_, hide rfl⟩
  rw [hn.out] at HV ⊢
  obtain ⟨E, hEl⟩ : ∃ E, Hid (Shp.elems zs = E) := ⟨_, hide rfl⟩
  rw [hEl.out] at HV ⊢
  have hEb := Shp.elems_le zs
  rw [hEl.out] at hEb
  have hnd : decide (i < 0) = false := decide_eq_false (by omega)
  have hnl : ¬ i < 0 := by omega
  by_cases hge : E ≤ i
  · have hgd : decide (E ≤ i) = true := decide_eq_true hge
    clear HA0 hn hEl hm
    go_enter Tryd.func34, Tryd.ntmps34
    go_wp2_with fail
    refine HV.out.mono ?_
    rintro e w1 ⟨rfl, hb⟩
    go_wp2_with fail
    go_ret2
    exact ⟨.inl ⟨hge, rfl⟩, hb⟩
  · have hgd : decide (E ≤ i) = false := decide_eq_false hge
    have hlt0 : i < E := by omega
    have hok : Shp.ok zs = true := by
      have h := hlt0
      rw [← hEl.out] at h
      unfold Shp.elems at h
      split at h
      · assumption
      · omega
    have HOK := hide hok
    have h4 : n ≤ 4 := by have := ((Shp.ok_iff zs).1 hok).1; rw [hn.out] at this; exact this
    obtain ⟨Z, hZ, hmk⟩ := made_ints n (by omega)
    have HBND := hide (fun r => Shp.at_bound (zs.drop r) i hi (fun z hz => by
      obtain ⟨j, hj⟩ := List.getElem?_of_mem (List.mem_of_mem_drop hz)
      exact (Shp.dims zs HOK.out j z hj).1))
    clear hok hEl hge hm
    go_enter Tryd.func34, Tryd.ntmps34
    go_wp2_with fail
    refine HV.out.mono ?_
    rintro e w1 ⟨rfl, hb⟩
    have HI0 : Hid (Has (w1.alloc (.cells Z 3)) w1.heap.size 3 (i64s (Shp.atRow zs i n))) := by
      rw [hZ.out, show Shp.atRow zs i n = List.replicate n 0 by unfold Shp.atRow; rw [List.drop_eq_nil_of_le (by rw [hn.out]; exact Nat.le_refl _)]; simp [Shp.at]]
      exact hide (Has.new w1 _ _)
    have HB1 := hide hb
    have HA := hide (HA0.out.below hb)
    have hS0 : (Shp.at (zs.drop n) i).2 = i := by
      rw [List.drop_eq_nil_of_le (by rw [hn.out]; exact Nat.le_refl _)]
      rfl
    have HS0 := hide hS0
    clear hb HV HA0 hZ hS0
    go_wp2_with fail
    go_loopw [1, 7] (fun s k wr => ∃ (r : Nat) (S v : Int), r ≤ n ∧ Hid (v = (r : Int) - 1) ∧ k = .int .i64 v ∧ s = .int .i64 S ∧ Hid ((Shp.at (zs.drop r) i).2 = S) ∧ Hid (Has wr w1.heap.size 3 (i64s (Shp.atRow zs i r))) ∧ Hid (Below w1.heap.size w1 wr)) (fun _ k _ => (intOf k + 1).toNat)
    case atStart => exact ⟨n, i, (n : Int) - 1, Nat.le_refl _, hide rfl, by go_num, rfl, HS0, HI0, hide ((Below.refl _ w1).alloc (Nat.le_refl _) _)⟩
    case round =>
      obtain ⟨r, S, v, hrn, hv, rfl, rfl, hS, hI, hB⟩ := hrel
      cases r with
      | zero =>
        obtain rfl : v = -1 := by have := hv.out; omega
        have hfin : Has wr w1.heap.size 3 (i64s (Shp.at zs i).1) := by
          have h := hI.out
          unfold Shp.atRow at h
          rw [List.drop_zero, List.replicate_zero, List.nil_append] at h
          exact h
        have HF := hide hfin
        clear hfin hI
        go_wp2_with fail
        go_ret2
        exact ⟨.inr ⟨hlt0, w1.heap.size, rfl, HF.out⟩, HB1.out.trans (hB.out.mono HB1.out.size)⟩
      | succ j =>
        obtain rfl : v = (j : Int) := by have := hv.out; omega
        have hjn : j < n := by omega
        have hji : (j : Int) < n := by omega
        obtain ⟨ad, z, rfl, ez, cz⟩ := ri_at (HA.out.below hB.out) j (by rw [hn.out]; exact hjn)
        have hzb := Shp.dims zs HOK.out j z ez.out
        have hz0 : (z == 0) = false := by simp; omega
        have hSb := (HBND.out (j + 1)).1
        rw [hS.out] at hSb
        have hst := Shp.atRow_set zs i j z ez.out
        rw [hS.out, Int.tmod_eq_emod_of_nonneg hSb.1, Int.tdiv_eq_ediv_of_nonneg hSb.1] at hst
        have hc : wr.cell? ⟨w1.heap.size, j, none⟩ = some (.int .i64 0) := by rw [hI.out.cell, Shp.atRow_cell]
        have hf := hI.out.frozen j
        have h1 := hI.out.set_ j (.int .i64 (S % z))
        rw [hst.1] at h1
        have HS1 := hide h1
        have HQ := hide hst.2
        have HB2 := hide (hB.out.setCell (p := ⟨w1.heap.size, j, none⟩) (Nat.le_refl _) (.int .i64 (S % z)))
        obtain ⟨ad2, z2, hp2, ez2, cz2⟩ := ri_at (HA.out.below HB2.out) j (by rw [hn.out]; exact hjn)
        obtain rfl : ad = ad2 := Option.some.inj hp2
        obtain rfl : z = z2 := Option.some.inj (ez.out.symm.trans ez2.out)
        clear h1 hst HI0 hI hv hp2 ez2
        go_wp2_with fail
        go_roundw
        case rel => exact ⟨j, S / z, (j : Int) - 1, by omega, hide rfl, by go_num, by go_num, HQ, HS1, HB2⟩
        case measure => simp [intOf]
end Go.Proofs.YtnbjcdmiehnceaaDoor
