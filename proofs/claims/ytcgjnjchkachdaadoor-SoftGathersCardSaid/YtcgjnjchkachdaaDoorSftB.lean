/-
  Numbers by their places; cells.argmax, cells.sum, walked. By an AI agent. No person has read it.
-/
import Derived.Test.YtcgjnjchkachdaaDoorSftA
namespace Go.Proofs.YtcgjnjchkachdaaDoor
open Go.RowKit

/-- Numbers by their places. -/
def Sf.part (E : Nat → Int) (f m : Nat) : List Int := (List.range m).map fun i => E (f + i)
theorem Sf.part_length (E : Nat → Int) (f m : Nat) : (Sf.part E f m).length = m := by simp [Sf.part]
theorem Sf.part_at (E : Nat → Int) (f m i : Nat) (hi : i < m) : (Sf.part E f m)[i]? = some (E (f + i)) := by
  simp [Sf.part, hi]
theorem Sf.part_one (E : Nat → Int) (m k : Nat) (hk : k < m) : Sf.part E k 1 = [(Sf.part E 0 m).getD k 0] := by
  rw [List.getD_eq_getElem?_getD, Sf.part_at _ _ _ _ hk, Option.getD_some, Nat.zero_add]
  simp [Sf.part]
theorem Sf.part_wf {E : Nat → Int} (f m : Nat) (h : ∀ i, i < m → -9223372036854775808 ≤ E (f + i) ∧ E (f + i) ≤ 9223372036854775807) : ∀ z ∈ Sf.part E f m, (Lit.int .i64 z).wf = true := by
  intro z hz
  unfold Sf.part at hz
  obtain ⟨i, hi, rfl⟩ := List.mem_map.1 hz
  exact wf_i64 _ (h i (List.mem_range.1 hi))
theorem Sf.row_get (xs : List Int) (n i j : Nat) (x : Int) (h : (Sf.row xs n i)[j]? = some x) : (Sf.row xs n i).getD j 0 = x := by
  rw [List.getD_eq_getElem?_getD, h, Option.getD_some]
/-- The place of the greatest of row i; its sum. -/
def Sf.amax (xs : List Int) (n i : Nat) : Int := (Sf.best (fun j => (Sf.row xs n i).getD j 0) n : Nat)
def Sf.sum (xs : List Int) (n i : Nat) : Int := Tens.wide (Pl.add (fun j => (Sf.row xs n i).getD j 0) n)
/-- slices.Index of the greatest. -/
theorem sindex_top (zs : List Int) (A : Option Addr) (cap n : Nat) (w : World) (hr : Ri w A zs) (hn : zs.length = n) (h1 : 1 ≤ n) (hl : n ≤ 1000000) :
    Calls Tryd.prog 152 #[.slice A n cap, .int .i64 (Pl.top (fun j => zs.getD j 0) n)] w fun e w' => e = .returned (.int .i64 ((Sf.best (fun j => zs.getD j 0) n : Nat) : Int)) ∧ w' = w := by
  obtain ⟨-, b2, -⟩ := Sf.best_is (fun j => zs.getD j 0) n
  have hb := Sf.best_lt (fun j => zs.getD j 0) n h1
  have ht := Sf.top_best (fun j => zs.getD j 0) n h1
  have hg : ∀ i, i < n → zs[i]? = some (zs.getD i 0) := fun i hi => by
    rw [List.getD_eq_getElem?_getD, List.getElem?_eq_getElem (by omega)]; rfl
  have h := sindex_c zs A cap (Sf.best (fun j => zs.getD j 0) n) (Pl.top (fun j => zs.getD j 0) n) w hr (by omega) (by rw [ht]; exact hg _ hb) (fun i hi => by
    rw [hg i (by omega), ht]
    intro h
    have h := Option.some.inj h
    have := b2 i hi
    have h' : (fun j => zs.getD j 0) i = (fun j => zs.getD j 0) (Sf.best (fun j => zs.getD j 0) n) := h
    omega)
  rw [hn] at h
  exact h
set_option maxRecDepth 100000 in
set_option maxHeartbeats 4000000 in
theorem sargmax_c (os : List Int) (a : Ten) (k m n ocap f g : Nat) (w0 w : World) (hR : Sf.Rows a k m n) (ha : a.In w0) (hB : Below w0.heap.size w0 w) (hg0 : w0.heap.size ≤ g) (hG : Has w g 3 (i64s os)) (hf : f + os.length ≤ m) (hm : m ≤ 1000000) :
    Calls Tryd.prog 140 #[.slice (some ⟨g, 0, none⟩) os.length ocap, .int .i64 f, .agg (tcells a.P a.zs.length a.cap a.u a.D a.ds.length a.dcap)] w fun e w' => e = .returned (.tuple #[]) ∧ Has w' g 3 (i64s (Sf.part (Sf.amax a.ds n) f os.length)) ∧ Below w0.heap.size w0 w' := by
  obtain ⟨r, hrr⟩ : ∃ r, Hid (Sf.part (Sf.amax a.ds n) f os.length = r) := ⟨_, hide rfl⟩
  have hrl : Hid (r.length = os.length) := hide (by rw [← hrr.out]; exact Sf.part_length _ _ _)
  have hri : Hid (∀ i, i < os.length → r[i]? = some (Sf.amax a.ds n (f + i))) := hide (fun i hi => by
    rw [← hrr.out]
    exact Sf.part_at _ _ _ _ hi)
  rw [hrr.out]
  clear hrr
  have HRO := hide (fun (W : World) (hW : Below w0.heap.size w0 W) (i : Nat) (hi : i < m) => srow_c a k m n i hR hi W (ha.below hW))
  have HLE : Hid (∀ i, i < m → (Sf.row a.ds n i).length = n) := hide (fun i hi => Sf.row_length a.ds n i m hi hR.len)
  have HN1 := hide (And.intro hR.n1 hR.n2)
  obtain ⟨q, hn⟩ : ∃ n, Hid (os.length = n) := ⟨_, hide rfl⟩
  have HF : Hid (f + q ≤ m) := hide (by rw [← hn.out]; exact hf)
  have HM := hide hm
  have hnbd : (q : Int) ≤ 1000000 := by have := HF.out; omega
  rw [hn.out]
  rw [hn.out] at hrl hri
  have HOL := hide hn.out
  obtain ⟨za, hza⟩ : ∃ n, Hid (a.zs.length = n) := ⟨_, hide rfl⟩
  obtain ⟨na, hna⟩ : ∃ n, Hid (a.ds.length = n) := ⟨_, hide rfl⟩
  unfold tcells at HRO ⊢
  rw [hza.out, hna.out] at HRO ⊢
  obtain ⟨W, hW⟩ : ∃ W, W = w.alloc (.cells #[.slice a.P za a.cap, .bool a.u, .slice a.D na a.dcap] 26) := ⟨_, rfl⟩
  have HX : Hid (Has W w.heap.size 26 [.slice a.P za a.cap, .bool a.u, .slice a.D na a.dcap]) := hide (by rw [hW]; exact Has.new w 26 _)
  have HG : Hid (Has W g 3 (i64s os)) := hide (by rw [hW]; exact hG.alloc _)
  have HBw : Below w.heap.size w W := by rw [hW]; exact (Below.refl w.heap.size w).alloc (Nat.le_refl _) _
  have HB := hide (hB.trans (HBw.mono hB.size))
  have hgl := hG.lt
  have hsz := hB.size
  have HW := hide hW
  clear ha hB hG hf hW HBw hm hn hza hna hR
  go_enter Tryd.func140, Tryd.ntmps140
  go_wp2_with fail
  rw [← HW.out]
  clear HW
  go_loopg [10] q (fun gq kk wr => ∃ (i : Nat) (xs : List Int), gq + i = q ∧ kk = .int .i64 i ∧ Hid (xs.length = q) ∧ Hid (∀ j, j < i → xs[j]? = r[j]?) ∧ Hid (Has wr g 3 (i64s xs)) ∧ Hid (Has wr w.heap.size 26 [.slice a.P za a.cap, .bool a.u, .slice a.D na a.dcap]) ∧ Hid (Below w0.heap.size w0 wr))
  case atStart => exact ⟨0, os, by omega, rfl, HOL, hide (fun j hj => by omega), HG, HX, HB⟩
  case round =>
    clear HG HX HB
    obtain ⟨i, xs, hi, rfl, HN, HI, HG, HX, HB⟩ := hrel
    by_cases hlt : i < q
    · have him : (i : Int) < q := by omega
      have hi0 : (0 : Int) ≤ (i : Int) := by omega
      obtain ⟨s, hs⟩ : ∃ s, Hid (f + i = s) := ⟨_, hide rfl⟩
      have hw1 : wrap64 ((f : Int) + (i : Int)) = (s : Int) := by have := HM.out; have := HF.out; have := hs.out; unfold wrap64; omega
      have HSM : Hid (s < m) := hide (by have := HF.out; have := hs.out; omega)
      have x0 := HX.out.cell 0
      have x1 := HX.out.cell 1
      have x2 := HX.out.cell 2
      go_wp2_with fail
      clear x0 x1 x2 hw1
      refine (HRO.out wr HB.out s HSM.out).mono ?_
      rintro e w2 ⟨⟨A, c, rfl, hri2⟩, hb⟩
      replace HG := hide (HG.out.below hb HG.out.lt)
      replace HX := hide (HX.out.below hb HX.out.lt)
      replace HB := hide (HB.out.trans (hb.mono HB.out.size))
      have hri3 := hri2.below hb
      have HMX := hide (smax_c (Sf.row a.ds n s) A c w2 hri3 (by rw [HLE.out s HSM.out]; exact HN1.out.1) (by rw [HLE.out s HSM.out]; have := HN1.out.2; omega))
      have HIX := hide (sindex_top (Sf.row a.ds n s) A c n w2 hri3 (HLE.out s HSM.out) HN1.out.1 (by have := HN1.out.2; omega))
      rw [HLE.out s HSM.out] at HMX
      have hv := hri.out i hlt
      rw [hs.out] at hv
      unfold Sf.amax at hv
      obtain ⟨mx, hmx⟩ : ∃ x, Hid (Pl.top (fun j => (Sf.row a.ds n s).getD j 0) n = x) := ⟨_, hide rfl⟩
      obtain ⟨bx, hbx⟩ : ∃ x, Hid (Sf.best (fun j => (Sf.row a.ds n s).getD j 0) n = x) := ⟨_, hide rfl⟩
      rw [hmx.out] at HMX HIX
      rw [hbx.out] at HIX hv
      have HV := hide hv
      clear hb hri2 hri3 hmx hbx hv
      go_wp2_with fail
      refine (HMX.out).mono ?_
      rintro e wq ⟨rfl, hw⟩
      have hw := hw.symm
      subst hw
      have g1 : w2.cell? ⟨g, i, none⟩ = some (.int .i64 (xs[i]'(by rw [HN.out]; exact hlt))) := by
        rw [HG.out.cell]
        unfold i64s
        rw [List.getElem?_map, List.getElem?_eq_getElem (by rw [HN.out]; exact hlt)]
        rfl
      have gf := HG.out.frozen i
      go_wp2_with fail
      refine (HIX.out).mono ?_
      rintro e wq ⟨rfl, hw⟩
      have hw := hw.symm
      subst hw
      clear HMX HIX
      go_wp2_with fail
      go_roundg (q - (i + 1))
      case measure => omega
      case rel =>
        refine ⟨i + 1, xs.set i bx, by omega, by go_num, hide (by rw [List.length_set]; exact HN.out), hide (fun j hj => ?_), ?_, ?_, ?_⟩
        · rw [List.getElem?_set]
          split
          · rename_i h
            subst h
            rw [if_pos (by rw [HN.out]; exact hlt), HV.out]
          · exact HI.out j (by omega)
        · have h := HG.out.set_ i (.int .i64 bx)
          unfold i64s at h ⊢
          rw [List.map_set]
          exact hide h
        · exact hide (HX.out.far (p := ⟨g, i, none⟩) (by simp; omega) (.int .i64 bx))
        · exact hide (HB.out.setCell (p := ⟨g, i, none⟩) hg0 (.int .i64 bx))
    · obtain rfl : i = q := by omega
      have hx : xs = r := List.ext_getElem? (fun j => by
        rcases Nat.lt_or_ge j i with h | h
        · exact HI.out j h
        · rw [List.getElem?_eq_none (by rw [HN.out]; exact h), List.getElem?_eq_none (by rw [hrl.out]; exact h)])
      subst hx
      have hnn : ¬ (i : Int) < i := by omega
      go_wp2_with fail
      refine bodyPost_end (results_none rfl _ _ _) rfl ?_
      exact ⟨rfl, HG.out, HB.out⟩
end Go.Proofs.YtcgjnjchkachdaaDoor
