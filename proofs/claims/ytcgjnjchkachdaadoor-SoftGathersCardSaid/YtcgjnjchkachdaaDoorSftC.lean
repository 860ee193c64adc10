/-
  cells.sum, cells.gather, cells.softmax, walked. By an AI agent. No person has read it.
-/
import Derived.Test.YtcgjnjchkachdaaDoorSftB
namespace Go.Proofs.YtcgjnjchkachdaaDoor
open Go.RowKit

theorem Sf.row_le {xs : List Int} {n i : Nat} {A B : Int} (h : ∀ z ∈ xs, A ≤ z ∧ z ≤ B) (h0 : A ≤ 0 ∧ 0 ≤ B) (j : Nat) : A ≤ (Sf.row xs n i).getD j 0 ∧ (Sf.row xs n i).getD j 0 ≤ B := by
  rw [List.getD_eq_getElem?_getD]
  cases e : (Sf.row xs n i)[j]? with
  | none => exact h0
  | some q =>
    have hq := List.mem_of_getElem? e
    unfold Sf.row at hq
    exact h q (List.mem_of_mem_drop (List.mem_of_mem_take hq))
set_option maxRecDepth 100000 in
set_option maxHeartbeats 4000000 in
theorem ssum_c (os : List Int) (a : Ten) (k m n ocap f g : Nat) (w0 w : World) (hR : Sf.Rows a k m n) (ha : a.In w0) (hsa : ∀ z ∈ a.ds, -2147483648 ≤ z ∧ z ≤ 2147483647) (hB : Below w0.heap.size w0 w) (hg0 : w0.heap.size ≤ g) (hG : Has w g 3 (i64s os)) (hf : f + os.length ≤ m) (hm : m ≤ 1000000) :
    Calls Tryd.prog 141 #[.slice (some ⟨g, 0, none⟩) os.length ocap, .int .i64 f, .agg (tcells a.P a.zs.length a.cap a.u a.D a.ds.length a.dcap)] w fun e w' => e = .returned (.tuple #[]) ∧ Has w' g 3 (i64s (Sf.part (Sf.sum a.ds n) f os.length)) ∧ Below w0.heap.size w0 w' := by
  obtain ⟨r, hrr⟩ : ∃ r, Hid (Sf.part (Sf.sum a.ds n) f os.length = r) := ⟨_, hide rfl⟩
  have hrl : Hid (r.length = os.length) := hide (by rw [← hrr.out]; exact Sf.part_length _ _ _)
  have hri : Hid (∀ i, i < os.length → r[i]? = some (Sf.sum a.ds n (f + i))) := hide (fun i hi => by
    rw [← hrr.out]
    exact Sf.part_at _ _ _ _ hi)
  rw [hrr.out]
  clear hrr
  have HRO := hide (fun (W : World) (hW : Below w0.heap.size w0 W) (i : Nat) (hi : i < m) => srow_c a k m n i hR hi W (ha.below hW))
  have HLE : Hid (∀ i, i < m → (Sf.row a.ds n i).length = n) := hide (fun i hi => Sf.row_length a.ds n i m hi hR.len)
  have HSA := hide hsa
  have HN1 := hide (And.intro hR.n1 hR.n2)
  obtain ⟨q, hn⟩ : ∃ n, Hid (os.length = n) := ⟨_, hide rfl⟩
  have HF : Hid (f + q ≤ m) := hide (by rw [← hn.out]; exact hf)
  have HM := hide hm
  have hnbd : (q : Int) ≤ 1000000 := by have := HF.out; omega
  rw [hn.out]
  rw [hn.out] at hrl hri
  have HOL := hide hn.out
  obtain ⟨za, hza⟩ : ∃ n, Hid (a.zs.length = n) := ⟨_, hide rfl⟩
  obtain ⟨na, hna⟩ : ∃ n, Hid (a.ds.length = n) := ⟨_, hide rfl⟩
  unfold tcells at HRO ⊢
  rw [hza.out, hna.out] at HRO ⊢
  obtain ⟨W, hW⟩ : ∃ W, W = w.alloc (.cells #[.slice a.P za a.cap, .bool a.u, .slice a.D na a.dcap] 26) := ⟨_, rfl⟩
  have HX : Hid (Has W w.heap.size 26 [.slice a.P za a.cap, .bool a.u, .slice a.D na a.dcap]) := hide (by rw [hW]; exact Has.new w 26 _)
  have HG : Hid (Has W g 3 (i64s os)) := hide (by rw [hW]; exact hG.alloc _)
  have HBw : Below w.heap.size w W := by rw [hW]; exact (Below.refl w.heap.size w).alloc (Nat.le_refl _) _
  have HB := hide (hB.trans (HBw.mono hB.size))
  have hgl := hG.lt
  have hsz := hB.size
  have HW := hide hW
  clear ha hB hG hf hW HBw hm hn hza hna hR hsa
  go_enter Tryd.func141, Tryd.ntmps141
  go_wp2_with fail
  rw [← HW.out]
  clear HW
  go_loopg [12] q (fun gq kk wr => ∃ (i : Nat) (xs : List Int), gq + i = q ∧ kk = .int .i64 i ∧ Hid (xs.length = q) ∧ Hid (∀ j, j < i → xs[j]? = r[j]?) ∧ Hid (Has wr g 3 (i64s xs)) ∧ Hid (Has wr w.heap.size 26 [.slice a.P za a.cap, .bool a.u, .slice a.D na a.dcap]) ∧ Hid (Below w0.heap.size w0 wr))
  case atStart => exact ⟨0, os, by omega, rfl, HOL, hide (fun j hj => by omega), HG, HX, HB⟩
  case round =>
    clear HG HX HB
    obtain ⟨i, xs, hi, rfl, HN, HI, HG, HX, HB⟩ := hrel
    by_cases hlt : i < q
    · have him : (i : Int) < q := by omega
      have hi0 : (0 : Int) ≤ (i : Int) := by omega
      obtain ⟨s, hs⟩ : ∃ s, Hid (f + i = s) := ⟨_, hide rfl⟩
      have hw1 : wrap64 ((f : Int) + (i : Int)) = (s : Int) := by have := HM.out; have := HF.out; have := hs.out; unfold wrap64; omega
      have HSM : Hid (s < m) := hide (by have := HF.out; have := hs.out; omega)
      have x0 := HX.out.cell 0
      have x1 := HX.out.cell 1
      have x2 := HX.out.cell 2
      go_wp2_with fail
      clear x0 x1 x2 hw1
      refine (HRO.out wr HB.out s HSM.out).mono ?_
      rintro e w2 ⟨⟨A, c, rfl, hri2⟩, hb⟩
      replace HG := hide (HG.out.below hb HG.out.lt)
      replace HX := hide (HX.out.below hb HX.out.lt)
      replace HB := hide (HB.out.trans (hb.mono HB.out.size))
      have HRI := hide (hri2.below hb)
      have hv := hri.out i hlt
      rw [hs.out] at hv
      unfold Sf.sum at hv
      have HLs := hide (HLE.out s HSM.out)
      have HRL := hide (fun j => Sf.row_le (n := n) (i := s) HSA.out ⟨by decide, by decide⟩ j)
      obtain ⟨row, hrow⟩ : ∃ x, Hid (Sf.row a.ds n s = x) := ⟨_, hide rfl⟩
      rw [hrow.out] at HRI HLs hv HRL
      obtain ⟨tot, htot⟩ : ∃ x, Hid (Pl.add (fun j => row.getD j 0) n = x) := ⟨_, hide rfl⟩
      rw [htot.out] at hv
      have HTB := Pl.add_le (fun j => row.getD j 0) 2147483648 n (fun j _ => by have := HRL.out j; show -2147483648 ≤ row.getD j 0 ∧ _; omega)
      rw [htot.out] at HTB
      have HTB := hide HTB
      have HV := hide hv
      have hn2 : (n : Int) ≤ 256 := by have := HN1.out.2; omega
      clear hb hri2 hrow hv
      go_wp2_with fail
      go_loopg [21, 7] n (fun gq kk sv wx => ∃ (j : Nat) (sm : Int), gq + j = n ∧ kk = .int .i64 j ∧ sv = .int .i64 sm ∧ Hid (Pl.add (fun j => row.getD j 0) j = sm) ∧ w2 = wx)
      case atStart => exact ⟨0, 0, by omega, rfl, rfl, hide rfl, rfl⟩
      case round =>
        obtain ⟨j, sm, hj, rfl, rfl, HAd, hwr⟩ := hrel
        subst hwr
        by_cases hjl : j < n
        · have hjn : (j : Int) < n := by omega
          have hj0 : (0 : Int) ≤ (j : Int) := by omega
          obtain ⟨ad, y, hAD, ey, cy⟩ := ri_at HRI.out j (by rw [HLs.out]; exact hjl)
          subst hAD
          have hyv : row.getD j 0 = y := by rw [List.getD_eq_getElem?_getD, ey.out]; rfl
          have hyb := HRL.out j
          rw [hyv] at hyb
          have hsl := Pl.add_le (fun j => row.getD j 0) 2147483648 j (fun j _ => by have := HRL.out j; show -2147483648 ≤ row.getD j 0 ∧ _; omega)
          rw [HAd.out] at hsl
          obtain ⟨s2, hs2⟩ : ∃ x_, Hid (sm + y = x_) := ⟨_, hide rfl⟩
          have hws : wrap64 (sm + y) = s2 := by rw [← hs2.out]; unfold wrap64; omega
          have HAd2 : Hid (Pl.add (fun j => row.getD j 0) (j + 1) = s2) := hide (by
            show Pl.add (fun j => row.getD j 0) j + row.getD j 0 = s2
            rw [HAd.out, hyv, hs2.out])
          have hj2 : ((j : Nat) : Int) + 1 ≤ 1000001 := by omega
          clear ey hyv hyb hsl
          go_wp2_with fail
          clear cy
          go_roundg (n - (j + 1))
          case measure => omega
          case rel => exact ⟨j + 1, s2, by omega, by go_num, congrArg (Value.int .i64) hws, HAd2, rfl⟩
        · obtain rfl : j = n := by omega
          have hnn : ¬ (j : Int) < j := by omega
          obtain rfl : tot = sm := htot.out.symm.trans HAd.out
          obtain ⟨v, hvv⟩ : ∃ x, Hid (Tens.wide tot = x) := ⟨_, hide rfl⟩
          have HWD := hide (fun W => wide_c tot W)
          rw [hvv.out] at HWD HV
          have g1 : w2.cell? ⟨g, i, none⟩ = some (.int .i64 (xs[i]'(by rw [HN.out]; exact hlt))) := by
            rw [HG.out.cell]
            unfold i64s
            rw [List.getElem?_map, List.getElem?_eq_getElem (by rw [HN.out]; exact hlt)]
            rfl
          have gf := HG.out.frozen i
          go_wp2_with fail
          refine (HWD.out _).mono ?_
          rintro e wq ⟨rfl, hw⟩
          have hw := hw.symm
          subst hw
          go_wp2_with fail
          go_roundg (q - (i + 1))
          case measure => omega
          case rel =>
            refine ⟨i + 1, xs.set i v, by omega, by go_num, hide (by rw [List.length_set]; exact HN.out), hide (fun j hj => ?_), ?_, ?_, ?_⟩
            · rw [List.getElem?_set]
              split
              · rename_i h
                subst h
                rw [if_pos (by rw [HN.out]; exact hlt), HV.out]
              · exact HI.out j (by omega)
            · have h := HG.out.set_ i (.int .i64 v)
              unfold i64s at h ⊢
              rw [List.map_set]
              exact hide h
            · exact hide (HX.out.far (p := ⟨g, i, none⟩) (by simp; omega) (.int .i64 v))
            · exact hide (HB.out.setCell (p := ⟨g, i, none⟩) hg0 (.int .i64 v))
    · obtain rfl : i = q := by omega
      have hx : xs = r := List.ext_getElem? (fun j => by
        rcases Nat.lt_or_ge j i with h | h
        · exact HI.out j h
        · rw [List.getElem?_eq_none (by rw [HN.out]; exact h), List.getElem?_eq_none (by rw [hrl.out]; exact h)])
      subst hx
      have hnn : ¬ (i : Int) < i := by omega
      go_wp2_with fail
      refine bodyPost_end (results_none rfl _ _ _) rfl ?_
      exact ⟨rfl, HG.out, HB.out⟩
end Go.Proofs.YtcgjnjchkachdaaDoor
