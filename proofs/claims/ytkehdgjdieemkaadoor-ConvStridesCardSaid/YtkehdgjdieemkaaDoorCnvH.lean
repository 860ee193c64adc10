/-
  conv.Cell, walked. By an AI agent. No person has read it.
-/
import Derived.Test.YtkehdgjdieemkaaDoorCnvD
namespace Go.Proofs.YtkehdgjdieemkaaDoor
open Go.RowKit

/-- conv.Cell's answer: an element; 0 of a place that is none, and where something is amiss. -/
def Cv.cell (qs : List Int) (a b : Ten) (i : Int) : Int := if Cel.fault [a, b] (Cv.code qs a.look b.look) = (0, none) then (if 0 ≤ i then (Cv.ds qs a b).getD i.toNat 0 else 0) else 0
theorem Cv.part_one (c : Cv) (xs ks : List Int) (T k : Nat) (h : k < T) : c.part xs ks k 1 = [(c.part xs ks 0 T).getD k 0] := by
  rw [List.getD_eq_getElem?_getD, Cv.part_at c xs ks 0 T k h, Option.getD_some, Nat.zero_add]
  rfl
set_option maxRecDepth 100000 in
set_option maxHeartbeats 8000000 in
theorem cvcell_c (qs : List Int) (A : Option Addr) (qcap : Nat) (a b : Ten) (i : Int) (ah am ar : Addr) (w : World) (hq : Ri w A qs) (hql : qs.length ≤ 1000000) (ha : a.In w) (hb : b.In w) (hi : -9223372036854775808 ≤ i ∧ i ≤ 9223372036854775807) (hE : E3 w ah am ar) :
    Calls Tryd.prog 37 #[.agg (tcells a.P a.zs.length a.cap a.u a.D a.ds.length a.dcap), .agg (tcells b.P b.zs.length b.cap b.u b.D b.ds.length b.dcap), .int .i64 i, .slice A qs.length qcap] w fun e w' => e = .returned (.int .i64 (Cv.cell qs a b i)) ∧ Below w.heap.size w w' := by
  obtain ⟨W0, hW0⟩ : ∃ W, W = ((w.alloc (.cells a.vals.toArray 26)).alloc (.cells b.vals.toArray 26)) := ⟨_, rfl⟩
  have HA : Hid (Has W0 w.heap.size 26 a.vals) := hide (by rw [hW0]; exact (Has.new w 26 a.vals).alloc _)
  have HB : Hid (Has W0 (w.heap.size + 1) 26 b.vals) := hide (by rw [hW0]; exact box_at _ _ _ _ (by simp))
  have HB0 : Hid (Below w.heap.size w W0) := hide (by rw [hW0]; exact ((Below.refl _ _).alloc (Nat.le_refl _) _).alloc (by simp) _)
  have HV := hide (cvlook_c qs A qcap a b ah am ar W0 (hq.below HB0.out) hql (ha.below HB0.out) (hb.below HB0.out) (hE.below HB0.out))
  have HIa := hide (fun W (h : Below w.heap.size w W) => ha.below h)
  have HIb := hide (fun W (h : Below w.heap.size w W) => hb.below h)
  have HE2 := hide (fun W (h : Below w.heap.size w W) => hE.2.below h)
  have HFi := hide (fun h : Cel.fault [a, b] (Cv.code qs a.look b.look) = (0, none) => Cv.fine h)
  have hfc := Cel.fault_cases (ts := [a, b]) (Cv.code_known qs a.look b.look)
  have HW := hide hW0
  have HQ := hide (fun W (h : Below w.heap.size w W) => hq.below h)
  have HI := hide hi
  unfold Ten.vals at HW
  clear ha hb hE hW0 hq hql hi
  go_enter Tryd.func37, Tryd.ntmps37
  go_wp2_with fail
  rw [← HW.out]
  clear HW
  refine HV.out.mono ?_
  rintro e w1 ⟨⟨d, x, rfl, hdi, hdf, hdz, hdu, hx⟩, hb⟩
  replace HA := hide (HA.out.below hb HA.out.lt)
  replace HB := hide (HB.out.below hb HB.out.lt)
  have HB1 := hide (HB0.out.trans (hb.mono HB0.out.size))
  clear hb HV HB0
  by_cases hf : Cel.fault [a, b] (Cv.code qs a.look b.look) = (0, none)
  case neg =>
    have hE := hx.errv hfc hf
    have HBf := hide (HB1.out.alloc HB1.out.size (.cells #[.slice d.P d.zs.length d.cap, .bool d.u] 24))
    have HV0 : Hid (Cv.cell qs a b i = 0) := hide (by unfold Cv.cell; rw [if_neg hf])
    have r1 := run_neqerr hE
    have r2 := run_neqguard hE
    clear hdi hdf hdz hdu hx hf hfc hE HFi HIa HIb HE2 HQ HA HB HI
    go_wp2_with fail
    go_ret
    exact ⟨by rw [HV0.out]; rfl, HBf.out⟩
  case pos =>
    obtain ⟨c, hfi⟩ := HFi.out hf
    have hor : ∀ {α : Type} (p q : α), Cel.or [a, b] (Cv.code qs a.look b.look) p q = p := fun p q => by
      unfold Cel.or
      rw [if_pos hf]
    rw [hor, hfi.sh] at hdz
    rw [hor, hfi.kd] at hdu
    rw [hf] at hx
    obtain rfl : x = .nilIface := hx
    have hdzl : d.zs.length = 3 := by rw [hdz]; rfl
    have hri := hdi.shp
    rw [hdz] at hri
    rw [hdzl, hdu]
    have hql3 : qs.length = 3 := by rw [hfi.qz]; rfl
    rw [hql3]
    obtain ⟨W2, hW2⟩ : ∃ W, W = (w1.alloc (.cells #[.slice d.P 3 d.cap, .bool true] 24)).alloc (.cells ([a, b].flatMap Ten.vals).toArray 26) := ⟨_, rfl⟩
    have hb2 : Below w1.heap.size w1 W2 := by rw [hW2]; exact ((Below.refl _ _).alloc (Nat.le_refl _) _).alloc (by simp) _
    have hT2 : Has W2 (w1.heap.size + 1) 26 ([a, b].flatMap Ten.vals) := by rw [hW2]; exact box_at _ _ _ _ (by simp)
    have hB2 := HB1.out.trans (hb2.mono HB1.out.size)
    have hpe : Shp.elems [(c.oh : Int), (c.ow : Int), (c.N : Int)] = ((c.oh * c.ow * c.N : Nat) : Int) := by rw [(Shp.whole hfi.cd).2.2.1, Cv.prod3]
    have hel : Cv.cell qs a b i = if 0 ≤ i then (c.part a.ds b.ds 0 (c.oh * c.ow * c.N)).getD i.toNat 0 else 0 := by
      unfold Cv.cell
      rw [if_pos hf, hfi.ds]
    have HO := hide (one_any [(c.oh : Int), (c.ow : Int), (c.N : Int)] d.P d.cap true 13 i (Cv.cell qs a b i) A (some ⟨w1.heap.size + 1, 0, none⟩) 3 qcap 2 2 am ar W2 (hri.below hb2) (by show 3 ≤ 1000000; omega) (HE2.out _ hB2) HI.out.2 HI.out.1
      (fun h => by
        rw [hpe] at h
        rw [hel]
        by_cases h0 : 0 ≤ i
        · rw [if_pos h0, List.getD_eq_getElem?_getD, List.getElem?_eq_none (by rw [Cv.part_length]; omega)]
          rfl
        · rw [if_neg h0])
      (fun k W hk hlt hB => by
        rw [hpe] at hlt
        have h := cvof_c qs a b c hfi A (some ⟨w1.heap.size + 1, 0, none⟩) qcap 2 k 1 W ((HQ.out _ hB2).below hB) (hT2.row.below hB) ((HIa.out _ hB2).below hB) ((HIb.out _ hB2).below hB) (by omega)
        rw [Cv.part_one c _ _ (c.oh * c.ow * c.N) k (by omega)] at h
        rw [hel, if_pos (by omega), hk, Int.toNat_natCast]
        exact h))
    have HB2 := hide hB2
    have HW2 := hide hW2
    unfold Ten.vals at HA HB HW2
    simp only [List.flatMap_cons, List.flatMap_nil, List.append_nil, List.cons_append, List.nil_append] at HW2
    have a0 := HA.out.cell 0
    have a1 := HA.out.cell 1
    have a2 := HA.out.cell 2
    have b0 := HB.out.cell 0
    have b1 := HB.out.cell 1
    have b2 := HB.out.cell 2
    have hal := HA.out.lt
    have hbl := HB.out.lt
    obtain ⟨v, hv⟩ : ∃ v, Hid (Cv.cell qs a b i = v) := ⟨_, hide rfl⟩
    rw [hv.out] at HO
    clear hdi hdf hdz hf hfc hfi hri hW2 hb2 hT2 hB2 hql3 HFi HIa HIb HE2 HQ hor hdzl hdu HB1 HA HB hel hpe
    go_wp2_with fail
    rw [← HW2.out]
    clear HW2 a0 a1 a2 b0 b1 b2
    refine HO.out.mono ?_
    rintro e w3 ⟨rfl, hb⟩
    have HBf := hide (HB2.out.trans (hb.mono HB2.out.size))
    clear HO hb
    go_wp2_with fail
    go_ret
    exact ⟨by rw [hv.out]; rfl, HBf.out⟩
end Go.Proofs.YtkehdgjdieemkaaDoor
