/-
  lodgeworld.Tensors and lodgeworld.Plan, walked. By an AI agent. No person has read it.
-/
import Derived.Test.YthjnkaikjjjceaaDoorPkPlnS
namespace Go.Proofs.YthjnkaikjjjceaaDoor
open Go.RowKit
def Ten.few (t : Ten) : Prop := t.zs.length ≤ 8 ∧ t.ds.length ≤ 300
def Ins.few (n : Ins) : Prop := n.is.length ≤ 10 ∧ n.gs.length ≤ 10
structure Pn.few (p : Pn) : Prop where
  lv : p.vs.length ≤ 140
  ll : p.ls.length ≤ 10
  li : p.is.length ≤ 300
  lc : p.cs.length ≤ 70
  cs : ∀ t ∈ p.cs, t.few
  vs : ∀ v ∈ p.vs, v.d.zs.length ≤ 8
  ls : ∀ d ∈ p.ls, d.zs.length ≤ 8
  is : ∀ n ∈ p.is, n.few
/-- A plan that came in: what it reads as. -/
structure Pn.Lies (w : World) (p : Pn) : Prop where
  V : Row w p.V (p.vs.flatMap Vw.vals)
  vs : ∀ v ∈ p.vs, Ri w v.d.P v.d.zs
  C : Row w p.C (p.cs.flatMap Ten.vals)
  cs : ∀ t ∈ p.cs, Ri w t.P t.zs ∧ Ri w t.D t.ds
  L : Row w p.L (p.ls.flatMap Dsc.vals)
  ls : ∀ d ∈ p.ls, Ri w d.P d.zs
  K : Row w p.K (p.is.flatMap Ins.vals)
  is : ∀ n ∈ p.is, Ri w n.I n.is ∧ Ri w n.G n.gs
theorem Pn.Lies.in_ {w : World} {p : Pn} (h : p.Lies w) (k : p.few) : p.In w :=
  ⟨h.V, fun v hv => ⟨⟨h.vs v hv, Nat.le_trans (k.vs v hv) (by omega)⟩⟩, h.C, fun t ht => ⟨(h.cs t ht).1, (h.cs t ht).2, Nat.le_trans (k.cs t ht).1 (by omega), Nat.le_trans (k.cs t ht).2 (by omega)⟩, h.L, fun d hd => ⟨h.ls d hd, Nat.le_trans (k.ls d hd) (by omega)⟩, h.K, fun n hn => ⟨(h.is n hn).1, (h.is n hn).2, Nat.le_trans (k.is n hn).1 (by omega), Nat.le_trans (k.is n hn).2 (by omega)⟩, by have := k.lv; omega, by have := k.lc; omega, by have := k.ll; omega, by have := k.li; omega⟩
set_option maxRecDepth 100000 in
set_option maxHeartbeats 4000000 in
theorem worldtens70_c (ts : List Ten) (B : Option Addr) (cap : Nat) (w : World) (hR : Row w B (ts.flatMap Ten.vals)) :
    Calls Tryd.prog 24 #[.slice B ts.length cap, .int .i64 70, .int .i64 300] w fun e w' => (∃ b : Bool, e = .returned (.bool b) ∧ (b = true → ts.length ≤ 70 ∧ ∀ t ∈ ts, t.few)) ∧ Below w.heap.size w w' := by
  have V : Hid (∀ (t : Ten) W, Calls Tryd.prog 70 #[.agg (tcells t.P t.zs.length t.cap t.u t.D t.ds.length t.dcap), .int .i64 300] W fun e w' => e = .returned (.bool (decide (t.zs.length ≤ 8) && decide (t.ds.length ≤ 300))) ∧ Below W.heap.size W w') := hide fun t W => worldtensor_c t.P t.D t.zs.length t.cap t.ds.length t.dcap t.u W
  have HR := hide hR
  obtain ⟨n, hn⟩ : ∃ n, Hid (ts.length = n) := ⟨_, hide rfl⟩
  rw [hn.out]
  clear hR
  by_cases hbig : n ≤ 70
  case neg =>
    have hb2 : (70 : Int) < n := by omega
    clear hbig
    go_enter Tryd.func24, Tryd.ntmps24
    go_wp2_with fail
    go_ret
    exact ⟨⟨false, rfl, fun h => by cases h⟩, Below.refl _ _⟩
  case pos =>
  have hb3 : (n : Int) ≤ 70 := by omega
  have HN3 := hide hbig
  clear hbig
  go_enter Tryd.func24, Tryd.ntmps24
  go_wp2_with fail
  go_loopw [7] (fun k wr => ∃ i : Nat, i ≤ n ∧ k = .int .i64 i ∧ Hid (Below w.heap.size w wr) ∧ Hid (∀ (j : Nat) x, j < i → ts[j]? = some x → x.few)) (fun k _ => n - (intOf k).toNat)
  case atStart => exact ⟨0, by omega, rfl, hide (Below.refl _ _), hide (fun j x hj => by omega)⟩
  case round =>
    obtain ⟨i, hi, rfl, HB, HK⟩ := hrel
    by_cases hlt : i < n
    · obtain ⟨ad, t, rfl, had, ht, c0, c1, c2⟩ := row_ten (HR.out.below HB.out) i (by rw [hn.out]; exact hlt)
      have HV := hide (V.out t wr)
      obtain ⟨bb, hbb⟩ : ∃ b, Hid ((decide (t.zs.length ≤ 8) && decide (t.ds.length ≤ 300)) = b) := ⟨_, hide rfl⟩
      rw [hbb.out] at HV
      clear V
      go_wp2_with fail
      clear c0 c1 c2 had
      refine HV.out.mono ?_
      rintro e w2 ⟨rfl, hb⟩
      have HB2 := hide (HB.out.trans (hb.mono HB.out.size))
      clear HV HB hb
      cases bb
      · go_wp2_with fail
        go_ret
        exact ⟨⟨false, rfl, fun h => by cases h⟩, HB2.out⟩
      · go_wp2_with fail
        go_roundw
        case rel =>
          refine ⟨i + 1, by omega, by go_num, HB2, hide (fun j x hj hx => ?_)⟩
          rcases Nat.lt_or_ge j i with h | h
          · exact HK.out j x h hx
          · obtain rfl : j = i := by omega
            rw [ht.out] at hx
            obtain rfl := Option.some.inj hx
            have h := hbb.out
            rw [Bool.and_eq_true, decide_eq_true_eq, decide_eq_true_eq] at h
            exact h
        case measure => simp [intOf]; omega
    · obtain rfl : i = n := by omega
      have h8 : ∀ t ∈ ts, t.few := fun d hd => by
        obtain ⟨j, hj⟩ := List.mem_iff_getElem?.1 hd
        exact HK.out j d (by have := (List.getElem?_eq_some_iff.1 hj).1; rw [hn.out] at this; exact this) hj
      have H8 := hide h8
      clear h8 V HK HR
      go_wp2_with fail
      go_ret
      exact ⟨⟨true, rfl, fun _ => ⟨HN3.out, H8.out⟩⟩, HB.out⟩
def FewIs (p : Pn) (e : Ending) : Prop := ∃ b : Bool, e = .returned (.bool b) ∧ (b = true → p.few)
theorem FewIs.no (p : Pn) : FewIs p (.returned (.bool false)) := ⟨false, rfl, fun h => by cases h⟩
theorem FewIs.yes {p : Pn} (h : p.few) : FewIs p (.returned (.bool true)) := ⟨true, rfl, fun _ => h⟩
set_option maxRecDepth 100000 in
set_option maxHeartbeats 8000000 in
theorem worldplan_c (p : Pn) (w : World) (h : p.Lies w) :
    Calls Tryd.prog 9 #[.agg #[.int .i64 p.size, .slice p.V p.vs.length p.vc, .slice p.C p.cs.length p.cc, .slice p.L p.ls.length p.lc, .slice p.K p.is.length p.kc, .int .i64 p.inp, .int .i64 p.out]] w fun e w' => FewIs p e ∧ Below w.heap.size w w' := by
  have hb0 := (Below.refl w.heap.size w).alloc (Nat.le_refl _) (.cells #[.int .i64 p.size, .slice p.V p.vs.length p.vc, .slice p.C p.cs.length p.cc, .slice p.L p.ls.length p.lc, .slice p.K p.is.length p.kc, .int .i64 p.inp, .int .i64 p.out] 27)
  have hr0 : Has (w.alloc (.cells #[.int .i64 p.size, .slice p.V p.vs.length p.vc, .slice p.C p.cs.length p.cc, .slice p.L p.ls.length p.lc, .slice p.K p.is.length p.kc, .int .i64 p.inp, .int .i64 p.out] 27)) w.heap.size 27 [.int .i64 p.size, .slice p.V p.vs.length p.vc, .slice p.C p.cs.length p.cc, .slice p.L p.ls.length p.lc, .slice p.K p.is.length p.kc, .int .i64 p.inp, .int .i64 p.out] := plan_box p w
  have HT := hide (worldtens70_c p.cs p.C p.cc _ (h.C.below hb0))
  have HV := hide h.V
  have HL := hide h.L
  have HK := hide h.K
  have HD : Hid (∀ (d : Dsc) W, Calls Tryd.prog 25 #[.agg (dcells d.P d.zs.length d.cap d.u)] W fun e w' => e = .returned (.bool (decide (d.zs.length ≤ 8))) ∧ Below W.heap.size W w') := hide fun d W => worlddesc_c d.P d.zs.length d.cap d.u W
  have HB := hide hb0
  have HFIN : Hid (p.vs.length ≤ 140 → p.ls.length ≤ 10 → p.is.length ≤ 300 → (p.cs.length ≤ 70 ∧ ∀ t ∈ p.cs, t.few) → (∀ (j : Nat) x, j < p.vs.length → p.vs[j]? = some x → x.d.zs.length ≤ 8) → (∀ (j : Nat) x, j < p.ls.length → p.ls[j]? = some x → x.zs.length ≤ 8) → (∀ (j : Nat) x, j < p.is.length → p.is[j]? = some x → x.few) → p.few) := hide (fun a1 a2 a3 a4 a5 a6 a7 => ⟨a1, a2, a3, a4.1, a4.2, fun v hv => by
    obtain ⟨j, hj⟩ := List.mem_iff_getElem?.1 hv
    exact a5 j v (List.getElem?_eq_some_iff.1 hj).1 hj, fun v hv => by
    obtain ⟨j, hj⟩ := List.mem_iff_getElem?.1 hv
    exact a6 j v (List.getElem?_eq_some_iff.1 hj).1 hj, fun v hv => by
    obtain ⟨j, hj⟩ := List.mem_iff_getElem?.1 hv
    exact a7 j v (List.getElem?_eq_some_iff.1 hj).1 hj⟩)
  obtain ⟨nv, hnv⟩ : ∃ n, Hid (p.vs.length = n) := ⟨_, hide rfl⟩
  obtain ⟨nc, hnc⟩ : ∃ n, Hid (p.cs.length = n) := ⟨_, hide rfl⟩
  obtain ⟨nl, hnl⟩ : ∃ n, Hid (p.ls.length = n) := ⟨_, hide rfl⟩
  obtain ⟨nk, hnk⟩ : ∃ n, Hid (p.is.length = n) := ⟨_, hide rfl⟩
  rw [hnv.out, hnc.out, hnl.out, hnk.out] at HT HB hr0 HFIN ⊢
  have HR := hide hr0
  clear h hb0 hr0
  by_cases b1 : nv ≤ 140
  case neg =>
    have i1 : (140 : Int) < nv := by omega
    clear b1
    go_enter Tryd.func9, Tryd.ntmps9
    go_wp2_with fail
    go_ret
    exact ⟨FewIs.no _, HB.out⟩
  case pos =>
  have i1 : ¬ (140 : Int) < nv := by omega
  have u1 : (nv : Int) ≤ 140 := by omega
  have H1 := hide b1
  clear b1
  by_cases b2 : nl ≤ 10
  case neg =>
    have i2 : (10 : Int) < nl := by omega
    clear b2
    go_enter Tryd.func9, Tryd.ntmps9
    go_wp2_with fail
    go_ret
    exact ⟨FewIs.no _, HB.out⟩
  case pos =>
  have i2 : ¬ (10 : Int) < nl := by omega
  have u2 : (nl : Int) ≤ 10 := by omega
  have H2 := hide b2
  clear b2
  by_cases b3 : nk ≤ 300
  case neg =>
    have i3 : (300 : Int) < nk := by omega
    clear b3
    go_enter Tryd.func9, Tryd.ntmps9
    go_wp2_with fail
    go_ret
    exact ⟨FewIs.no _, HB.out⟩
  case pos =>
  have i3 : ¬ (300 : Int) < nk := by omega
  have u3 : (nk : Int) ≤ 300 := by omega
  have H3 := hide b3
  clear b3
  go_enter Tryd.func9, Tryd.ntmps9
  go_wp2_with fail
  refine HT.out.mono ?_
  rintro e w1 ⟨⟨bt, rfl, htf⟩, hb⟩
  have HTF := hide htf
  have HR1 := hide (HR.out.below hb HR.out.lt)
  have HB1 := hide (HB.out.trans (hb.mono HB.out.size))
  clear HT htf hb HB HR i1 i2 i3
  cases bt
  · go_wp2_with fail
    go_ret
    exact ⟨FewIs.no _, HB1.out⟩
  have H4 := hide (HTF.out rfl)
  clear HTF
  go_wp2_with fail
  go_loopw [3] (fun k wr => ∃ i : Nat, i ≤ nv ∧ k = .int .i64 i ∧ Hid (Below w.heap.size w wr) ∧ Hid (Has wr w.heap.size 27 [.int .i64 p.size, .slice p.V nv p.vc, .slice p.C nc p.cc, .slice p.L nl p.lc, .slice p.K nk p.kc, .int .i64 p.inp, .int .i64 p.out]) ∧ Hid (∀ (j : Nat) x, j < i → p.vs[j]? = some x → x.d.zs.length ≤ 8)) (fun k _ => nv - (intOf k).toNat)
  case atStart => exact ⟨0, by omega, rfl, HB1, HR1, hide (fun j x hj => by omega)⟩
  case round =>
    clear HB1 HR1
    obtain ⟨i, hi, rfl, HB, HR, HG⟩ := hrel
    have cp := HR.out.cell 1
    simp only [List.getElem?_cons_zero, List.getElem?_cons_succ] at cp
    by_cases hlt : i < nv
    · obtain ⟨ad, t, hadd, had, ht, c0, c1, c2⟩ := row_vw (HV.out.below HB.out) i (by rw [hnv.out]; exact hlt)
      rw [hadd] at cp
      have HAD := hide hadd
      clear hadd
      have HQ := hide (HD.out t.d wr)
      obtain ⟨bb, hbb⟩ : ∃ b, Hid (decide (t.d.zs.length ≤ 8) = b) := ⟨_, hide rfl⟩
      rw [hbb.out] at HQ
      go_wp2_with fail
      clear c0 c1 c2 had cp
      refine HQ.out.mono ?_
      rintro e w2 ⟨rfl, hb⟩
      have HB2 := hide (HB.out.trans (hb.mono HB.out.size))
      have HR2 := hide (HR.out.below hb HR.out.lt)
      clear HQ HB HR hb HAD
      cases bb
      · go_wp2_with fail
        go_ret
        exact ⟨FewIs.no _, HB2.out⟩
      · go_wp2_with fail
        go_roundw
        case rel =>
          refine ⟨i + 1, by omega, by go_num, HB2, HR2, hide (fun j x hj hx => ?_)⟩
          rcases Nat.lt_or_ge j i with h | h
          · exact HG.out j x h hx
          · obtain rfl : j = i := by omega
            rw [ht.out] at hx
            obtain rfl := Option.some.inj hx
            exact of_decide_eq_true hbb.out
        case measure => simp [intOf]; omega
    · obtain rfl : nv = i := by omega
      have G1 := HG
      have HBn := HB
      have HRn := HR
      clear HG HB HR
      go_wp2_with fail
      go_loopw [4] (fun k wr => ∃ i : Nat, i ≤ nl ∧ k = .int .i64 i ∧ Hid (Below w.heap.size w wr) ∧ Hid (Has wr w.heap.size 27 [.int .i64 p.size, .slice p.V nv p.vc, .slice p.C nc p.cc, .slice p.L nl p.lc, .slice p.K nk p.kc, .int .i64 p.inp, .int .i64 p.out]) ∧ Hid (∀ (j : Nat) x, j < i → p.ls[j]? = some x → x.zs.length ≤ 8)) (fun k _ => nl - (intOf k).toNat)
      case atStart => exact ⟨0, by omega, rfl, HBn, HRn, hide (fun j x hj => by omega)⟩
      case round =>
        clear HBn HRn
        obtain ⟨i, hi, rfl, HB, HR, HG⟩ := hrel
        have cp := HR.out.cell 3
        simp only [List.getElem?_cons_zero, List.getElem?_cons_succ] at cp
        by_cases hlt : i < nl
        · obtain ⟨ad, t, hadd, had, ht, c0, c1⟩ := row_dsc (HL.out.below HB.out) i (by rw [hnl.out]; exact hlt)
          rw [hadd] at cp
          have HAD := hide hadd
          clear hadd
          have HQ := hide (HD.out t wr)
          obtain ⟨bb, hbb⟩ : ∃ b, Hid (decide (t.zs.length ≤ 8) = b) := ⟨_, hide rfl⟩
          rw [hbb.out] at HQ
          go_wp2_with fail
          clear c0 c1 had cp
          refine HQ.out.mono ?_
          rintro e w2 ⟨rfl, hb⟩
          have HB2 := hide (HB.out.trans (hb.mono HB.out.size))
          have HR2 := hide (HR.out.below hb HR.out.lt)
          clear HQ HB HR hb HAD
          cases bb
          · go_wp2_with fail
            go_ret
            exact ⟨FewIs.no _, HB2.out⟩
          · go_wp2_with fail
            go_roundw
            case rel =>
              refine ⟨i + 1, by omega, by go_num, HB2, HR2, hide (fun j x hj hx => ?_)⟩
              rcases Nat.lt_or_ge j i with h | h
              · exact HG.out j x h hx
              · obtain rfl : j = i := by omega
                rw [ht.out] at hx
                obtain rfl := Option.some.inj hx
                exact of_decide_eq_true hbb.out
            case measure => simp [intOf]; omega
        · obtain rfl : nl = i := by omega
          have G2 := HG
          have HBn := HB
          have HRn := HR
          clear HG HB HR
          go_wp2_with fail
          go_loopw [5] (fun k wr => ∃ i : Nat, i ≤ nk ∧ k = .int .i64 i ∧ Hid (Below w.heap.size w wr) ∧ Hid (Has wr w.heap.size 27 [.int .i64 p.size, .slice p.V nv p.vc, .slice p.C nc p.cc, .slice p.L nl p.lc, .slice p.K nk p.kc, .int .i64 p.inp, .int .i64 p.out]) ∧ Hid (∀ (j : Nat) x, j < i → p.is[j]? = some x → x.few)) (fun k _ => nk - (intOf k).toNat)
          case atStart => exact ⟨0, by omega, rfl, HBn, HRn, hide (fun j x hj => by omega)⟩
          case round =>
            clear HBn HRn
            obtain ⟨i, hi, rfl, HB, HR, HG⟩ := hrel
            have cp := HR.out.cell 4
            simp only [List.getElem?_cons_zero, List.getElem?_cons_succ] at cp
            by_cases hlt : i < nk
            · obtain ⟨ad, t, hadd, had, ht, c0, c1, c2, c3, c4, c5⟩ := row_ins (HK.out.below HB.out) i (by rw [hnk.out]; exact hlt)
              rw [hadd] at cp
              have HAD := hide hadd
              clear hadd
              obtain ⟨na, hna⟩ : ∃ n, Hid (t.is.length = n) := ⟨_, hide rfl⟩
              obtain ⟨ng, hng⟩ : ∃ n, Hid (t.gs.length = n) := ⟨_, hide rfl⟩
              rw [hna.out] at c2
              rw [hng.out] at c3
              by_cases ha : na ≤ 10
              case neg =>
                have ia : (10 : Int) < na := by omega
                clear ha
                go_wp2_with fail
                go_ret
                exact ⟨FewIs.no _, HB.out⟩
              case pos =>
              have ia : ¬ (10 : Int) < na := by omega
              have HA := hide ha
              clear ha
              by_cases hg : ng ≤ 10
              case neg =>
                have ig : (10 : Int) < ng := by omega
                clear hg
                go_wp2_with fail
                go_ret
                exact ⟨FewIs.no _, HB.out⟩
              case pos =>
              have ig : ¬ (10 : Int) < ng := by omega
              have HGG := hide hg
              clear hg
              go_wp2_with fail
              go_roundw
              case rel =>
                refine ⟨i + 1, by omega, by go_num, HB, HR, hide (fun j x hj hx => ?_)⟩
                rcases Nat.lt_or_ge j i with h | h
                · exact HG.out j x h hx
                · obtain rfl : j = i := by omega
                  rw [ht.out] at hx
                  obtain rfl := Option.some.inj hx
                  exact ⟨by rw [hna.out]; exact HA.out, by rw [hng.out]; exact HGG.out⟩
              case measure => simp [intOf]; omega
            · obtain rfl : nk = i := by omega
              have G3 := HG
              have HBn := HB
              have HRn := HR
              clear HG HB HR
              go_wp2_with fail
              go_ret
              exact ⟨FewIs.yes (HFIN.out H1.out H2.out H3.out H4.out G1.out G2.out G3.out), HBn.out⟩
end Go.Proofs.YthjnkaikjjjceaaDoor
