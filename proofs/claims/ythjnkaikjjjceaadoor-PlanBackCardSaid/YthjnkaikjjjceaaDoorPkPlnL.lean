/-
  plan.tooMany, plan.inRange, walked. By an AI agent. No person has read it.
-/
import Derived.Test.YthjnkaikjjjceaaDoorPkPlnK
namespace Go.Proofs.YthjnkaikjjjceaaDoor
open Go.RowKit
/-- More of something than there may be. -/
def Pl.lots (p : Pn) : Bool := decide (128 < p.vs.length) || (decide (64 < p.cs.length) || (decide (8 < p.ls.length) || decide (2048 < p.is.length)))
def Pl.over (p : Pn) : Bool := Pl.lots p || (p.is.any Pl.many || p.descs.any Pl.deep)
/-- A plan's box. -/
theorem plan_box (p : Pn) (w : World) : Has (w.alloc (.cells #[.int .i64 p.size, .slice p.V p.vs.length p.vc, .slice p.C p.cs.length p.cc, .slice p.L p.ls.length p.lc, .slice p.K p.is.length p.kc, .int .i64 p.inp, .int .i64 p.out] 27)) w.heap.size 27 [.int .i64 p.size, .slice p.V p.vs.length p.vc, .slice p.C p.cs.length p.cc, .slice p.L p.ls.length p.lc, .slice p.K p.is.length p.kc, .int .i64 p.inp, .int .i64 p.out] := Has.new w _ _
set_option maxRecDepth 100000 in
set_option maxHeartbeats 4000000 in
theorem toomany_c (p : Pn) (w : World) (hP : p.In w) :
    Calls Tryd.prog 71 #[.agg #[.int .i64 p.size, .slice p.V p.vs.length p.vc, .slice p.C p.cs.length p.cc, .slice p.L p.ls.length p.lc, .slice p.K p.is.length p.kc, .int .i64 p.inp, .int .i64 p.out]] w fun e w' => e = .returned (.bool (Pl.over p)) ∧ Below w.heap.size w w' := by
  have hb0 := (Below.refl w.heap.size w).alloc (Nat.le_refl _) (.cells #[.int .i64 p.size, .slice p.V p.vs.length p.vc, .slice p.C p.cs.length p.cc, .slice p.L p.ls.length p.lc, .slice p.K p.is.length p.kc, .int .i64 p.inp, .int .i64 p.out] 27)
  have hrow := plan_box p w
  have HM := hide (has_many p.is p.K p.kc (w.alloc (.cells #[.int .i64 p.size, .slice p.V p.vs.length p.vc, .slice p.C p.cs.length p.cc, .slice p.L p.ls.length p.lc, .slice p.K p.is.length p.kc, .int .i64 p.inp, .int .i64 p.out] 27)) (hP.K.below hb0) hP.li)
  have HD := hide (fun (W : World) (hb : Below w.heap.size w W) => pdescs_c p W (hP.below hb))
  have HDP := hide (fun (W : World) (A : Option Addr) (c : Nat) (h : Row W A (p.descs.flatMap Dsc.vals)) => has_deep p.descs A c W h (by unfold Pn.descs; rw [List.length_append, List.length_map]; have := hP.lv; have := hP.ll; omega))
  obtain ⟨nv, hnv⟩ : ∃ y, Hid (p.vs.length = y) := ⟨_, hide rfl⟩
  obtain ⟨nc, hnc⟩ : ∃ y, Hid (p.cs.length = y) := ⟨_, hide rfl⟩
  obtain ⟨nl, hnl⟩ : ∃ y, Hid (p.ls.length = y) := ⟨_, hide rfl⟩
  obtain ⟨ni, hni⟩ : ∃ y, Hid (p.is.length = y) := ⟨_, hide rfl⟩
  obtain ⟨b1, hb1⟩ : ∃ y, Hid (p.is.any Pl.many = y) := ⟨_, hide rfl⟩
  obtain ⟨b2, hb2⟩ : ∃ y, Hid (p.descs.any Pl.deep = y) := ⟨_, hide rfl⟩
  obtain ⟨nd, hnd⟩ : ∃ y, Hid (p.descs.length = y) := ⟨_, hide rfl⟩
  unfold Pl.over Pl.lots
  rw [hb1.out, hb2.out, hnv.out, hnc.out, hnl.out, hni.out]
  rw [hnv.out, hnc.out, hnl.out, hni.out] at hb0 hrow
  rw [hnv.out, hnc.out, hnl.out, hni.out, hb1.out] at HM
  rw [hnv.out, hnc.out, hnl.out, hni.out, hnd.out] at HD
  rw [hnd.out, hb2.out] at HDP
  have HB0 := hide hb0
  have HRW := hide hrow
  clear hP hb0 hrow
  rcases Nat.lt_or_ge 128 nv with h1 | h1
  · have h1' : (128 : Int) < (nv : Int) := by omega
    rw [decide_eq_true h1, Bool.true_or, Bool.true_or]
    clear h1
    go_enter Tryd.func71, Tryd.ntmps71
    go_wp2_with fail
    go_ret
    exact ⟨rfl, HB0.out⟩
  have h1' : ¬ (128 : Int) < (nv : Int) := by omega
  rw [decide_eq_false (show ¬ 128 < nv by omega), Bool.false_or]
  clear h1
  rcases Nat.lt_or_ge 64 nc with h2 | h2
  · have h2' : (64 : Int) < (nc : Int) := by omega
    rw [decide_eq_true h2, Bool.true_or, Bool.true_or]
    clear h2
    go_enter Tryd.func71, Tryd.ntmps71
    go_wp2_with fail
    go_ret
    exact ⟨rfl, HB0.out⟩
  have h2' : ¬ (64 : Int) < (nc : Int) := by omega
  rw [decide_eq_false (show ¬ 64 < nc by omega), Bool.false_or]
  clear h2
  rcases Nat.lt_or_ge 8 nl with h3 | h3
  · have h3' : (8 : Int) < (nl : Int) := by omega
    rw [decide_eq_true h3, Bool.true_or, Bool.true_or]
    clear h3
    go_enter Tryd.func71, Tryd.ntmps71
    go_wp2_with fail
    go_ret
    exact ⟨rfl, HB0.out⟩
  have h3' : ¬ (8 : Int) < (nl : Int) := by omega
  rw [decide_eq_false (show ¬ 8 < nl by omega), Bool.false_or]
  clear h3
  rcases Nat.lt_or_ge 2048 ni with h4 | h4
  · have h4' : (2048 : Int) < (ni : Int) := by omega
    rw [decide_eq_true h4, Bool.true_or]
    clear h4
    go_enter Tryd.func71, Tryd.ntmps71
    go_wp2_with fail
    go_ret
    exact ⟨rfl, HB0.out⟩
  have h4' : ¬ (2048 : Int) < (ni : Int) := by omega
  rw [decide_eq_false (show ¬ 2048 < ni by omega), Bool.false_or]
  clear h4
  go_enter Tryd.func71, Tryd.ntmps71
  go_wp2_with fail
  refine HM.out.mono ?_
  rintro e w2 ⟨rfl, hw2⟩
  have hr2 := HRW.out.below hw2 HRW.out.lt
  have hb2' := HB0.out.trans (hw2.mono HB0.out.size)
  have HB2 := hide hb2'
  have c0 : w2.cell? ⟨w.heap.size, 0, none⟩ = some (.int .i64 p.size) := hr2.cell 0
  have c1 : w2.cell? ⟨w.heap.size, 1, none⟩ = some (.slice p.V nv p.vc) := hr2.cell 1
  have c2 : w2.cell? ⟨w.heap.size, 2, none⟩ = some (.slice p.C nc p.cc) := hr2.cell 2
  have c3 : w2.cell? ⟨w.heap.size, 3, none⟩ = some (.slice p.L nl p.lc) := hr2.cell 3
  have c4 : w2.cell? ⟨w.heap.size, 4, none⟩ = some (.slice p.K ni p.kc) := hr2.cell 4
  have c5 : w2.cell? ⟨w.heap.size, 5, none⟩ = some (.int .i64 p.inp) := hr2.cell 5
  have c6 : w2.cell? ⟨w.heap.size, 6, none⟩ = some (.int .i64 p.out) := hr2.cell 6
  have HDD := hide (HD.out w2 hb2')
  clear HM hw2 hr2 hb2' HRW HB0 HD h1' h2' h3' h4'
  cases b1
  · go_wp2_with fail
    refine HDD.out.mono ?_
    rintro e w3 ⟨⟨A, c, rfl, hrw⟩, hw3⟩
    have HB3 := hide (HB2.out.trans (hw3.mono HB2.out.size))
    have HPP := hide (HDP.out w3 A c hrw)
    clear HDD hw3 hrw HDP HB2 c0 c1 c2 c3 c4 c5 c6
    go_wp2_with fail
    refine HPP.out.mono ?_
    rintro e w4 ⟨rfl, hw4⟩
    have HB4 := hide (HB3.out.trans (hw4.mono HB3.out.size))
    clear HPP hw4
    go_wp2_with fail
    go_ret
    exact ⟨rfl, HB4.out⟩
  · go_wp2_with fail
    go_ret
    exact ⟨rfl, HB2.out⟩
/-- A number that has no room in its bytes. -/
def Pl.broad (p : Pn) : Bool := [p.size, p.inp, p.out].any Pl.far || ((p.vs.any fun v => [v.off].any Pl.far) || ((p.descs.any fun d => d.zs.any Pl.dim) || p.is.any Pl.wrong))
set_option maxRecDepth 100000 in
set_option maxHeartbeats 4000000 in
theorem inrange_c (p : Pn) (w : World) (hP : p.In w) :
    Calls Tryd.prog 72 #[.agg #[.int .i64 p.size, .slice p.V p.vs.length p.vc, .slice p.C p.cs.length p.cc, .slice p.L p.ls.length p.lc, .slice p.K p.is.length p.kc, .int .i64 p.inp, .int .i64 p.out]] w fun e w' => e = .returned (.bool (!Pl.broad p)) ∧ Below w.heap.size w w' := by
  have hb0 := (Below.refl w.heap.size w).alloc (Nat.le_refl _) (.cells #[.int .i64 p.size, .slice p.V p.vs.length p.vc, .slice p.C p.cs.length p.cc, .slice p.L p.ls.length p.lc, .slice p.K p.is.length p.kc, .int .i64 p.inp, .int .i64 p.out] 27)
  have hrow := plan_box p w
  have F3 : Hid (Calls Tryd.prog 93 #[.slice (some ⟨w.heap.size + 1, 0, none⟩) 3 3] ((w.alloc (.cells #[.int .i64 p.size, .slice p.V p.vs.length p.vc, .slice p.C p.cs.length p.cc, .slice p.L p.ls.length p.lc, .slice p.K p.is.length p.kc, .int .i64 p.inp, .int .i64 p.out] 27)).alloc (.cells #[.int .i64 p.size, .int .i64 p.inp, .int .i64 p.out] 3)) fun e w' => e = .returned (.bool (![p.size, p.inp, p.out].any Pl.far)) ∧ Below ((w.alloc (.cells #[.int .i64 p.size, .slice p.V p.vs.length p.vc, .slice p.C p.cs.length p.cc, .slice p.L p.ls.length p.lc, .slice p.K p.is.length p.kc, .int .i64 p.inp, .int .i64 p.out] 27)).alloc (.cells #[.int .i64 p.size, .int .i64 p.inp, .int .i64 p.out] 3)).heap.size ((w.alloc (.cells #[.int .i64 p.size, .slice p.V p.vs.length p.vc, .slice p.C p.cs.length p.cc, .slice p.L p.ls.length p.lc, .slice p.K p.is.length p.kc, .int .i64 p.inp, .int .i64 p.out] 27)).alloc (.cells #[.int .i64 p.size, .int .i64 p.inp, .int .i64 p.out] 3)) w') := hide (by
    have h := fits_wide [p.size, p.inp, p.out] _ 3 _ (new_rc (w.alloc (.cells #[.int .i64 p.size, .slice p.V p.vs.length p.vc, .slice p.C p.cs.length p.cc, .slice p.L p.ls.length p.lc, .slice p.K p.is.length p.kc, .int .i64 p.inp, .int .i64 p.out] 27)) 3 [p.size, p.inp, p.out]) (by simp)
    rw [show (w.alloc (.cells #[.int .i64 p.size, .slice p.V p.vs.length p.vc, .slice p.C p.cs.length p.cc, .slice p.L p.ls.length p.lc, .slice p.K p.is.length p.kc, .int .i64 p.inp, .int .i64 p.out] 27)).heap.size = w.heap.size + 1 by simp] at h
    exact h)
  have HVS := hide (fun (W : World) (hb : Below w.heap.size w W) => hP.V.below hb)
  have HWR := hide (fun (W : World) (hb : Below w.heap.size w W) => has_wrong p.is p.K p.kc W (hP.K.below hb) (fun x hx => (hP.is x hx).below hb) hP.li)
  have HD := hide (fun (W : World) (hb : Below w.heap.size w W) => pdescs_c p W (hP.below hb))
  have HDI := hide (fun (W : World) (hb : Below w.heap.size w W) (d : Dsc) (hd : d ∈ p.descs) => show Calls Tryd.prog 94 #[.slice d.P d.zs.length d.cap, .func (.func 95) #[] #[]] W fun e w' => e = .returned (.bool (d.zs.any Pl.dim)) ∧ Below W.heap.size W w' from by
    have hi : d.In w := by
      rcases List.mem_append.1 hd with hd | hd
      · obtain ⟨v, hv, rfl⟩ := List.mem_map.1 hd
        exact (hP.vs v hv).d
      · exact hP.ls d hd
    exact has_dim d.zs d.P d.cap W (hi.shp.below hb).rc hi.ls)
  have HLV := hide hP.lv
  obtain ⟨nv, hnv⟩ : ∃ y, Hid (p.vs.length = y) := ⟨_, hide rfl⟩
  obtain ⟨nc, hnc⟩ : ∃ y, Hid (p.cs.length = y) := ⟨_, hide rfl⟩
  obtain ⟨nl, hnl⟩ : ∃ y, Hid (p.ls.length = y) := ⟨_, hide rfl⟩
  obtain ⟨ni, hni⟩ : ∃ y, Hid (p.is.length = y) := ⟨_, hide rfl⟩
  obtain ⟨b1, hb1⟩ : ∃ y, Hid ([p.size, p.inp, p.out].any Pl.far = y) := ⟨_, hide rfl⟩
  obtain ⟨b4, hb4⟩ : ∃ y, Hid (p.is.any Pl.wrong = y) := ⟨_, hide rfl⟩
  obtain ⟨G2, hG2⟩ : ∃ y, Hid ((p.vs.any fun v => [v.off].any Pl.far) = y) := ⟨_, hide rfl⟩
  obtain ⟨G3, hG3⟩ : ∃ y, Hid ((p.descs.any fun d => d.zs.any Pl.dim) = y) := ⟨_, hide rfl⟩
  obtain ⟨nd, hnd⟩ : ∃ y, Hid (p.descs.length = y) := ⟨_, hide rfl⟩
  have HND : Hid (nd ≤ 2000000) := hide (by rw [← hnd.out]; unfold Pn.descs; rw [List.length_append, List.length_map]; have := hP.lv; have := hP.ll; omega)
  unfold Pl.broad
  rw [hb1.out, hb4.out, hG2.out, hG3.out, hnv.out, hnc.out, hnl.out, hni.out]
  rw [hnv.out, hnc.out, hnl.out, hni.out] at hb0 hrow
  rw [hnv.out, hnc.out, hnl.out, hni.out, hb1.out] at F3
  rw [hnv.out, hnc.out, hnl.out, hni.out, hnd.out] at HD
  rw [hni.out, hb4.out] at HWR
  rw [hnv.out] at HLV
  have HB0 := hide (hb0.alloc hb0.size (.cells #[.int .i64 p.size, .int .i64 p.inp, .int .i64 p.out] 3))
  have HRW := hide (hrow.alloc (.cells #[.int .i64 p.size, .int .i64 p.inp, .int .i64 p.out] 3))
  clear hP hb0 hrow
  go_enter Tryd.func72, Tryd.ntmps72
  go_wp2_with fail
  refine F3.out.mono ?_
  rintro e w2 ⟨rfl, hw2⟩
  have hr2 := HRW.out.below hw2 HRW.out.lt
  have HB2 := hide (HB0.out.trans (hw2.mono HB0.out.size))
  have c1 : w2.cell? ⟨w.heap.size, 1, none⟩ = some (.slice p.V nv p.vc) := hr2.cell 1
  have HR2 := hide hr2
  clear F3 hw2 HRW HB0 hr2
  cases b1
  case true =>
    go_wp2_with fail
    go_ret
    exact ⟨by simp, HB2.out⟩
  case false =>
  go_wp2_with fail
  go_loopw [19] (fun k wr => ∃ i : Nat, i ≤ nv ∧ k = .int .i64 i ∧ Hid (Below w.heap.size w wr) ∧ Hid (Has wr w.heap.size 27 [.int .i64 p.size, .slice p.V nv p.vc, .slice p.C nc p.cc, .slice p.L nl p.lc, .slice p.K ni p.kc, .int .i64 p.inp, .int .i64 p.out]) ∧ Hid (((p.vs.drop i).any fun v => [v.off].any Pl.far) = G2)) (fun k _ => nv - (intOf k).toNat)
  case atStart => exact ⟨0, by omega, rfl, HB2, HR2, hG2⟩
  case round =>
    clear HB2 HR2 c1
    obtain ⟨i, hi, rfl, HB, HRW, HK⟩ := hrel
    by_cases hlt : i < nv
    · have hii : (i : Int) < (nv : Int) := by omega
      have hnb : nv ≤ 1000000 := HLV.out
      obtain ⟨ad, x, hBad, had, hd, c0, c1, c2⟩ := row_vw (HVS.out wr HB.out) i (by rw [hnv.out]; exact hlt)
      rw [hBad]
      have hk := HK.out
      rw [any_drop _ p.vs i x hd.out] at hk
      have hsz : (wr.alloc (.cells #[.int .i64 x.off, .slice x.d.P x.d.zs.length x.d.cap, .bool x.d.u] 61)).heap.size = wr.heap.size + 1 := by simp
      have F1 : Hid (Calls Tryd.prog 93 #[.slice (some ⟨wr.heap.size + 1, 0, none⟩) 1 1] ((wr.alloc (.cells #[.int .i64 x.off, .slice x.d.P x.d.zs.length x.d.cap, .bool x.d.u] 61)).alloc (.cells #[.int .i64 x.off] 3)) fun e w' => e = .returned (.bool (![x.off].any Pl.far)) ∧ Below ((wr.alloc (.cells #[.int .i64 x.off, .slice x.d.P x.d.zs.length x.d.cap, .bool x.d.u] 61)).alloc (.cells #[.int .i64 x.off] 3)).heap.size ((wr.alloc (.cells #[.int .i64 x.off, .slice x.d.P x.d.zs.length x.d.cap, .bool x.d.u] 61)).alloc (.cells #[.int .i64 x.off] 3)) w') := hide (by
        have h := fits_wide [x.off] _ 1 _ (new_rc (wr.alloc (.cells #[.int .i64 x.off, .slice x.d.P x.d.zs.length x.d.cap, .bool x.d.u] 61)) 3 [x.off]) (by simp)
        rw [hsz] at h
        exact h)
      have hb1 := HB.out.alloc HB.out.size (.cells #[.int .i64 x.off, .slice x.d.P x.d.zs.length x.d.cap, .bool x.d.u] 61)
      have HB2 := hide (hb1.alloc hb1.size (.cells #[.int .i64 x.off] 3))
      have HR2 := hide ((HRW.out.alloc (.cells #[.int .i64 x.off, .slice x.d.P x.d.zs.length x.d.cap, .bool x.d.u] 61)).alloc (.cells #[.int .i64 x.off] 3))
      obtain ⟨q, hq⟩ : ∃ y, Hid ([x.off].any Pl.far = y) := ⟨_, hide rfl⟩
      rw [hq.out] at F1 hk
      have HKf := hide hk
      clear hk hb1 hsz had HK HB HRW
      go_wp2_with fail
      refine F1.out.mono ?_
      rintro e w3 ⟨rfl, hw3⟩
      have HB3 := hide (HB2.out.trans (hw3.mono HB2.out.size))
      have HR3 := hide (HR2.out.below hw3 HR2.out.lt)
      clear F1 hw3 HB2 HR2 c0 c1 c2
      cases q
      · go_wp2_with fail
        go_roundw
        case rel => exact ⟨i + 1, by omega, by go_num, HB3, (by have h := HR3.out; rw [hBad] at h; exact hide h), hide (by rw [← HKf.out, Bool.false_or])⟩
        case measure => simp [intOf]; omega
      · go_wp2_with fail
        go_ret
        exact ⟨by rw [← HKf.out]; simp, HB3.out⟩
    · obtain rfl : i = nv := by omega
      have hk := HK.out
      rw [List.drop_eq_nil_of_le (by rw [hnv.out]; exact Nat.le_refl _)] at hk
      have HG2F : Hid (G2 = false) := hide hk.symm
      have hr := HRW.out
      have c0 : wr.cell? ⟨w.heap.size, 0, none⟩ = some (.int .i64 p.size) := hr.cell 0
      have c1 : wr.cell? ⟨w.heap.size, 1, none⟩ = some (.slice p.V i p.vc) := hr.cell 1
      have c2 : wr.cell? ⟨w.heap.size, 2, none⟩ = some (.slice p.C nc p.cc) := hr.cell 2
      have c3 : wr.cell? ⟨w.heap.size, 3, none⟩ = some (.slice p.L nl p.lc) := hr.cell 3
      have c4 : wr.cell? ⟨w.heap.size, 4, none⟩ = some (.slice p.K ni p.kc) := hr.cell 4
      have c5 : wr.cell? ⟨w.heap.size, 5, none⟩ = some (.int .i64 p.inp) := hr.cell 5
      have c6 : wr.cell? ⟨w.heap.size, 6, none⟩ = some (.int .i64 p.out) := hr.cell 6
      have HDD := hide (HD.out wr HB.out)
      clear hk hr HK HD
      go_wp2_with fail
      refine HDD.out.mono ?_
      rintro e w3 ⟨⟨A, c, rfl, hrw⟩, hw3⟩
      have HB3 := hide (HB.out.trans (hw3.mono HB.out.size))
      have HR3 := hide (HRW.out.below hw3 HRW.out.lt)
      have HRD := hide (fun (W : World) (hb : Below w3.heap.size w3 W) => hrw.below hb)
      have HBB := hide (Below.refl w3.heap.size w3)
      have HLE := hide HB3.out.size
      clear HDD hw3 hrw HB HRW c0 c1 c2 c3 c4 c5 c6
      go_wp2_with fail
      go_loopw [32] (fun k wr => ∃ j : Nat, j ≤ nd ∧ k = .int .i64 j ∧ Hid (Below w3.heap.size w3 wr) ∧ Hid (((p.descs.drop j).any fun d => d.zs.any Pl.dim) = G3)) (fun k _ => nd - (intOf k).toNat)
      case atStart => exact ⟨0, by omega, rfl, HBB, hG3⟩
      case round =>
        obtain ⟨wb, hwb⟩ : ∃ W, W = wr := ⟨_, rfl⟩
        subst hwb
        clear HBB
        obtain ⟨j, hj, rfl, HB, HK⟩ := hrel
        by_cases hlt2 : j < nd
        · have hjj : (j : Int) < (nd : Int) := by omega
          have hnb : nd ≤ 2000000 := HND.out
          obtain ⟨ad, x, hBad, had, hd, c0, c1⟩ := row_dsc (HRD.out wb HB.out) j (by rw [hnd.out]; exact hlt2)
          subst hBad
          have hk := HK.out
          rw [any_drop _ p.descs j x hd.out] at hk
          have hb1 := HB.out.alloc HB.out.size (.cells #[.slice x.P x.zs.length x.cap, .bool x.u] 59)
          have HB1 := hide hb1
          have HC1 := hide (HDI.out _ (HB3.out.trans (hb1.mono HLE.out)) x (List.mem_of_getElem? hd.out))
          obtain ⟨q, hq⟩ : ∃ y, Hid (x.zs.any Pl.dim = y) := ⟨_, hide rfl⟩
          rw [hq.out] at HC1 hk
          have HKf := hide hk
          clear hk hb1 had HK HB
          go_wp2_with fail
          refine HC1.out.mono ?_
          rintro e w4 ⟨rfl, hw4⟩
          have HB4 := hide (HB1.out.trans (hw4.mono HB1.out.size))
          clear HC1 hw4 HB1 c0 c1
          cases q
          · go_wp2_with fail
            go_roundw
            case rel => exact ⟨j + 1, by omega, by go_num, HB4, hide (by rw [← HKf.out, Bool.false_or])⟩
            case measure => simp [intOf]; omega
          · go_wp2_with fail
            go_ret
            exact ⟨by rw [← HKf.out]; simp, HB3.out.trans (HB4.out.mono HLE.out)⟩
        · obtain rfl : j = nd := by omega
          have hk := HK.out
          rw [List.drop_eq_nil_of_le (by rw [hnd.out]; exact Nat.le_refl _)] at hk
          have HG3F : Hid (G3 = false) := hide hk.symm
          have hr := HR3.out.below HB.out HR3.out.lt
          have c4 : wb.cell? ⟨w.heap.size, 4, none⟩ = some (.slice p.K ni p.kc) := hr.cell 4
          have HB5 := hide (HB3.out.trans (HB.out.mono HLE.out))
          have HW5 := hide (HWR.out wb HB5.out)
          clear hk hr HK HB HR3
          go_wp2_with fail
          refine HW5.out.mono ?_
          rintro e w5 ⟨rfl, hw5⟩
          have HB6 := hide (HB5.out.trans (hw5.mono HB5.out.size))
          clear HW5 hw5
          go_wp2_with fail
          go_ret
          exact ⟨by rw [HG2F.out, HG3F.out]; rfl, HB6.out⟩
end Go.Proofs.YthjnkaikjjjceaaDoor
