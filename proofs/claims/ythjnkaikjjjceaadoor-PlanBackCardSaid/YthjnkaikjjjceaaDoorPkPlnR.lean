/-
  plan.sameView, plan.sameInstr, slices.EqualFunc of views, tensors, descs, instructions. By an AI agent. No person has read it.
-/
import Derived.Test.YthjnkaikjjjceaaDoorPkPlnK
import Derived.Test.YthjnkaikjjjceaaDoorPkTenRk
namespace Go.Proofs.YthjnkaikjjjceaaDoor
open Go.RowKit
set_option maxRecDepth 100000 in
set_option maxHeartbeats 4000000 in
theorem samevw_c (x y : Vw) (w : World) (hx : x.In w) (hy : y.In w) :
    Calls Tryd.prog 45 #[.agg #[.int .i64 x.off, .slice x.d.P x.d.zs.length x.d.cap, .bool x.d.u], .agg #[.int .i64 y.off, .slice y.d.P y.d.zs.length y.d.cap, .bool y.d.u]] w fun e w' => e = .returned (.bool (decide (x.pl = y.pl))) ∧ Below w.heap.size w w' := by
  have hb0 := ((Below.refl w.heap.size w).alloc (Nat.le_refl _) (.cells #[.int .i64 x.off, .slice x.d.P x.d.zs.length x.d.cap, .bool x.d.u] 61)).alloc (by simp) (.cells #[.int .i64 y.off, .slice y.d.P y.d.zs.length y.d.cap, .bool y.d.u] 61)
  have HS := hide (same_c x.d.zs y.d.zs x.d.P y.d.P x.d.cap y.d.cap x.d.u y.d.u _ (hx.d.shp.below hb0) (hy.d.shp.below hb0) hx.d.ls hy.d.ls)
  have HB := hide hb0
  have HQ : Hid (x.off = y.off → decide (x.pl = y.pl) = (decide (x.d.zs = y.d.zs) && (x.d.u == y.d.u))) := hide (by
    intro h
    unfold Vw.pl
    rw [Bool.eq_iff_iff]
    simp [h])
  have HN : Hid (x.off ≠ y.off → decide (x.pl = y.pl) = false) := hide (by
    intro h
    rw [decide_eq_false_iff_not]
    exact fun e => h (congrArg Prod.fst e))
  obtain ⟨D, hD⟩ : ∃ D, Hid (decide (x.pl = y.pl) = D) := ⟨_, hide rfl⟩
  obtain ⟨S, hS⟩ : ∃ D, Hid ((decide (x.d.zs = y.d.zs) && (x.d.u == y.d.u)) = D) := ⟨_, hide rfl⟩
  rw [hD.out] at HQ HN ⊢
  rw [hS.out] at HQ HS
  obtain ⟨n, hn⟩ : ∃ n, Hid (x.d.zs.length = n) := ⟨_, hide rfl⟩
  obtain ⟨m, hm⟩ : ∃ n, Hid (y.d.zs.length = n) := ⟨_, hide rfl⟩
  rw [hn.out, hm.out] at HS HB ⊢
  clear hx hy hb0 hD hS
  by_cases ho : x.off = y.off
  · have hq := HQ.out ho
    have HQ2 := hide hq
    have hoq : (x.off == y.off) = true := by rw [ho]; exact beq_self_eq_true _
    clear ho hq HQ HN
    go_enter Tryd.func45, Tryd.ntmps45
    go_wp2_with fail
    refine HS.out.mono ?_
    rintro e w1 ⟨rfl, hb⟩
    have HB1 := hide (HB.out.trans (hb.mono HB.out.size))
    clear hb HS
    go_wp2_with fail
    go_ret
    exact ⟨by rw [HQ2.out]; rfl, HB1.out⟩
  · have hq := HN.out ho
    subst hq
    have hoq : (x.off == y.off) = false := by rw [beq_eq_false_iff_ne]; exact ho
    go_enter Tryd.func45, Tryd.ntmps45
    go_wp2_with fail
    go_ret
    exact ⟨rfl, HB.out⟩
set_option maxRecDepth 100000 in
set_option maxHeartbeats 4000000 in
theorem sameins_c (x y : Ins) (w : World) (hx : x.In w) (hy : y.In w) :
    Calls Tryd.prog 51 #[.agg #[.int .i64 x.op, .int .i64 x.dst, .slice x.I x.is.length x.ic, .slice x.G x.gs.length x.gc, .int .i64 x.fr, .int .i64 x.to], .agg #[.int .i64 y.op, .int .i64 y.dst, .slice y.I y.is.length y.ic, .slice y.G y.gs.length y.gc, .int .i64 y.fr, .int .i64 y.to]] w fun e w' => e = .returned (.bool (decide (x.pl = y.pl))) ∧ Below w.heap.size w w' := by
  have hb0 := ((Below.refl w.heap.size w).alloc (Nat.le_refl _) (.cells #[.int .i64 x.op, .int .i64 x.dst, .slice x.I x.is.length x.ic, .slice x.G x.gs.length x.gc, .int .i64 x.fr, .int .i64 x.to] 48)).alloc (by simp) (.cells #[.int .i64 y.op, .int .i64 y.dst, .slice y.I y.is.length y.ic, .slice y.G y.gs.length y.gc, .int .i64 y.fr, .int .i64 y.to] 48)
  have HI := hide (equal_c x.is y.is x.I y.I x.ic y.ic _ (hx.is.below hb0) (hy.is.below hb0) hx.li hy.li)
  have HG := hide (fun (W : World) (hb : Below w.heap.size w W) => equal_c x.gs y.gs x.G y.G x.gc y.gc W (hx.gs.below hb) (hy.gs.below hb) hx.lg hy.lg)
  have HB := hide hb0
  have hrx : Has ((w.alloc (.cells #[.int .i64 x.op, .int .i64 x.dst, .slice x.I x.is.length x.ic, .slice x.G x.gs.length x.gc, .int .i64 x.fr, .int .i64 x.to] 48)).alloc (.cells #[.int .i64 y.op, .int .i64 y.dst, .slice y.I y.is.length y.ic, .slice y.G y.gs.length y.gc, .int .i64 y.fr, .int .i64 y.to] 48)) w.heap.size 48 [.int .i64 x.op, .int .i64 x.dst, .slice x.I x.is.length x.ic, .slice x.G x.gs.length x.gc, .int .i64 x.fr, .int .i64 x.to] := (Has.new w _ _).alloc _
  have hry : Has ((w.alloc (.cells #[.int .i64 x.op, .int .i64 x.dst, .slice x.I x.is.length x.ic, .slice x.G x.gs.length x.gc, .int .i64 x.fr, .int .i64 x.to] 48)).alloc (.cells #[.int .i64 y.op, .int .i64 y.dst, .slice y.I y.is.length y.ic, .slice y.G y.gs.length y.gc, .int .i64 y.fr, .int .i64 y.to] 48)) (w.heap.size + 1) 48 [.int .i64 y.op, .int .i64 y.dst, .slice y.I y.is.length y.ic, .slice y.G y.gs.length y.gc, .int .i64 y.fr, .int .i64 y.to] := by
    have h := Has.new (w.alloc (.cells #[.int .i64 x.op, .int .i64 x.dst, .slice x.I x.is.length x.ic, .slice x.G x.gs.length x.gc, .int .i64 x.fr, .int .i64 x.to] 48)) 48 [.int .i64 y.op, .int .i64 y.dst, .slice y.I y.is.length y.ic, .slice y.G y.gs.length y.gc, .int .i64 y.fr, .int .i64 y.to]
    have e : (w.alloc (.cells #[.int .i64 x.op, .int .i64 x.dst, .slice x.I x.is.length x.ic, .slice x.G x.gs.length x.gc, .int .i64 x.fr, .int .i64 x.to] 48)).heap.size = w.heap.size + 1 := by simp
    rw [e] at h
    exact h
  have HQ : Hid (x.op = y.op → x.dst = y.dst → x.fr = y.fr → x.to = y.to → decide (x.pl = y.pl) = (decide (x.is = y.is) && decide (x.gs = y.gs))) := hide (by
    intro h1 h2 h3 h4
    unfold Ins.pl
    rw [Bool.eq_iff_iff]
    simp [h1, h2, h3, h4])
  have HN : Hid (x.pl ≠ y.pl → decide (x.pl = y.pl) = false) := hide (fun h => decide_eq_false h)
  obtain ⟨D, hD⟩ : ∃ D, Hid (decide (x.pl = y.pl) = D) := ⟨_, hide rfl⟩
  obtain ⟨S1, hS1⟩ : ∃ D, Hid (decide (x.is = y.is) = D) := ⟨_, hide rfl⟩
  obtain ⟨S2, hS2⟩ : ∃ D, Hid (decide (x.gs = y.gs) = D) := ⟨_, hide rfl⟩
  rw [hD.out] at HQ HN ⊢
  rw [hS1.out, hS2.out] at HQ
  rw [hS1.out] at HI
  rw [hS2.out] at HG
  obtain ⟨a1, ha1⟩ : ∃ n, Hid (x.is.length = n) := ⟨_, hide rfl⟩
  obtain ⟨a2, ha2⟩ : ∃ n, Hid (x.gs.length = n) := ⟨_, hide rfl⟩
  obtain ⟨b1, hb1⟩ : ∃ n, Hid (y.is.length = n) := ⟨_, hide rfl⟩
  obtain ⟨b2, hb2⟩ : ∃ n, Hid (y.gs.length = n) := ⟨_, hide rfl⟩
  rw [ha1.out, ha2.out, hb1.out, hb2.out] at HI HB hrx hry ⊢
  rw [ha2.out, hb2.out] at HG
  have HRX := hide hrx
  have HRY := hide hry
  clear hx hy hb0 hD hS1 hS2 hrx hry
  by_cases hop : x.op = y.op
  case neg =>
    have hq := HN.out fun e => hop (congrArg InP.op e)
    subst hq
    have hoq : (x.op == y.op) = false := by rw [beq_eq_false_iff_ne]; exact hop
    go_enter Tryd.func51, Tryd.ntmps51
    go_wp2_with fail
    go_ret
    exact ⟨rfl, HB.out⟩
  have qop : (x.op == y.op) = true := by rw [hop]; exact beq_self_eq_true _
  have Hop := hide hop
  clear hop
  by_cases hdst : x.dst = y.dst
  case neg =>
    have hq := HN.out fun e => hdst (congrArg InP.dst e)
    subst hq
    have hoq : (x.dst == y.dst) = false := by rw [beq_eq_false_iff_ne]; exact hdst
    go_enter Tryd.func51, Tryd.ntmps51
    go_wp2_with fail
    go_ret
    exact ⟨rfl, HB.out⟩
  have qdst : (x.dst == y.dst) = true := by rw [hdst]; exact beq_self_eq_true _
  have Hdst := hide hdst
  clear hdst
  by_cases hfr : x.fr = y.fr
  case neg =>
    have hq := HN.out fun e => hfr (congrArg InP.fr e)
    subst hq
    have hoq : (x.fr == y.fr) = false := by rw [beq_eq_false_iff_ne]; exact hfr
    go_enter Tryd.func51, Tryd.ntmps51
    go_wp2_with fail
    go_ret
    exact ⟨rfl, HB.out⟩
  have qfr : (x.fr == y.fr) = true := by rw [hfr]; exact beq_self_eq_true _
  have Hfr := hide hfr
  clear hfr
  by_cases hto : x.to = y.to
  case neg =>
    have hq := HN.out fun e => hto (congrArg InP.to e)
    subst hq
    have hoq : (x.to == y.to) = false := by rw [beq_eq_false_iff_ne]; exact hto
    go_enter Tryd.func51, Tryd.ntmps51
    go_wp2_with fail
    go_ret
    exact ⟨rfl, HB.out⟩
  have qto : (x.to == y.to) = true := by rw [hto]; exact beq_self_eq_true _
  have Hto := hide hto
  clear hto
  have hq := HQ.out Hop.out Hdst.out Hfr.out Hto.out
  subst hq
  clear HQ HN
  go_enter Tryd.func51, Tryd.ntmps51
  go_wp2_with fail
  refine HI.out.mono ?_
  rintro e w1 ⟨rfl, hb⟩
  have hbw := HB.out.trans (hb.mono HB.out.size)
  have HB1 := hide hbw
  have c3 : w1.cell? ⟨w.heap.size, 3, none⟩ = some (.slice x.G a2 x.gc) := (HRX.out.below hb HRX.out.lt).cell 3
  have d3 : w1.cell? ⟨w.heap.size + 1, 3, none⟩ = some (.slice y.G b2 y.gc) := (HRY.out.below hb HRY.out.lt).cell 3
  have HG1 := hide (HG.out w1 hbw)
  clear HI HG hb hbw HRX HRY HB
  cases S1
  case false =>
    go_wp2_with fail
    go_ret
    exact ⟨rfl, HB1.out⟩
  case true =>
    go_wp2_with fail
    refine HG1.out.mono ?_
    rintro e w2 ⟨rfl, hb⟩
    have HB2 := hide (HB1.out.trans (hb.mono HB1.out.size))
    clear HG1 hb
    go_wp2_with fail
    go_ret
    exact ⟨by simp, HB2.out⟩
theorem sameten_c (x y : Ten) (w : World) (hx : x.In w) (hy : y.In w) :
    Calls Tryd.prog 47 #[.agg #[.slice x.P x.zs.length x.cap, .bool x.u, .slice x.D x.ds.length x.dcap], .agg #[.slice y.P y.zs.length y.cap, .bool y.u, .slice y.D y.ds.length y.dcap]] w fun e w' => e = .returned (.bool (decide (x.pl = y.pl))) ∧ Below w.heap.size w w' := by
  have h := tsame_c x.zs y.zs x.ds y.ds x.P y.P x.D y.D x.cap y.cap x.dcap y.dcap x.u y.u w hx.shp hy.shp hx.dat hy.dat hx.ls hy.ls hx.ld hy.ld
  have e : ((decide (x.zs = y.zs) && (x.u == y.u)) && decide (x.ds = y.ds)) = decide (x.pl = y.pl) := by
    unfold Ten.pl
    rw [Bool.eq_iff_iff]
    simp [and_assoc]
  rw [e] at h
  exact h
theorem samedsc_c (x y : Dsc) (w : World) (hx : x.In w) (hy : y.In w) :
    Calls Tryd.prog 49 #[.agg #[.slice x.P x.zs.length x.cap, .bool x.u], .agg #[.slice y.P y.zs.length y.cap, .bool y.u]] w fun e w' => e = .returned (.bool (decide (x.pl = y.pl))) ∧ Below w.heap.size w w' := by
  have h := same_c x.zs y.zs x.P y.P x.cap y.cap x.u y.u w hx.shp hy.shp hx.ls hy.ls
  have e : (decide (x.zs = y.zs) && (x.u == y.u)) = decide (x.pl = y.pl) := by
    unfold Dsc.pl
    rw [Bool.eq_iff_iff]
    simp
  rw [e] at h
  exact h
set_option maxRecDepth 100000 in
set_option maxHeartbeats 4000000 in
theorem equal_vw (us vs : List Vw) (A B : Option Addr) (ca cb : Nat) (w : World) (hA : Row w A (us.flatMap Vw.vals)) (hB : Row w B (vs.flatMap Vw.vals)) (hI : ∀ x ∈ us, x.In w) (hJ : ∀ x ∈ vs, x.In w) (hl : us.length ≤ 1000000) (hm : vs.length ≤ 1000000) :
    Calls Tryd.prog 44 #[.slice A us.length ca, .slice B vs.length cb, .func (.func 45) #[] #[]] w fun e w' => e = .returned (.bool (decide (us.map Vw.pl = vs.map Vw.pl))) ∧ Below w.heap.size w w' := by
  have eg : ∀ args w, (callFunc 45 args).run Tryd.prog w = .ok (.enter 45 args) w := enters_of Tryd.func45 (by kernel_rfl) rfl
  have HA := hide hA
  have HB2 := hide hB
  have HI := hide hI
  have HJ := hide hJ
  obtain ⟨n, hn⟩ : ∃ n, Hid (us.length = n) := ⟨_, hide rfl⟩
  obtain ⟨m, hmm⟩ : ∃ n, Hid (vs.length = n) := ⟨_, hide rfl⟩
  obtain ⟨D, hD⟩ : ∃ D, Hid (decide (us.map Vw.pl = vs.map Vw.pl) = D) := ⟨_, hide rfl⟩
  rw [hD.out]
  rw [hn.out] at hl ⊢
  rw [hmm.out] at hm ⊢
  clear hA hB hI hJ
  by_cases hnm : n = m
  case neg =>
    have hDf : D = false := by
      rw [← hD.out, decide_eq_false_iff_not]
      intro h
      have h2 := congrArg List.length h
      rw [List.length_map, List.length_map, hn.out, hmm.out] at h2
      exact hnm h2
    subst hDf
    have hi : ¬ (n : Int) = (m : Int) := by omega
    have hq : ((n : Int) == (m : Int)) = false := by rw [beq_eq_false_iff_ne]; exact hi
    go_enter Tryd.func44, Tryd.ntmps44
    go_wp2_with fail
    go_ret
    exact ⟨rfl, Below.refl _ _⟩
  subst hnm
  go_enter Tryd.func44, Tryd.ntmps44
  go_wp2_with fail
  go_loopw [17] (fun k wr => ∃ i : Nat, i ≤ n ∧ k = .int .i64 i ∧ Hid (Below w.heap.size w wr) ∧ Hid ((us.take i).map Vw.pl = (vs.take i).map Vw.pl)) (fun k _ => n - (intOf k).toNat)
  case atStart => exact ⟨0, by omega, rfl, hide (Below.refl _ _), hide rfl⟩
  case round =>
    obtain ⟨i, hi, rfl, HB, HK⟩ := hrel
    by_cases hlt : i < n
    · have hii : (i : Int) < (n : Int) := by omega
      obtain ⟨ad, x, hAad, had, hd, c0, c1, c2⟩ := row_vw (HA.out.below HB.out) i (by rw [hn.out]; exact hlt)
      have hb1 := HB.out.alloc HB.out.size (.cells #[.int .i64 x.off, .slice x.d.P x.d.zs.length x.d.cap, .bool x.d.u] 61)
      obtain ⟨ad2, y, hBad, had2, hd2, d0, d1, d2⟩ := row_vw (HB2.out.below hb1) i (by rw [hmm.out]; exact hlt)
      have hb2 := hb1.alloc hb1.size (.cells #[.int .i64 y.off, .slice y.d.P y.d.zs.length y.d.cap, .bool y.d.u] 61)
      have HP := hide (samevw_c x y _ ((HI.out x (List.mem_of_getElem? hd.out)).below hb2) ((HJ.out y (List.mem_of_getElem? hd2.out)).below hb2))
      have HBB := hide hb2
      have HTK : Hid (x.pl = y.pl → (us.take (i + 1)).map Vw.pl = (vs.take (i + 1)).map Vw.pl) := hide (by
        intro h
        rw [List.take_add_one, List.take_add_one, hd.out, hd2.out, Option.toList_some, Option.toList_some, List.map_append, List.map_append, HK.out]
        show _ ++ [x.pl] = _ ++ [y.pl]
        rw [h])
      have HNO : Hid (x.pl ≠ y.pl → D = false) := hide (by
        intro h
        rw [← hD.out, decide_eq_false_iff_not]
        intro h2
        have h3 := congrArg (fun l => l[i]?) h2
        simp only [List.getElem?_map, hd.out, hd2.out, Option.map_some] at h3
        exact h (Option.some.inj h3))
      rw [hAad, hBad]
      clear hb1 hb2 had had2 HB HK
      by_cases hq : x.pl = y.pl
      · rw [decide_eq_true hq] at HP
        have HT := hide (HTK.out hq)
        clear hq HTK HNO
        go_wp2_with (go_at_fn 45; refine HP.out.mono ?_; rintro e w' ⟨rfl, hb'⟩)
        go_roundw
        case rel => exact ⟨i + 1, by omega, by go_num, hide (HBB.out.trans (hb'.mono HBB.out.size)), HT⟩
        case measure => simp [intOf]; omega
      · rw [decide_eq_false hq] at HP
        have hDf := HNO.out hq
        subst hDf
        clear hq HTK HNO
        go_wp2_with (go_at_fn 45; refine HP.out.mono ?_; rintro e w' ⟨rfl, hb'⟩)
        go_ret
        exact ⟨rfl, HBB.out.trans (hb'.mono HBB.out.size)⟩
    · obtain rfl : i = n := by omega
      have hDt : D = true := by
        rw [← hD.out, decide_eq_true_eq]
        have h := HK.out
        rw [List.take_of_length_le (by rw [hn.out]; exact Nat.le_refl _), List.take_of_length_le (by rw [hmm.out]; exact Nat.le_refl _)] at h
        exact h
      subst hDt
      go_wp2_with fail
      go_ret
      exact ⟨rfl, HB.out⟩
set_option maxRecDepth 100000 in
set_option maxHeartbeats 4000000 in
theorem equal_ten (us vs : List Ten) (A B : Option Addr) (ca cb : Nat) (w : World) (hA : Row w A (us.flatMap Ten.vals)) (hB : Row w B (vs.flatMap Ten.vals)) (hI : ∀ x ∈ us, x.In w) (hJ : ∀ x ∈ vs, x.In w) (hl : us.length ≤ 1000000) (hm : vs.length ≤ 1000000) :
    Calls Tryd.prog 46 #[.slice A us.length ca, .slice B vs.length cb, .func (.func 47) #[] #[]] w fun e w' => e = .returned (.bool (decide (us.map Ten.pl = vs.map Ten.pl))) ∧ Below w.heap.size w w' := by
  have eg : ∀ args w, (callFunc 47 args).run Tryd.prog w = .ok (.enter 47 args) w := enters_of Tryd.func47 (by kernel_rfl) rfl
  have HA := hide hA
  have HB2 := hide hB
  have HI := hide hI
  have HJ := hide hJ
  obtain ⟨n, hn⟩ : ∃ n, Hid (us.length = n) := ⟨_, hide rfl⟩
  obtain ⟨m, hmm⟩ : ∃ n, Hid (vs.length = n) := ⟨_, hide rfl⟩
  obtain ⟨D, hD⟩ : ∃ D, Hid (decide (us.map Ten.pl = vs.map Ten.pl) = D) := ⟨_, hide rfl⟩
  rw [hD.out]
  rw [hn.out] at hl ⊢
  rw [hmm.out] at hm ⊢
  clear hA hB hI hJ
  by_cases hnm : n = m
  case neg =>
    have hDf : D = false := by
      rw [← hD.out, decide_eq_false_iff_not]
      intro h
      have h2 := congrArg List.length h
      rw [List.length_map, List.length_map, hn.out, hmm.out] at h2
      exact hnm h2
    subst hDf
    have hi : ¬ (n : Int) = (m : Int) := by omega
    have hq : ((n : Int) == (m : Int)) = false := by rw [beq_eq_false_iff_ne]; exact hi
    go_enter Tryd.func46, Tryd.ntmps46
    go_wp2_with fail
    go_ret
    exact ⟨rfl, Below.refl _ _⟩
  subst hnm
  go_enter Tryd.func46, Tryd.ntmps46
  go_wp2_with fail
  go_loopw [17] (fun k wr => ∃ i : Nat, i ≤ n ∧ k = .int .i64 i ∧ Hid (Below w.heap.size w wr) ∧ Hid ((us.take i).map Ten.pl = (vs.take i).map Ten.pl)) (fun k _ => n - (intOf k).toNat)
  case atStart => exact ⟨0, by omega, rfl, hide (Below.refl _ _), hide rfl⟩
  case round =>
    obtain ⟨i, hi, rfl, HB, HK⟩ := hrel
    by_cases hlt : i < n
    · have hii : (i : Int) < (n : Int) := by omega
      obtain ⟨ad, x, hAad, had, hd, c0, c1, c2⟩ := row_ten (HA.out.below HB.out) i (by rw [hn.out]; exact hlt)
      have hb1 := HB.out.alloc HB.out.size (.cells #[.slice x.P x.zs.length x.cap, .bool x.u, .slice x.D x.ds.length x.dcap] 70)
      obtain ⟨ad2, y, hBad, had2, hd2, d0, d1, d2⟩ := row_ten (HB2.out.below hb1) i (by rw [hmm.out]; exact hlt)
      have hb2 := hb1.alloc hb1.size (.cells #[.slice y.P y.zs.length y.cap, .bool y.u, .slice y.D y.ds.length y.dcap] 70)
      have HP := hide (sameten_c x y _ ((HI.out x (List.mem_of_getElem? hd.out)).below hb2) ((HJ.out y (List.mem_of_getElem? hd2.out)).below hb2))
      have HBB := hide hb2
      have HTK : Hid (x.pl = y.pl → (us.take (i + 1)).map Ten.pl = (vs.take (i + 1)).map Ten.pl) := hide (by
        intro h
        rw [List.take_add_one, List.take_add_one, hd.out, hd2.out, Option.toList_some, Option.toList_some, List.map_append, List.map_append, HK.out]
        show _ ++ [x.pl] = _ ++ [y.pl]
        rw [h])
      have HNO : Hid (x.pl ≠ y.pl → D = false) := hide (by
        intro h
        rw [← hD.out, decide_eq_false_iff_not]
        intro h2
        have h3 := congrArg (fun l => l[i]?) h2
        simp only [List.getElem?_map, hd.out, hd2.out, Option.map_some] at h3
        exact h (Option.some.inj h3))
      rw [hAad, hBad]
      clear hb1 hb2 had had2 HB HK
      by_cases hq : x.pl = y.pl
      · rw [decide_eq_true hq] at HP
        have HT := hide (HTK.out hq)
        clear hq HTK HNO
        go_wp2_with (go_at_fn 47; refine HP.out.mono ?_; rintro e w' ⟨rfl, hb'⟩)
        go_roundw
        case rel => exact ⟨i + 1, by omega, by go_num, hide (HBB.out.trans (hb'.mono HBB.out.size)), HT⟩
        case measure => simp [intOf]; omega
      · rw [decide_eq_false hq] at HP
        have hDf := HNO.out hq
        subst hDf
        clear hq HTK HNO
        go_wp2_with (go_at_fn 47; refine HP.out.mono ?_; rintro e w' ⟨rfl, hb'⟩)
        go_ret
        exact ⟨rfl, HBB.out.trans (hb'.mono HBB.out.size)⟩
    · obtain rfl : i = n := by omega
      have hDt : D = true := by
        rw [← hD.out, decide_eq_true_eq]
        have h := HK.out
        rw [List.take_of_length_le (by rw [hn.out]; exact Nat.le_refl _), List.take_of_length_le (by rw [hmm.out]; exact Nat.le_refl _)] at h
        exact h
      subst hDt
      go_wp2_with fail
      go_ret
      exact ⟨rfl, HB.out⟩
set_option maxRecDepth 100000 in
set_option maxHeartbeats 4000000 in
theorem equal_dsc (us vs : List Dsc) (A B : Option Addr) (ca cb : Nat) (w : World) (hA : Row w A (us.flatMap Dsc.vals)) (hB : Row w B (vs.flatMap Dsc.vals)) (hI : ∀ x ∈ us, x.In w) (hJ : ∀ x ∈ vs, x.In w) (hl : us.length ≤ 1000000) (hm : vs.length ≤ 1000000) :
    Calls Tryd.prog 48 #[.slice A us.length ca, .slice B vs.length cb, .func (.func 49) #[] #[]] w fun e w' => e = .returned (.bool (decide (us.map Dsc.pl = vs.map Dsc.pl))) ∧ Below w.heap.size w w' := by
  have eg : ∀ args w, (callFunc 49 args).run Tryd.prog w = .ok (.enter 49 args) w := enters_of Tryd.func49 (by kernel_rfl) rfl
  have HA := hide hA
  have HB2 := hide hB
  have HI := hide hI
  have HJ := hide hJ
  obtain ⟨n, hn⟩ : ∃ n, Hid (us.length = n) := ⟨_, hide rfl⟩
  obtain ⟨m, hmm⟩ : ∃ n, Hid (vs.length = n) := ⟨_, hide rfl⟩
  obtain ⟨D, hD⟩ : ∃ D, Hid (decide (us.map Dsc.pl = vs.map Dsc.pl) = D) := ⟨_, hide rfl⟩
  rw [hD.out]
  rw [hn.out] at hl ⊢
  rw [hmm.out] at hm ⊢
  clear hA hB hI hJ
  by_cases hnm : n = m
  case neg =>
    have hDf : D = false := by
      rw [← hD.out, decide_eq_false_iff_not]
      intro h
      have h2 := congrArg List.length h
      rw [List.length_map, List.length_map, hn.out, hmm.out] at h2
      exact hnm h2
    subst hDf
    have hi : ¬ (n : Int) = (m : Int) := by omega
    have hq : ((n : Int) == (m : Int)) = false := by rw [beq_eq_false_iff_ne]; exact hi
    go_enter Tryd.func48, Tryd.ntmps48
    go_wp2_with fail
    go_ret
    exact ⟨rfl, Below.refl _ _⟩
  subst hnm
  go_enter Tryd.func48, Tryd.ntmps48
  go_wp2_with fail
  go_loopw [17] (fun k wr => ∃ i : Nat, i ≤ n ∧ k = .int .i64 i ∧ Hid (Below w.heap.size w wr) ∧ Hid ((us.take i).map Dsc.pl = (vs.take i).map Dsc.pl)) (fun k _ => n - (intOf k).toNat)
  case atStart => exact ⟨0, by omega, rfl, hide (Below.refl _ _), hide rfl⟩
  case round =>
    obtain ⟨i, hi, rfl, HB, HK⟩ := hrel
    by_cases hlt : i < n
    · have hii : (i : Int) < (n : Int) := by omega
      obtain ⟨ad, x, hAad, had, hd, c0, c1⟩ := row_dsc (HA.out.below HB.out) i (by rw [hn.out]; exact hlt)
      have hb1 := HB.out.alloc HB.out.size (.cells #[.slice x.P x.zs.length x.cap, .bool x.u] 59)
      obtain ⟨ad2, y, hBad, had2, hd2, d0, d1⟩ := row_dsc (HB2.out.below hb1) i (by rw [hmm.out]; exact hlt)
      have hb2 := hb1.alloc hb1.size (.cells #[.slice y.P y.zs.length y.cap, .bool y.u] 59)
      have HP := hide (samedsc_c x y _ ((HI.out x (List.mem_of_getElem? hd.out)).below hb2) ((HJ.out y (List.mem_of_getElem? hd2.out)).below hb2))
      have HBB := hide hb2
      have HTK : Hid (x.pl = y.pl → (us.take (i + 1)).map Dsc.pl = (vs.take (i + 1)).map Dsc.pl) := hide (by
        intro h
        rw [List.take_add_one, List.take_add_one, hd.out, hd2.out, Option.toList_some, Option.toList_some, List.map_append, List.map_append, HK.out]
        show _ ++ [x.pl] = _ ++ [y.pl]
        rw [h])
      have HNO : Hid (x.pl ≠ y.pl → D = false) := hide (by
        intro h
        rw [← hD.out, decide_eq_false_iff_not]
        intro h2
        have h3 := congrArg (fun l => l[i]?) h2
        simp only [List.getElem?_map, hd.out, hd2.out, Option.map_some] at h3
        exact h (Option.some.inj h3))
      rw [hAad, hBad]
      clear hb1 hb2 had had2 HB HK
      by_cases hq : x.pl = y.pl
      · rw [decide_eq_true hq] at HP
        have HT := hide (HTK.out hq)
        clear hq HTK HNO
        go_wp2_with (go_at_fn 49; refine HP.out.mono ?_; rintro e w' ⟨rfl, hb'⟩)
        go_roundw
        case rel => exact ⟨i + 1, by omega, by go_num, hide (HBB.out.trans (hb'.mono HBB.out.size)), HT⟩
        case measure => simp [intOf]; omega
      · rw [decide_eq_false hq] at HP
        have hDf := HNO.out hq
        subst hDf
        clear hq HTK HNO
        go_wp2_with (go_at_fn 49; refine HP.out.mono ?_; rintro e w' ⟨rfl, hb'⟩)
        go_ret
        exact ⟨rfl, HBB.out.trans (hb'.mono HBB.out.size)⟩
    · obtain rfl : i = n := by omega
      have hDt : D = true := by
        rw [← hD.out, decide_eq_true_eq]
        have h := HK.out
        rw [List.take_of_length_le (by rw [hn.out]; exact Nat.le_refl _), List.take_of_length_le (by rw [hmm.out]; exact Nat.le_refl _)] at h
        exact h
      subst hDt
      go_wp2_with fail
      go_ret
      exact ⟨rfl, HB.out⟩
set_option maxRecDepth 100000 in
set_option maxHeartbeats 4000000 in
theorem equal_ins (us vs : List Ins) (A B : Option Addr) (ca cb : Nat) (w : World) (hA : Row w A (us.flatMap Ins.vals)) (hB : Row w B (vs.flatMap Ins.vals)) (hI : ∀ x ∈ us, x.In w) (hJ : ∀ x ∈ vs, x.In w) (hl : us.length ≤ 1000000) (hm : vs.length ≤ 1000000) :
    Calls Tryd.prog 50 #[.slice A us.length ca, .slice B vs.length cb, .func (.func 51) #[] #[]] w fun e w' => e = .returned (.bool (decide (us.map Ins.pl = vs.map Ins.pl))) ∧ Below w.heap.size w w' := by
  have eg : ∀ args w, (callFunc 51 args).run Tryd.prog w = .ok (.enter 51 args) w := enters_of Tryd.func51 (by kernel_rfl) rfl
  have HA := hide hA
  have HB2 := hide hB
  have HI := hide hI
  have HJ := hide hJ
  obtain ⟨n, hn⟩ : ∃ n, Hid (us.length = n) := ⟨_, hide rfl⟩
  obtain ⟨m, hmm⟩ : ∃ n, Hid (vs.length = n) := ⟨_, hide rfl⟩
  obtain ⟨D, hD⟩ : ∃ D, Hid (decide (us.map Ins.pl = vs.map Ins.pl) = D) := ⟨_, hide rfl⟩
  rw [hD.out]
  rw [hn.out] at hl ⊢
  rw [hmm.out] at hm ⊢
  clear hA hB hI hJ
  by_cases hnm : n = m
  case neg =>
    have hDf : D = false := by
      rw [← hD.out, decide_eq_false_iff_not]
      intro h
      have h2 := congrArg List.length h
      rw [List.length_map, List.length_map, hn.out, hmm.out] at h2
      exact hnm h2
    subst hDf
    have hi : ¬ (n : Int) = (m : Int) := by omega
    have hq : ((n : Int) == (m : Int)) = false := by rw [beq_eq_false_iff_ne]; exact hi
    go_enter Tryd.func50, Tryd.ntmps50
    go_wp2_with fail
    go_ret
    exact ⟨rfl, Below.refl _ _⟩
  subst hnm
  go_enter Tryd.func50, Tryd.ntmps50
  go_wp2_with fail
  go_loopw [17] (fun k wr => ∃ i : Nat, i ≤ n ∧ k = .int .i64 i ∧ Hid (Below w.heap.size w wr) ∧ Hid ((us.take i).map Ins.pl = (vs.take i).map Ins.pl)) (fun k _ => n - (intOf k).toNat)
  case atStart => exact ⟨0, by omega, rfl, hide (Below.refl _ _), hide rfl⟩
  case round =>
    obtain ⟨i, hi, rfl, HB, HK⟩ := hrel
    by_cases hlt : i < n
    · have hii : (i : Int) < (n : Int) := by omega
      obtain ⟨ad, x, hAad, had, hd, c0, c1, c2, c3, c4, c5⟩ := row_ins (HA.out.below HB.out) i (by rw [hn.out]; exact hlt)
      have hb1 := HB.out.alloc HB.out.size (.cells #[.int .i64 x.op, .int .i64 x.dst, .slice x.I x.is.length x.ic, .slice x.G x.gs.length x.gc, .int .i64 x.fr, .int .i64 x.to] 48)
      obtain ⟨ad2, y, hBad, had2, hd2, d0, d1, d2, d3, d4, d5⟩ := row_ins (HB2.out.below hb1) i (by rw [hmm.out]; exact hlt)
      have hb2 := hb1.alloc hb1.size (.cells #[.int .i64 y.op, .int .i64 y.dst, .slice y.I y.is.length y.ic, .slice y.G y.gs.length y.gc, .int .i64 y.fr, .int .i64 y.to] 48)
      have HP := hide (sameins_c x y _ ((HI.out x (List.mem_of_getElem? hd.out)).below hb2) ((HJ.out y (List.mem_of_getElem? hd2.out)).below hb2))
      have HBB := hide hb2
      have HTK : Hid (x.pl = y.pl → (us.take (i + 1)).map Ins.pl = (vs.take (i + 1)).map Ins.pl) := hide (by
        intro h
        rw [List.take_add_one, List.take_add_one, hd.out, hd2.out, Option.toList_some, Option.toList_some, List.map_append, List.map_append, HK.out]
        show _ ++ [x.pl] = _ ++ [y.pl]
        rw [h])
      have HNO : Hid (x.pl ≠ y.pl → D = false) := hide (by
        intro h
        rw [← hD.out, decide_eq_false_iff_not]
        intro h2
        have h3 := congrArg (fun l => l[i]?) h2
        simp only [List.getElem?_map, hd.out, hd2.out, Option.map_some] at h3
        exact h (Option.some.inj h3))
      rw [hAad, hBad]
      clear hb1 hb2 had had2 HB HK
      by_cases hq : x.pl = y.pl
      · rw [decide_eq_true hq] at HP
        have HT := hide (HTK.out hq)
        clear hq HTK HNO
        go_wp2_with (go_at_fn 51; refine HP.out.mono ?_; rintro e w' ⟨rfl, hb'⟩)
        go_roundw
        case rel => exact ⟨i + 1, by omega, by go_num, hide (HBB.out.trans (hb'.mono HBB.out.size)), HT⟩
        case measure => simp [intOf]; omega
      · rw [decide_eq_false hq] at HP
        have hDf := HNO.out hq
        subst hDf
        clear hq HTK HNO
        go_wp2_with (go_at_fn 51; refine HP.out.mono ?_; rintro e w' ⟨rfl, hb'⟩)
        go_ret
        exact ⟨rfl, HBB.out.trans (hb'.mono HBB.out.size)⟩
    · obtain rfl : i = n := by omega
      have hDt : D = true := by
        rw [← hD.out, decide_eq_true_eq]
        have h := HK.out
        rw [List.take_of_length_le (by rw [hn.out]; exact Nat.le_refl _), List.take_of_length_le (by rw [hmm.out]; exact Nat.le_refl _)] at h
        exact h
      subst hDt
      go_wp2_with fail
      go_ret
      exact ⟨rfl, HB.out⟩
end Go.Proofs.YthjnkaikjjjceaaDoor
