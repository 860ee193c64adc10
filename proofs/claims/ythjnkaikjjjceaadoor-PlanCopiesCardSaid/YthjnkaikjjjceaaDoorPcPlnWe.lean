/-
  lodgeref.SameView, SameInstr, SameViews, SameTensors, SameDescs, SameInstrs, SamePlan, of what is the same. By an AI agent. No person has read it.
-/
import Derived.Test.YthjnkaikjjjceaaDoorPcPlnWd
namespace Go.Proofs.YthjnkaikjjjceaaDoor
open Go.RowKit
set_option maxRecDepth 100000 in
set_option maxHeartbeats 4000000 in
theorem rsameview_c (x y : Vw) (w : World) (hx : x.In w) (hy : y.In w) (he : y.pl = x.pl) :
    Calls Tryd.prog 85 #[.agg #[.int .i64 x.off, .slice x.d.P x.d.zs.length x.d.cap, .bool x.d.u], .agg #[.int .i64 y.off, .slice y.d.P y.d.zs.length y.d.cap, .bool y.d.u]] w fun e w' => e = .returned (.bool true) ∧ Below w.heap.size w w' := by
  have e1 : y.off = x.off := congrArg Prod.fst he
  have e2 : y.d.zs = x.d.zs := congrArg (fun p => p.2.1) he
  have e3 : y.d.u = x.d.u := congrArg (fun p => p.2.2) he
  rw [e1, e2, e3]
  obtain ⟨W0, hW0⟩ : ∃ W0, Hid ((w.alloc (.cells #[.int .i64 x.off, .slice x.d.P x.d.zs.length x.d.cap, .bool x.d.u] 61)).alloc (.cells #[.int .i64 x.off, .slice y.d.P x.d.zs.length y.d.cap, .bool x.d.u] 61) = W0) := ⟨_, hide rfl⟩
  have hb0 : Below w.heap.size w W0 := by
    rw [← hW0.out]
    exact ((Below.refl w.heap.size w).alloc (Nat.le_refl _) _).alloc (by simp) _
  have hr1 : Has W0 w.heap.size 61 [.int .i64 x.off, .slice x.d.P x.d.zs.length x.d.cap, .bool x.d.u] := by
    rw [← hW0.out]
    exact (Has.new w 61 [.int .i64 x.off, .slice x.d.P x.d.zs.length x.d.cap, .bool x.d.u]).alloc _
  have hr2 : Has W0 (w.heap.size + 1) 61 [.int .i64 x.off, .slice y.d.P x.d.zs.length y.d.cap, .bool x.d.u] := by
    rw [← hW0.out]
    have h := Has.new (w.alloc (.cells #[.int .i64 x.off, .slice x.d.P x.d.zs.length x.d.cap, .bool x.d.u] 61)) 61 [.int .i64 x.off, .slice y.d.P x.d.zs.length y.d.cap, .bool x.d.u]
    simpa using h
  have HD : Hid (Calls Tryd.prog 87 #[.agg (dcells x.d.P x.d.zs.length x.d.cap x.d.u), .agg (dcells y.d.P x.d.zs.length y.d.cap x.d.u)] W0 fun e w' => e = .returned (.bool true) ∧ Below W0.heap.size W0 w') := hide (by
    have hry := hy.d.shp.below hb0
    rw [e2] at hry
    have h := samedesc_c x.d.zs x.d.zs x.d.P y.d.P x.d.cap y.d.cap x.d.u x.d.u W0 (hx.d.shp.below hb0) hry hx.d.ls hx.d.ls
    rw [decide_eq_true rfl, beq_self_eq_true] at h
    exact h)
  obtain ⟨n, hn⟩ : ∃ n, Hid (x.d.zs.length = n) := ⟨_, hide rfl⟩
  rw [hn.out] at HD hW0 hr1 hr2 ⊢
  have HB0 := hide hb0
  have HR1 := hide hr1
  have HR2 := hide hr2
  clear hb0 hr1 hr2 hx hy he e1 e2 e3
  go_enter Tryd.func85, Tryd.ntmps85
  go_wp2_with fail
  rw [hW0.out]
  refine HD.out.mono ?_
  rintro e w1 ⟨rfl, hb⟩
  have c0 : w1.cell? ⟨w.heap.size, 0, none⟩ = some (.int .i64 x.off) := (HR1.out.below hb HR1.out.lt).cell 0
  have d0 : w1.cell? ⟨w.heap.size + 1, 0, none⟩ = some (.int .i64 x.off) := (HR2.out.below hb HR2.out.lt).cell 0
  have HB1 := hide (HB0.out.trans (hb.mono HB0.out.size))
  clear HD HB0 HR1 HR2 hb
  go_wp2_with fail
  go_ret
  exact ⟨rfl, HB1.out⟩
theorem rsameten_c (x y : Ten) (w : World) (hx : x.In w) (hy : y.In w) (he : y.pl = x.pl) :
    Calls Tryd.prog 86 #[.agg #[.slice x.P x.zs.length x.cap, .bool x.u, .slice x.D x.ds.length x.dcap], .agg #[.slice y.P y.zs.length y.cap, .bool y.u, .slice y.D y.ds.length y.dcap]] w fun e w' => e = .returned (.bool true) ∧ Below w.heap.size w w' := by
  have e1 : x.zs = y.zs := (congrArg Prod.fst he).symm
  have e2 : y.u = x.u := congrArg (fun p => p.2.1) he
  have e3 : x.ds = y.ds := (congrArg (fun p => p.2.2) he).symm
  have h := sametensor_c x.zs y.zs x.ds y.ds x.P y.P x.D y.D x.cap y.cap x.dcap y.dcap x.u y.u w hx.shp hy.shp hx.dat hy.dat hx.ls hy.ls hx.ld hy.ld
  rw [decide_eq_true e1, decide_eq_true e3, e2, beq_self_eq_true] at h
  rw [e2]
  exact h
theorem rsamedsc_c (x y : Dsc) (w : World) (hx : x.In w) (hy : y.In w) (he : y.pl = x.pl) :
    Calls Tryd.prog 87 #[.agg #[.slice x.P x.zs.length x.cap, .bool x.u], .agg #[.slice y.P y.zs.length y.cap, .bool y.u]] w fun e w' => e = .returned (.bool true) ∧ Below w.heap.size w w' := by
  have e1 : x.zs = y.zs := (congrArg Prod.fst he).symm
  have e2 : y.u = x.u := congrArg Prod.snd he
  have h := samedesc_c x.zs y.zs x.P y.P x.cap y.cap x.u y.u w hx.shp hy.shp hx.ls hy.ls
  rw [decide_eq_true e1, e2, beq_self_eq_true] at h
  rw [e2]
  exact h
set_option maxRecDepth 100000 in
set_option maxHeartbeats 4000000 in
theorem rsameins_c (x y : Ins) (w : World) (hx : x.In w) (hy : y.In w) (he : y.pl = x.pl) :
    Calls Tryd.prog 20 #[.agg #[.int .i64 x.op, .int .i64 x.dst, .slice x.I x.is.length x.ic, .slice x.G x.gs.length x.gc, .int .i64 x.fr, .int .i64 x.to], .agg #[.int .i64 y.op, .int .i64 y.dst, .slice y.I y.is.length y.ic, .slice y.G y.gs.length y.gc, .int .i64 y.fr, .int .i64 y.to]] w fun e w' => e = .returned (.bool true) ∧ Below w.heap.size w w' := by
  have e1 : y.op = x.op := congrArg InP.op he
  have e2 : y.dst = x.dst := congrArg InP.dst he
  have e3 : y.is = x.is := congrArg InP.is he
  have e4 : y.gs = x.gs := congrArg InP.gs he
  have e5 : y.fr = x.fr := congrArg InP.fr he
  have e6 : y.to = x.to := congrArg InP.to he
  have HI : Hid (∀ W, Below w.heap.size w W → Calls Tryd.prog 57 #[.slice x.I x.is.length x.ic, .slice y.I x.is.length y.ic] W fun e w' => e = .returned (.bool true) ∧ Below W.heap.size W w') := hide (fun W hW => by
    have hry := hy.is.below hW
    rw [e3] at hry
    have h := sameints_c x.is x.is x.I y.I x.ic y.ic W (hx.is.below hW) hry hx.li hx.li
    rw [decide_eq_true rfl] at h
    exact h)
  have HG : Hid (∀ W, Below w.heap.size w W → Calls Tryd.prog 57 #[.slice x.G x.gs.length x.gc, .slice y.G x.gs.length y.gc] W fun e w' => e = .returned (.bool true) ∧ Below W.heap.size W w') := hide (fun W hW => by
    have hry := hy.gs.below hW
    rw [e4] at hry
    have h := sameints_c x.gs x.gs x.G y.G x.gc y.gc W (hx.gs.below hW) hry hx.lg hx.lg
    rw [decide_eq_true rfl] at h
    exact h)
  rw [e1, e2, e3, e4, e5, e6]
  obtain ⟨W0, hW0⟩ : ∃ W0, Hid ((w.alloc (.cells #[.int .i64 x.op, .int .i64 x.dst, .slice x.I x.is.length x.ic, .slice x.G x.gs.length x.gc, .int .i64 x.fr, .int .i64 x.to] 48)).alloc (.cells #[.int .i64 x.op, .int .i64 x.dst, .slice y.I x.is.length y.ic, .slice y.G x.gs.length y.gc, .int .i64 x.fr, .int .i64 x.to] 48) = W0) := ⟨_, hide rfl⟩
  have hb0 : Below w.heap.size w W0 := by
    rw [← hW0.out]
    exact ((Below.refl w.heap.size w).alloc (Nat.le_refl _) _).alloc (by simp) _
  have hr1 : Has W0 w.heap.size 48 [.int .i64 x.op, .int .i64 x.dst, .slice x.I x.is.length x.ic, .slice x.G x.gs.length x.gc, .int .i64 x.fr, .int .i64 x.to] := by
    rw [← hW0.out]
    exact (Has.new w 48 [.int .i64 x.op, .int .i64 x.dst, .slice x.I x.is.length x.ic, .slice x.G x.gs.length x.gc, .int .i64 x.fr, .int .i64 x.to]).alloc _
  have hr2 : Has W0 (w.heap.size + 1) 48 [.int .i64 x.op, .int .i64 x.dst, .slice y.I x.is.length y.ic, .slice y.G x.gs.length y.gc, .int .i64 x.fr, .int .i64 x.to] := by
    rw [← hW0.out]
    have h := Has.new (w.alloc (.cells #[.int .i64 x.op, .int .i64 x.dst, .slice x.I x.is.length x.ic, .slice x.G x.gs.length x.gc, .int .i64 x.fr, .int .i64 x.to] 48)) 48 [.int .i64 x.op, .int .i64 x.dst, .slice y.I x.is.length y.ic, .slice y.G x.gs.length y.gc, .int .i64 x.fr, .int .i64 x.to]
    simpa using h
  obtain ⟨n, hn⟩ : ∃ n, Hid (x.is.length = n) := ⟨_, hide rfl⟩
  obtain ⟨m, hm⟩ : ∃ n, Hid (x.gs.length = n) := ⟨_, hide rfl⟩
  rw [hn.out] at HI
  rw [hm.out] at HG
  rw [hn.out, hm.out] at hW0 hr1 hr2 ⊢
  have HB0 := hide hb0
  have HR1 := hide hr1
  have HR2 := hide hr2
  have HC1 := hide (HI.out _ hb0)
  clear hb0 hr1 hr2 hx hy he e1 e2 e3 e4 e5 e6 HI
  go_enter Tryd.func20, Tryd.ntmps20
  go_wp2_with fail
  rw [hW0.out]
  refine HC1.out.mono ?_
  rintro e w1 ⟨rfl, hb⟩
  have HB1 := hide (HB0.out.trans (hb.mono HB0.out.size))
  have HS1 := hide (HR1.out.below hb HR1.out.lt)
  have HS2 := hide (HR2.out.below hb HR2.out.lt)
  have HC2 := hide (HG.out _ HB1.out)
  have c3 : w1.cell? ⟨w.heap.size, 3, none⟩ = some (.slice x.G m x.gc) := HS1.out.cell 3
  have d3 : w1.cell? ⟨w.heap.size + 1, 3, none⟩ = some (.slice y.G m y.gc) := HS2.out.cell 3
  clear HC1 HG HB0 HR1 HR2 hb
  go_wp2_with fail
  clear c3 d3
  refine HC2.out.mono ?_
  rintro e w2 ⟨rfl, hb⟩
  have HB2 := hide (HB1.out.trans (hb.mono HB1.out.size))
  have hs1 := HS1.out.below hb HS1.out.lt
  have hs2 := HS2.out.below hb HS2.out.lt
  have c0 : w2.cell? ⟨w.heap.size, 0, none⟩ = some (.int .i64 x.op) := hs1.cell 0
  have c1 : w2.cell? ⟨w.heap.size, 1, none⟩ = some (.int .i64 x.dst) := hs1.cell 1
  have c4 : w2.cell? ⟨w.heap.size, 4, none⟩ = some (.int .i64 x.fr) := hs1.cell 4
  have c5 : w2.cell? ⟨w.heap.size, 5, none⟩ = some (.int .i64 x.to) := hs1.cell 5
  have d0 : w2.cell? ⟨w.heap.size + 1, 0, none⟩ = some (.int .i64 x.op) := hs2.cell 0
  have d1 : w2.cell? ⟨w.heap.size + 1, 1, none⟩ = some (.int .i64 x.dst) := hs2.cell 1
  have d4 : w2.cell? ⟨w.heap.size + 1, 4, none⟩ = some (.int .i64 x.fr) := hs2.cell 4
  have d5 : w2.cell? ⟨w.heap.size + 1, 5, none⟩ = some (.int .i64 x.to) := hs2.cell 5
  clear HC2 HB1 HS1 HS2 hb hs1 hs2
  go_wp2_with fail
  go_ret
  exact ⟨rfl, HB2.out⟩
set_option maxRecDepth 100000 in
set_option maxHeartbeats 8000000 in
theorem rsames_vw (ts us : List Vw) (A B : Option Addr) (ca cb : Nat) (w : World) (hA : Row w A (ts.flatMap Vw.vals)) (hB : Row w B (us.flatMap Vw.vals)) (hI : ∀ t ∈ ts, t.In w) (hJ : ∀ u ∈ us, u.In w) (hk : us.map Vw.pl = ts.map Vw.pl) (hl : ts.length ≤ 1000000) :
    Calls Tryd.prog 66 #[.slice A ts.length ca, .slice B us.length cb] w fun e w' => e = .returned (.bool true) ∧ Below w.heap.size w w' := by
  have hul : us.length = ts.length := len_of_map hk
  have V : Hid (∀ (i : Nat) (t u : Vw), ts[i]? = some t → us[i]? = some u → ∀ W, Below w.heap.size w W → Calls Tryd.prog 85 #[.agg #[.int .i64 t.off, .slice t.d.P t.d.zs.length t.d.cap, .bool t.d.u], .agg #[.int .i64 u.off, .slice u.d.P u.d.zs.length u.d.cap, .bool u.d.u]] W fun e w' => e = .returned (.bool true) ∧ Below W.heap.size W w') := hide fun i t u ht hu W hb => by
    have hk1 : (us.map Vw.pl)[i]? = some u.pl := by rw [List.getElem?_map, hu]; rfl
    rw [hk, List.getElem?_map, ht] at hk1
    exact rsameview_c t u W ((hI t (List.mem_of_getElem? ht)).below hb) ((hJ u (List.mem_of_getElem? hu)).below hb) (Option.some.inj hk1).symm
  have HA := hide hA
  have HBr := hide hB
  rw [hul]
  obtain ⟨n, hn⟩ : ∃ n, Hid (ts.length = n) := ⟨_, hide rfl⟩
  have hun : Hid (us.length = n) := hide (hul.trans hn.out)
  rw [hn.out] at hl ⊢
  clear hA hB hI hJ hk hul
  go_enter Tryd.func66, Tryd.ntmps66
  go_wp2_with fail
  go_loopw [5, 6] (fun k _ wr => ∃ i : Nat, i ≤ n ∧ k = .int .i64 i ∧ Hid (Below w.heap.size w wr)) (fun k _ _ => n - (intOf k).toNat)
  case atStart => exact ⟨0, by omega, rfl, hide (Below.refl _ _)⟩
  case round =>
    obtain ⟨i, hi, rfl, HB⟩ := hrel
    by_cases hlt : i < n
    · obtain ⟨ad, t, rfl, had, ht, c0, c1, c2⟩ := row_vw (HA.out.below HB.out) i (by rw [hn.out]; exact hlt)
      obtain ⟨ae, u, rfl, hae, hu, f0, f1, f2⟩ := row_vw (HBr.out.below HB.out) i (by rw [hun.out]; exact hlt)
      have HBD := hide (HB.out.drew)
      have HV := hide (V.out i t u ht.out hu.out wr.drew HBD.out)
      clear V
      go_wp2_with fail
      go_region_law (first | (go_simp; go_at_call 85; refine HV.out.mono ?_; rintro e w2 ⟨rfl, hb⟩; have HB2 := hide (HBD.out.trans (hb.mono HBD.out.size)); clear hb))
      all_goals go_ways
      all_goals
        clear c0 c1 c2 f0 f1 f2 HV
        go_wp2_with fail
        go_roundw
        case rel => exact ⟨i + 1, by omega, by go_num, HB2⟩
        case measure => simp [intOf]; omega
    · obtain rfl : i = n := by omega
      go_wp2_with fail
      go_ret
      exact ⟨rfl, HB.out⟩
set_option maxRecDepth 100000 in
set_option maxHeartbeats 8000000 in
theorem rsames_ten (ts us : List Ten) (A B : Option Addr) (ca cb : Nat) (w : World) (hA : Row w A (ts.flatMap Ten.vals)) (hB : Row w B (us.flatMap Ten.vals)) (hI : ∀ t ∈ ts, t.In w) (hJ : ∀ u ∈ us, u.In w) (hk : us.map Ten.pl = ts.map Ten.pl) (hl : ts.length ≤ 1000000) :
    Calls Tryd.prog 67 #[.slice A ts.length ca, .slice B us.length cb] w fun e w' => e = .returned (.bool true) ∧ Below w.heap.size w w' := by
  have hul : us.length = ts.length := len_of_map hk
  have V : Hid (∀ (i : Nat) (t u : Ten), ts[i]? = some t → us[i]? = some u → ∀ W, Below w.heap.size w W → Calls Tryd.prog 86 #[.agg #[.slice t.P t.zs.length t.cap, .bool t.u, .slice t.D t.ds.length t.dcap], .agg #[.slice u.P u.zs.length u.cap, .bool u.u, .slice u.D u.ds.length u.dcap]] W fun e w' => e = .returned (.bool true) ∧ Below W.heap.size W w') := hide fun i t u ht hu W hb => by
    have hk1 : (us.map Ten.pl)[i]? = some u.pl := by rw [List.getElem?_map, hu]; rfl
    rw [hk, List.getElem?_map, ht] at hk1
    exact rsameten_c t u W ((hI t (List.mem_of_getElem? ht)).below hb) ((hJ u (List.mem_of_getElem? hu)).below hb) (Option.some.inj hk1).symm
  have HA := hide hA
  have HBr := hide hB
  rw [hul]
  obtain ⟨n, hn⟩ : ∃ n, Hid (ts.length = n) := ⟨_, hide rfl⟩
  have hun : Hid (us.length = n) := hide (hul.trans hn.out)
  rw [hn.out] at hl ⊢
  clear hA hB hI hJ hk hul
  go_enter Tryd.func67, Tryd.ntmps67
  go_wp2_with fail
  go_loopw [5, 6] (fun k _ wr => ∃ i : Nat, i ≤ n ∧ k = .int .i64 i ∧ Hid (Below w.heap.size w wr)) (fun k _ _ => n - (intOf k).toNat)
  case atStart => exact ⟨0, by omega, rfl, hide (Below.refl _ _)⟩
  case round =>
    obtain ⟨i, hi, rfl, HB⟩ := hrel
    by_cases hlt : i < n
    · obtain ⟨ad, t, rfl, had, ht, c0, c1, c2⟩ := row_ten (HA.out.below HB.out) i (by rw [hn.out]; exact hlt)
      obtain ⟨ae, u, rfl, hae, hu, f0, f1, f2⟩ := row_ten (HBr.out.below HB.out) i (by rw [hun.out]; exact hlt)
      have HBD := hide (HB.out.drew)
      have HV := hide (V.out i t u ht.out hu.out wr.drew HBD.out)
      clear V
      go_wp2_with fail
      go_region_law (first | (go_simp; go_at_call 86; refine HV.out.mono ?_; rintro e w2 ⟨rfl, hb⟩; have HB2 := hide (HBD.out.trans (hb.mono HBD.out.size)); clear hb))
      all_goals go_ways
      all_goals
        clear c0 c1 c2 f0 f1 f2 HV
        go_wp2_with fail
        go_roundw
        case rel => exact ⟨i + 1, by omega, by go_num, HB2⟩
        case measure => simp [intOf]; omega
    · obtain rfl : i = n := by omega
      go_wp2_with fail
      go_ret
      exact ⟨rfl, HB.out⟩
set_option maxRecDepth 100000 in
set_option maxHeartbeats 8000000 in
theorem rsames_dsc (ts us : List Dsc) (A B : Option Addr) (ca cb : Nat) (w : World) (hA : Row w A (ts.flatMap Dsc.vals)) (hB : Row w B (us.flatMap Dsc.vals)) (hI : ∀ t ∈ ts, t.In w) (hJ : ∀ u ∈ us, u.In w) (hk : us.map Dsc.pl = ts.map Dsc.pl) (hl : ts.length ≤ 1000000) :
    Calls Tryd.prog 68 #[.slice A ts.length ca, .slice B us.length cb] w fun e w' => e = .returned (.bool true) ∧ Below w.heap.size w w' := by
  have hul : us.length = ts.length := len_of_map hk
  have V : Hid (∀ (i : Nat) (t u : Dsc), ts[i]? = some t → us[i]? = some u → ∀ W, Below w.heap.size w W → Calls Tryd.prog 87 #[.agg #[.slice t.P t.zs.length t.cap, .bool t.u], .agg #[.slice u.P u.zs.length u.cap, .bool u.u]] W fun e w' => e = .returned (.bool true) ∧ Below W.heap.size W w') := hide fun i t u ht hu W hb => by
    have hk1 : (us.map Dsc.pl)[i]? = some u.pl := by rw [List.getElem?_map, hu]; rfl
    rw [hk, List.getElem?_map, ht] at hk1
    exact rsamedsc_c t u W ((hI t (List.mem_of_getElem? ht)).below hb) ((hJ u (List.mem_of_getElem? hu)).below hb) (Option.some.inj hk1).symm
  have HA := hide hA
  have HBr := hide hB
  rw [hul]
  obtain ⟨n, hn⟩ : ∃ n, Hid (ts.length = n) := ⟨_, hide rfl⟩
  have hun : Hid (us.length = n) := hide (hul.trans hn.out)
  rw [hn.out] at hl ⊢
  clear hA hB hI hJ hk hul
  go_enter Tryd.func68, Tryd.ntmps68
  go_wp2_with fail
  go_loopw [5, 6] (fun k _ wr => ∃ i : Nat, i ≤ n ∧ k = .int .i64 i ∧ Hid (Below w.heap.size w wr)) (fun k _ _ => n - (intOf k).toNat)
  case atStart => exact ⟨0, by omega, rfl, hide (Below.refl _ _)⟩
  case round =>
    obtain ⟨i, hi, rfl, HB⟩ := hrel
    by_cases hlt : i < n
    · obtain ⟨ad, t, rfl, had, ht, c0, c1⟩ := row_dsc (HA.out.below HB.out) i (by rw [hn.out]; exact hlt)
      obtain ⟨ae, u, rfl, hae, hu, f0, f1⟩ := row_dsc (HBr.out.below HB.out) i (by rw [hun.out]; exact hlt)
      have HBD := hide (HB.out.drew)
      have HV := hide (V.out i t u ht.out hu.out wr.drew HBD.out)
      clear V
      go_wp2_with fail
      go_region_law (first | (go_simp; go_at_call 87; refine HV.out.mono ?_; rintro e w2 ⟨rfl, hb⟩; have HB2 := hide (HBD.out.trans (hb.mono HBD.out.size)); clear hb))
      all_goals go_ways
      all_goals
        clear c0 c1 f0 f1 HV
        go_wp2_with fail
        go_roundw
        case rel => exact ⟨i + 1, by omega, by go_num, HB2⟩
        case measure => simp [intOf]; omega
    · obtain rfl : i = n := by omega
      go_wp2_with fail
      go_ret
      exact ⟨rfl, HB.out⟩
set_option maxRecDepth 100000 in
set_option maxHeartbeats 8000000 in
theorem rsames_ins (ts us : List Ins) (A B : Option Addr) (ca cb : Nat) (w : World) (hA : Row w A (ts.flatMap Ins.vals)) (hB : Row w B (us.flatMap Ins.vals)) (hI : ∀ t ∈ ts, t.In w) (hJ : ∀ u ∈ us, u.In w) (hk : us.map Ins.pl = ts.map Ins.pl) (hl : ts.length ≤ 1000000) :
    Calls Tryd.prog 69 #[.slice A ts.length ca, .slice B us.length cb] w fun e w' => e = .returned (.bool true) ∧ Below w.heap.size w w' := by
  have hul : us.length = ts.length := len_of_map hk
  have V : Hid (∀ (i : Nat) (t u : Ins), ts[i]? = some t → us[i]? = some u → ∀ W, Below w.heap.size w W → Calls Tryd.prog 20 #[.agg #[.int .i64 t.op, .int .i64 t.dst, .slice t.I t.is.length t.ic, .slice t.G t.gs.length t.gc, .int .i64 t.fr, .int .i64 t.to], .agg #[.int .i64 u.op, .int .i64 u.dst, .slice u.I u.is.length u.ic, .slice u.G u.gs.length u.gc, .int .i64 u.fr, .int .i64 u.to]] W fun e w' => e = .returned (.bool true) ∧ Below W.heap.size W w') := hide fun i t u ht hu W hb => by
    have hk1 : (us.map Ins.pl)[i]? = some u.pl := by rw [List.getElem?_map, hu]; rfl
    rw [hk, List.getElem?_map, ht] at hk1
    exact rsameins_c t u W ((hI t (List.mem_of_getElem? ht)).below hb) ((hJ u (List.mem_of_getElem? hu)).below hb) (Option.some.inj hk1).symm
  have HA := hide hA
  have HBr := hide hB
  rw [hul]
  obtain ⟨n, hn⟩ : ∃ n, Hid (ts.length = n) := ⟨_, hide rfl⟩
  have hun : Hid (us.length = n) := hide (hul.trans hn.out)
  rw [hn.out] at hl ⊢
  clear hA hB hI hJ hk hul
  go_enter Tryd.func69, Tryd.ntmps69
  go_wp2_with fail
  go_loopw [5, 6] (fun k _ wr => ∃ i : Nat, i ≤ n ∧ k = .int .i64 i ∧ Hid (Below w.heap.size w wr)) (fun k _ _ => n - (intOf k).toNat)
  case atStart => exact ⟨0, by omega, rfl, hide (Below.refl _ _)⟩
  case round =>
    obtain ⟨i, hi, rfl, HB⟩ := hrel
    by_cases hlt : i < n
    · obtain ⟨ad, t, rfl, had, ht, c0, c1, c2, c3, c4, c5⟩ := row_ins (HA.out.below HB.out) i (by rw [hn.out]; exact hlt)
      obtain ⟨ae, u, rfl, hae, hu, f0, f1, f2, f3, f4, f5⟩ := row_ins (HBr.out.below HB.out) i (by rw [hun.out]; exact hlt)
      have HBD := hide (HB.out.drew)
      have HV := hide (V.out i t u ht.out hu.out wr.drew HBD.out)
      clear V
      go_wp2_with fail
      go_region_law (first | (go_simp; go_at_call 20; refine HV.out.mono ?_; rintro e w2 ⟨rfl, hb⟩; have HB2 := hide (HBD.out.trans (hb.mono HBD.out.size)); clear hb))
      all_goals go_ways
      all_goals
        clear c0 c1 c2 c3 c4 c5 f0 f1 f2 f3 f4 f5 HV
        go_wp2_with fail
        go_roundw
        case rel => exact ⟨i + 1, by omega, by go_num, HB2⟩
        case measure => simp [intOf]; omega
    · obtain rfl : i = n := by omega
      go_wp2_with fail
      go_ret
      exact ⟨rfl, HB.out⟩
set_option maxRecDepth 100000 in
set_option maxHeartbeats 8000000 in
theorem rsameplan_c (p q : Pn) (w : World) (hp : p.In w) (hq : q.In w) (he : q.pl = p.pl) :
    Calls Tryd.prog 23 #[.agg #[.int .i64 p.size, .slice p.V p.vs.length p.vc, .slice p.C p.cs.length p.cc, .slice p.L p.ls.length p.lc, .slice p.K p.is.length p.kc, .int .i64 p.inp, .int .i64 p.out], .agg #[.int .i64 q.size, .slice q.V q.vs.length q.vc, .slice q.C q.cs.length q.cc, .slice q.L q.ls.length q.lc, .slice q.K q.is.length q.kc, .int .i64 q.inp, .int .i64 q.out]] w fun e w' => e = .returned (.bool true) ∧ Below w.heap.size w w' := by
  have e0 : q.size = p.size := congrArg PlP.size he
  have e1 : q.vs.map Vw.pl = p.vs.map Vw.pl := congrArg PlP.vs he
  have e2 : q.cs.map Ten.pl = p.cs.map Ten.pl := congrArg PlP.cs he
  have e3 : q.ls.map Dsc.pl = p.ls.map Dsc.pl := congrArg PlP.ls he
  have e4 : q.is.map Ins.pl = p.is.map Ins.pl := congrArg PlP.is he
  have e5 : q.inp = p.inp := congrArg PlP.inp he
  have e6 : q.out = p.out := congrArg PlP.out he
  have H1 := hide (fun (W : World) (hb : Below w.heap.size w W) => rsames_vw p.vs q.vs p.V q.V p.vc q.vc W (hp.V.below hb) (hq.V.below hb) (fun x hx => (hp.vs x hx).below hb) (fun x hx => (hq.vs x hx).below hb) e1 hp.lv)
  have H2 := hide (fun (W : World) (hb : Below w.heap.size w W) => rsames_ten p.cs q.cs p.C q.C p.cc q.cc W (hp.C.below hb) (hq.C.below hb) (fun x hx => (hp.cs x hx).below hb) (fun x hx => (hq.cs x hx).below hb) e2 hp.lc)
  have H3 := hide (fun (W : World) (hb : Below w.heap.size w W) => rsames_dsc p.ls q.ls p.L q.L p.lc q.lc W (hp.L.below hb) (hq.L.below hb) (fun x hx => (hp.ls x hx).below hb) (fun x hx => (hq.ls x hx).below hb) e3 hp.ll)
  have H4 := hide (fun (W : World) (hb : Below w.heap.size w W) => rsames_ins p.is q.is p.K q.K p.kc q.kc W (hp.K.below hb) (hq.K.below hb) (fun x hx => (hp.is x hx).below hb) (fun x hx => (hq.is x hx).below hb) e4 hp.li)
  rw [e0, e5, e6]
  obtain ⟨W0, hW0⟩ : ∃ W0, Hid ((w.alloc (.cells #[.int .i64 p.size, .slice p.V p.vs.length p.vc, .slice p.C p.cs.length p.cc, .slice p.L p.ls.length p.lc, .slice p.K p.is.length p.kc, .int .i64 p.inp, .int .i64 p.out] 27)).alloc (.cells #[.int .i64 p.size, .slice q.V q.vs.length q.vc, .slice q.C q.cs.length q.cc, .slice q.L q.ls.length q.lc, .slice q.K q.is.length q.kc, .int .i64 p.inp, .int .i64 p.out] 27) = W0) := ⟨_, hide rfl⟩
  have hb0 : Below w.heap.size w W0 := by
    rw [← hW0.out]
    exact ((Below.refl w.heap.size w).alloc (Nat.le_refl _) _).alloc (by simp) _
  have hr1 : Has W0 w.heap.size 27 [.int .i64 p.size, .slice p.V p.vs.length p.vc, .slice p.C p.cs.length p.cc, .slice p.L p.ls.length p.lc, .slice p.K p.is.length p.kc, .int .i64 p.inp, .int .i64 p.out] := by
    rw [← hW0.out]
    exact (Has.new w 27 [.int .i64 p.size, .slice p.V p.vs.length p.vc, .slice p.C p.cs.length p.cc, .slice p.L p.ls.length p.lc, .slice p.K p.is.length p.kc, .int .i64 p.inp, .int .i64 p.out]).alloc _
  have hr2 : Has W0 (w.heap.size + 1) 27 [.int .i64 p.size, .slice q.V q.vs.length q.vc, .slice q.C q.cs.length q.cc, .slice q.L q.ls.length q.lc, .slice q.K q.is.length q.kc, .int .i64 p.inp, .int .i64 p.out] := by
    rw [← hW0.out]
    have h := Has.new (w.alloc (.cells #[.int .i64 p.size, .slice p.V p.vs.length p.vc, .slice p.C p.cs.length p.cc, .slice p.L p.ls.length p.lc, .slice p.K p.is.length p.kc, .int .i64 p.inp, .int .i64 p.out] 27)) 27 [.int .i64 p.size, .slice q.V q.vs.length q.vc, .slice q.C q.cs.length q.cc, .slice q.L q.ls.length q.lc, .slice q.K q.is.length q.kc, .int .i64 p.inp, .int .i64 p.out]
    simpa using h
  obtain ⟨p1, hp1⟩ : ∃ n, Hid (p.vs.length = n) := ⟨_, hide rfl⟩
  obtain ⟨p2, hp2⟩ : ∃ n, Hid (p.cs.length = n) := ⟨_, hide rfl⟩
  obtain ⟨p3, hp3⟩ : ∃ n, Hid (p.ls.length = n) := ⟨_, hide rfl⟩
  obtain ⟨p4, hp4⟩ : ∃ n, Hid (p.is.length = n) := ⟨_, hide rfl⟩
  obtain ⟨q1, hq1⟩ : ∃ n, Hid (q.vs.length = n) := ⟨_, hide rfl⟩
  obtain ⟨q2, hq2⟩ : ∃ n, Hid (q.cs.length = n) := ⟨_, hide rfl⟩
  obtain ⟨q3, hq3⟩ : ∃ n, Hid (q.ls.length = n) := ⟨_, hide rfl⟩
  obtain ⟨q4, hq4⟩ : ∃ n, Hid (q.is.length = n) := ⟨_, hide rfl⟩
  rw [hp1.out, hp2.out, hp3.out, hp4.out, hq1.out, hq2.out, hq3.out, hq4.out] at hW0 ⊢
  rw [hp1.out, hp2.out, hp3.out, hp4.out] at hr1
  rw [hq1.out, hq2.out, hq3.out, hq4.out] at hr2
  rw [hp1.out, hq1.out] at H1
  rw [hp2.out, hq2.out] at H2
  rw [hp3.out, hq3.out] at H3
  rw [hp4.out, hq4.out] at H4
  have HB0 := hide hb0
  have HR0 := hide hr1
  have HS0 := hide hr2
  have HC1 := hide (H1.out _ hb0)
  clear hb0 hr1 hr2 hp hq he e0 e1 e2 e3 e4 e5 e6 H1
  go_enter Tryd.func23, Tryd.ntmps23
  go_wp2_with fail
  rw [hW0.out]
  refine HC1.out.mono ?_
  rintro e w1 ⟨rfl, hb⟩
  have HB1 := hide (HB0.out.trans (hb.mono HB0.out.size))
  have HR1 := hide (HR0.out.below hb HR0.out.lt)
  have HS1 := hide (HS0.out.below hb HS0.out.lt)
  have HC2 := hide (H2.out _ HB1.out)
  have c2 : w1.cell? ⟨w.heap.size, 2, none⟩ = some (.slice p.C p2 p.cc) := HR1.out.cell 2
  have d2 : w1.cell? ⟨w.heap.size + 1, 2, none⟩ = some (.slice q.C q2 q.cc) := HS1.out.cell 2
  clear HC1 HB0 HR0 HS0 hb H2
  go_wp2_with fail
  clear c2 d2
  refine HC2.out.mono ?_
  rintro e w2 ⟨rfl, hb⟩
  have HB2 := hide (HB1.out.trans (hb.mono HB1.out.size))
  have HR2 := hide (HR1.out.below hb HR1.out.lt)
  have HS2 := hide (HS1.out.below hb HS1.out.lt)
  have HC3 := hide (H3.out _ HB2.out)
  have c3 : w2.cell? ⟨w.heap.size, 3, none⟩ = some (.slice p.L p3 p.lc) := HR2.out.cell 3
  have d3 : w2.cell? ⟨w.heap.size + 1, 3, none⟩ = some (.slice q.L q3 q.lc) := HS2.out.cell 3
  clear HC2 HB1 HR1 HS1 hb H3
  go_wp2_with fail
  clear c3 d3
  refine HC3.out.mono ?_
  rintro e w3 ⟨rfl, hb⟩
  have HB3 := hide (HB2.out.trans (hb.mono HB2.out.size))
  have HR3 := hide (HR2.out.below hb HR2.out.lt)
  have HS3 := hide (HS2.out.below hb HS2.out.lt)
  have HC4 := hide (H4.out _ HB3.out)
  have c4 : w3.cell? ⟨w.heap.size, 4, none⟩ = some (.slice p.K p4 p.kc) := HR3.out.cell 4
  have d4 : w3.cell? ⟨w.heap.size + 1, 4, none⟩ = some (.slice q.K q4 q.kc) := HS3.out.cell 4
  clear HC3 HB2 HR2 HS2 hb H4
  go_wp2_with fail
  clear c4 d4
  refine HC4.out.mono ?_
  rintro e w4 ⟨rfl, hb⟩
  have HB4 := hide (HB3.out.trans (hb.mono HB3.out.size))
  have HR4 := hide (HR3.out.below hb HR3.out.lt)
  have HS4 := hide (HS3.out.below hb HS3.out.lt)
  have c0 : w4.cell? ⟨w.heap.size, 0, none⟩ = some (.int .i64 p.size) := HR4.out.cell 0
  have c5 : w4.cell? ⟨w.heap.size, 5, none⟩ = some (.int .i64 p.inp) := HR4.out.cell 5
  have c6 : w4.cell? ⟨w.heap.size, 6, none⟩ = some (.int .i64 p.out) := HR4.out.cell 6
  have d0 : w4.cell? ⟨w.heap.size + 1, 0, none⟩ = some (.int .i64 p.size) := HS4.out.cell 0
  have d5 : w4.cell? ⟨w.heap.size + 1, 5, none⟩ = some (.int .i64 p.inp) := HS4.out.cell 5
  have d6 : w4.cell? ⟨w.heap.size + 1, 6, none⟩ = some (.int .i64 p.out) := HS4.out.cell 6
  clear HC4 HB3 HR3 HS3 hb
  go_wp2_with fail
  go_ret
  exact ⟨rfl, HB4.out⟩
end Go.Proofs.YthjnkaikjjjceaaDoor
