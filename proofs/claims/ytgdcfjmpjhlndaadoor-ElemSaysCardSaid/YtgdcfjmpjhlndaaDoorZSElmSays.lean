/-
  The law ElemSays, walked. By an AI agent. No person has read it.
-/
import Derived.Test.YtgdcfjmpjhlndaaDoorZSOpX
import Derived.Test.YtgdcfjmpjhlndaaDoorZSOpSame
import Derived.Test.YtgdcfjmpjhlndaaDoorZSElmFirst
import Derived.Test.YtgdcfjmpjhlndaaDoorZSElmS
import Derived.Test.YtgdcfjmpjhlndaaDoorZSOpA
namespace Go.Proofs.YtgdcfjmpjhlndaaDoor
open Go.RowKit
theorem Elm.fault_cel (op : Int) (qs : List Int) (ts : List Ten) : Elm.fault op qs ts = Cel.fault ts (Elm.code op qs (ts.map Ten.look)) := by
  unfold Elm.fault
  by_cases h : Tens.first ts = (0, none)
  · rw [if_pos h, Cel.fault_code h]
  · rw [if_neg h, Cel.fault_first h]
theorem Elm.fault_op {op : Int} (ho : 4 ≤ op ∧ op ≤ 11) (qs : List Int) (ts : List Ten) : Op.fault op qs ts = Elm.fault op qs ts := by
  rw [Elm.fault_cel]
  unfold Op.fault
  rw [Elm.look_low op ho]
/-- Of an operation element by element: the reference's Apply is what the program's is. -/
theorem rapply_elm {op : Int} (ho : 4 ≤ op ∧ op ≤ 11) (qs : List Int) (ts : List Ten) (A B : Option Addr) (qcap cap : Nat) (w : World) (hQ : Ri w A qs) (hql : qs.length ≤ 1000000) (hR : Row w B (ts.flatMap Ten.vals)) (hI : ∀ t ∈ ts, t.In w) (hl : ts.length ≤ 1000000) (hz : ∀ t ∈ ts, t.zs.length ≤ t.cap) :
    Calls Tryd.prog 14 #[.int .i64 op, .slice A qs.length qcap, .slice B ts.length cap] w (RTenE w (Elm.fault op qs ts) (Elm.ozs op qs ts) (Elm.ou op qs ts) (Elm.ods op qs ts)) := by
  have h := rapply_any op qs ts A B qcap cap w hQ hql hR hI hl hz (Elm.ods op qs ts) (Elm.ozs op qs ts) (Elm.ou op qs ts) (fun h => op_both_elm2 h ho.2)
  rw [Elm.fault_op ho] at h
  by_cases h0 : Elm.fault op qs ts = (0, none)
  · rw [if_pos h0, if_pos h0, if_pos h0] at h
    exact h
  · rw [if_neg h0, if_neg h0, if_neg h0] at h
    rw [show Elm.ozs op qs ts = [] from if_neg h0, show Elm.ou op qs ts = false from if_neg h0, show Elm.ods op qs ts = [] from if_neg h0]
    exact h
/-- Of any other: it is refused. -/
theorem rapply_none {op : Int} (_ : ¬ (4 ≤ op ∧ op ≤ 11)) (qs : List Int) (ts : List Ten) (A B : Option Addr) (qcap cap : Nat) (w : World) (hQ : Ri w A qs) (hql : qs.length ≤ 1000000) (hR : Row w B (ts.flatMap Ten.vals)) (hI : ∀ t ∈ ts, t.In w) (hl : ts.length ≤ 1000000) (hz : ∀ t ∈ ts, t.zs.length ≤ t.cap) (hd : ∀ t ∈ ts, t.ds.length ≤ t.dcap) :
    Calls Tryd.prog 14 #[.int .i64 op, .slice A qs.length qcap, .slice B ts.length cap] w fun e w' => (∃ (t : Ten) (c i : Int) (p : Bool), e = .returned (.tuple #[.agg (tcells t.P t.zs.length t.cap t.u t.D t.ds.length t.dcap), .agg (gcells c p i)])) ∧ Below w.heap.size w w' := by
  have k : ∀ (rs X : List Int) (Y : Bool), (Op.fault op qs ts = (0, none) → OpBoth op qs ts rs X Y) → Calls Tryd.prog 14 #[.int .i64 op, .slice A qs.length qcap, .slice B ts.length cap] w fun e w' => (∃ (t : Ten) (c i : Int) (p : Bool), e = .returned (.tuple #[.agg (tcells t.P t.zs.length t.cap t.u t.D t.ds.length t.dcap), .agg (gcells c p i)])) ∧ Below w.heap.size w w' := fun rs X Y h => by
    refine (rapply_any op qs ts A B qcap cap w hQ hql hR hI hl hz rs X Y h).mono ?_
    rintro e w' ⟨⟨t, rfl, -, -, -, -⟩, hb⟩
    obtain ⟨p, i, e⟩ := fval_is (Op.fault op qs ts)
    rw [e]
    exact ⟨⟨t, _, i, p, rfl⟩, hb⟩
  by_cases h0 : Op.fault op qs ts = (0, none)
  · obtain ⟨rs, X, Y, hB⟩ := op_both h0 hd
    exact k rs X Y fun _ => hB
  · exact k [] [] false fun h => absurd h h0
theorem Elm.Err.below {W W' : World} {ah am ar ak : Addr} {v : Value} {R : Nat × Option Nat} (h : Elm.Err W ah am ar ak v R) (hb : Below W.heap.size W W') : Elm.Err W' ah am ar ak v R := h.low hb
theorem Elm.code_out {op : Int} (ho : ¬ (4 ≤ op ∧ op ≤ 11)) (qs : List Int) (ds : List Dsc) : Elm.code op qs ds = 103 := by
  unfold Elm.code
  rw [if_pos (show Elm.known op = false from decide_eq_false ho)]
theorem Elm.fault_out {op : Int} (ho : ¬ (4 ≤ op ∧ op ≤ 11)) (qs : List Int) (a b : Ten) : Elm.fault op qs [a, b] = if a.fault = (0, none) then (if b.fault = (0, none) then (103, none) else b.fault) else a.fault := by
  unfold Elm.fault
  rw [Elm.code_out ho]
  by_cases ha : a.fault = (0, none)
  · by_cases hb : b.fault = (0, none)
    · have h : Tens.first [a, b] = (0, none) := Tens.first_none _ (fun j t ht => by
        match j, ht with
        | 0, ht => cases ht; exact ha
        | 1, ht => cases ht; exact hb)
      rw [if_pos h, if_pos ha, if_pos hb]
    · have h : Tens.first [a, b] = b.fault := Tens.first_at _ 1 b rfl (fun j x hj hx => by
        obtain rfl : j = 0 := by omega
        cases hx
        exact ha) hb
      rw [if_neg (by rw [h]; exact hb), if_pos ha, if_neg hb, h]
  · have h : Tens.first [a, b] = a.fault := Tens.first_at _ 0 a rfl (fun j x hj hx => by omega) ha
    rw [if_neg (by rw [h]; exact ha), if_neg ha, h]
theorem Elm.fault_out1 {op : Int} (ho : ¬ (4 ≤ op ∧ op ≤ 11)) (qs : List Int) (a : Ten) : Elm.fault op qs [a] = if a.fault = (0, none) then (103, none) else a.fault := by
  unfold Elm.fault
  rw [Elm.code_out ho]
  by_cases ha : a.fault = (0, none)
  · have h : Tens.first [a] = (0, none) := Tens.first_none _ (fun j t ht => by
      match j, ht with
      | 0, ht => cases ht; exact ha)
    rw [if_pos h, if_pos ha]
  · have h : Tens.first [a] = a.fault := Tens.first_at _ 0 a rfl (fun j x hj hx => by omega) ha
    rw [if_neg (by rw [h]; exact ha), if_neg ha, h]
theorem rsame_good (s t : Ten) (w : World) (hs : s.In w) (ht : t.In w) (h1 : s.zs = t.zs) (h2 : s.u = t.u) (h3 : s.ds = t.ds) :
    Calls Tryd.prog 18 #[.agg (tcells s.P s.zs.length s.cap s.u s.D s.ds.length s.dcap), .agg (tcells t.P t.zs.length t.cap t.u t.D t.ds.length t.dcap)] w fun e w' => e = .returned (.bool true) ∧ Below w.heap.size w w' := by
  refine (sametensor_c s.zs t.zs s.ds t.ds s.P t.P s.D t.D s.cap t.cap s.dcap t.dcap s.u t.u w hs.shp ht.shp hs.dat ht.dat hs.ls ht.ls hs.ld ht.ld).mono fun e w' h => ?_
  rw [decide_eq_true h1, decide_eq_true h3, h2] at h
  simpa using h
set_option maxRecDepth 100000 in
set_option maxHeartbeats 16000000 in
theorem elmsays_c (op : Int) (a b : Ten) (qs : List Int) (A : Option Addr) (qcap : Nat) (es : List Addr) (w : World) (ra : Ri w a.P a.zs ∧ Ri w a.D a.ds) (rb : Ri w b.P b.zs ∧ Ri w b.D b.ds) (ca : a.zs.length ≤ a.cap ∧ a.ds.length ≤ a.dcap) (cb : b.zs.length ≤ b.cap ∧ b.ds.length ≤ b.dcap) (hQ : Ri w A qs) (hZ : Ez w es) :
    Calls Tryd.prog 3 #[.int .i64 op, .agg (tcells a.P a.zs.length a.cap a.u a.D a.ds.length a.dcap), .agg (tcells b.P b.zs.length b.cap b.u b.D b.ds.length b.dcap), .slice A qs.length qcap] w fun e w' => e = .returned (.bool true) ∧ Below w.heap.size w w' := by
  obtain ⟨ah, am, ar, ak, h0, h1, h2, h3, hE⟩ := E4.ofz hZ
  obtain ⟨hb0, hA, hB⟩ := boxes_two w 26 26 a.vals b.vals
  unfold Ten.vals at hb0 hA hB
  have HF := hide (first7_c ah am ar ak _ (hE.below hb0))
  have BA := hide hA
  have BB := hide hB
  have HB := hide hb0
  have HE := hide (fun W (hb : Below w.heap.size w W) => hE.below hb)
  have HZ := hide (fun W (hb : Below w.heap.size w W) => hZ.below hb)
  have HQ := hide (fun W (hb : Below w.heap.size w W) => hQ.below hb)
  have HW0 := hide (fun W => worldtensor_c a.P a.D a.zs.length a.cap a.ds.length a.dcap a.u W)
  have HW1 := hide (fun W => worldtensor_c b.P b.D b.zs.length b.cap b.ds.length b.dcap b.u W)
  have RA := hide (fun W (hb : Below w.heap.size w W) => And.intro (ra.1.below hb) (ra.2.below hb))
  have RB := hide (fun W (hb : Below w.heap.size w W) => And.intro (rb.1.below hb) (rb.2.below hb))
  have CA := hide ca
  have CB := hide cb
  have SAME : Hid (∀ (v : Value) (R : Nat × Option Nat), (R = (0, none) ∨ R = (101, none) ∨ R = (102, none) ∨ R = (103, none) ∨ R = (104, none) ∨ ∃ i, R = (102, some i)) → ∀ W, Below w.heap.size w W → Elm.Err W ah am ar ak v R → Calls Tryd.prog 16 #[v, .agg (Tens.fval R)] W fun e w' => e = .returned (.bool true) ∧ Below W.heap.size W w') := hide (fun v R hc W hb ht => same_op h0 h1 h2 h3 v R hc W (hZ.below hb) ht)
  have ISK : Hid (∀ W, Below w.heap.size w W → Calls Tryd.prog 17 #[errv ak, .int .i64 103] W fun e w' => e = .returned (.bool true) ∧ Below W.heap.size W w') := hide (fun W hb => is_c es 2 ak h2 103 W (hZ.below hb))
  obtain ⟨nq, hnq⟩ : ∃ n, Hid (qs.length = n) := ⟨_, hide rfl⟩
  rw [hnq.out]
  clear hb0 hA hB hE hZ hQ ra rb ca cb h0 h1 h2 h3
  go_enter Tryd.func3, Tryd.ntmps3
  go_wp2_with fail
  refine HF.out.mono ?_
  rintro e w1 ⟨rfl, hb⟩
  replace BA := hide (BA.out.below hb BA.out.lt)
  replace BB := hide (BB.out.below hb BB.out.lt)
  replace HB := hide (HB.out.trans (hb.mono HB.out.size))
  clear HF hb
  obtain ⟨sa, hsa⟩ : ∃ b, Hid ((decide (a.zs.length ≤ 8) && decide (a.ds.length ≤ 300)) = b) := ⟨_, hide rfl⟩
  obtain ⟨sb, hsb⟩ : ∃ b_, Hid ((decide (b.zs.length ≤ 8) && decide (b.ds.length ≤ 300)) = b_) := ⟨_, hide rfl⟩
  rw [hsa.out] at HW0
  rw [hsb.out] at HW1
  have c_BA0 := BA.out.cell 0
  have c_BA1 := BA.out.cell 1
  have c_BA2 := BA.out.cell 2
  go_wp2_with fail
  clear c_BA0 c_BA1 c_BA2
  refine (HW0.out _).mono ?_
  rintro e w2 ⟨rfl, hb⟩
  replace HB := hide (HB.out.trans (hb.mono HB.out.size))
  replace BA := hide (BA.out.below hb BA.out.lt)
  replace BB := hide (BB.out.below hb BB.out.lt)
  clear hb
  cases sa
  case false =>
    go_wp2_with fail
    go_ret
    exact ⟨rfl, HB.out⟩
  case true =>
  have c_BB0 := BB.out.cell 0
  have c_BB1 := BB.out.cell 1
  have c_BB2 := BB.out.cell 2
  go_wp2_with fail
  clear c_BB0 c_BB1 c_BB2
  refine (HW1.out _).mono ?_
  rintro e w3 ⟨rfl, hb⟩
  replace HB := hide (HB.out.trans (hb.mono HB.out.size))
  replace BA := hide (BA.out.below hb BA.out.lt)
  replace BB := hide (BB.out.below hb BB.out.lt)
  clear hb
  cases sb
  case false =>
    go_wp2_with fail
    go_ret
    exact ⟨rfl, HB.out⟩
  case true =>
  have Ha : Hid (a.zs.length ≤ 8 ∧ a.ds.length ≤ 300) := hide (by have h := hsa.out; rw [Bool.and_eq_true, decide_eq_true_eq, decide_eq_true_eq] at h; exact h)
  have Hb : Hid (b.zs.length ≤ 8 ∧ b.ds.length ≤ 300) := hide (by have h := hsb.out; rw [Bool.and_eq_true, decide_eq_true_eq, decide_eq_true_eq] at h; exact h)
  have IA := hide (fun W (hb : Below w.heap.size w W) => (show a.In W from ⟨(RA.out W hb).1, (RA.out W hb).2, by have := Ha.out; omega, by have := Ha.out; omega⟩))
  have IB := hide (fun W (hb : Below w.heap.size w W) => (show b.In W from ⟨(RB.out W hb).1, (RB.out W hb).2, by have := Hb.out; omega, by have := Hb.out; omega⟩))
  clear HW0 HW1 hsa hsb
  by_cases hq : nq ≤ 10
  case neg =>
    have hq2 : (10 : Int) < nq := by omega
    clear hq
    go_wp2_with fail
    go_ret
    exact ⟨rfl, HB.out⟩
  case pos =>
  have hq2 : (nq : Int) ≤ 10 := by omega
  have Hq : Hid (qs.length ≤ 10) := hide (by rw [hnq.out]; exact hq)
  clear hq
  have VT := hide (fun W (hb : Below w.heap.size w W) => two_c op a b ah am ar ak W (IA.out W hb) (IB.out W hb) (HE.out W hb))
  have VU := hide (fun W (hb : Below w.heap.size w W) => one_c op qs a A qcap ah am ar ak W (IA.out W hb) (HQ.out W hb) (HE.out W hb))
  rw [hnq.out] at VU
  have c_BA0 := BA.out.cell 0
  have c_BA1 := BA.out.cell 1
  have c_BA2 := BA.out.cell 2
  have c_BB0 := BB.out.cell 0
  have c_BB1 := BB.out.cell 1
  have c_BB2 := BB.out.cell 2
  go_wp2_with fail
  clear c_BA0 c_BA1 c_BA2 c_BB0 c_BB1 c_BB2
  refine (VT.out _ HB.out).mono ?_
  rintro e d1 ⟨⟨t, e1, rfl, ht, -, htz, htu, htd, hte⟩, hb⟩
  replace HB := hide (HB.out.trans (hb.mono HB.out.size))
  replace BA := hide (BA.out.below hb BA.out.lt)
  replace BB := hide (BB.out.below hb BB.out.lt)
  clear hb
  have TT := hide ht
  have ZT := hide htz
  have UT := hide htu
  have DT := hide htd
  have ET := hide hte
  clear ht htz htu htd hte
  have c_BA0 := BA.out.cell 0
  have c_BA1 := BA.out.cell 1
  have c_BA2 := BA.out.cell 2
  have l_BA := BA.out.lt
  obtain ⟨d2, hd2⟩ : ∃ W, W = d1.alloc (.cells #[.slice t.P t.zs.length t.cap, .bool t.u, .slice t.D t.ds.length t.dcap] 26) := ⟨_, rfl⟩
  have hbA : Below d1.heap.size d1 d2 := by rw [hd2]; exact (Below.refl _ _).alloc (Nat.le_refl _) _
  have BT : Hid (Has d2 d1.heap.size 26 [.slice t.P t.zs.length t.cap, .bool t.u, .slice t.D t.ds.length t.dcap]) := hide (by rw [hd2]; exact Has.new _ _ _)
  replace HB := hide (HB.out.trans (hbA.mono HB.out.size))
  replace BA := hide (BA.out.below hbA BA.out.lt)
  replace BB := hide (BB.out.below hbA BB.out.lt)
  replace TT := hide (TT.out.below hbA)
  replace ET := hide (ET.out.below hbA)
  have Hd2 := hide hd2
  clear hd2 hbA
  go_wp2_with fail
  rw [← Hd2.out]
  clear Hd2 c_BA0 c_BA1 c_BA2 l_BA
  refine (VU.out _ HB.out).mono ?_
  rintro e d3 ⟨⟨u, e2, rfl, ht, -, htz, htu, htd, hte⟩, hb⟩
  replace HB := hide (HB.out.trans (hb.mono HB.out.size))
  replace BA := hide (BA.out.below hb BA.out.lt)
  replace BB := hide (BB.out.below hb BB.out.lt)
  replace TT := hide (TT.out.below hb)
  replace ET := hide (ET.out.below hb)
  replace BT := hide (BT.out.below hb BT.out.lt)
  clear hb
  have TU := hide ht
  have ZU := hide htz
  have UU := hide htu
  have DU := hide htd
  have EU := hide hte
  clear ht htz htu htd hte
  by_cases ho : 4 ≤ op ∧ op ≤ 11
  case pos =>
    have VX := hide (fun W (B : Option Addr) (hb : Below w.heap.size w W) (hr : Row W B ([a, b].flatMap Ten.vals)) => rapply_elm ho [] [a, b] none B 0 2 W (Ri.nil _ _) (by simp) hr (fun t ht => by
      simp only [List.mem_cons, List.not_mem_nil, or_false] at ht
      rcases ht with rfl | rfl
      · exact IA.out W hb
      · exact IB.out W hb) (by simp) (fun t ht => by
      simp only [List.mem_cons, List.not_mem_nil, or_false] at ht
      rcases ht with rfl | rfl
      · exact CA.out.1
      · exact CB.out.1))
    have VY := hide (fun W (B : Option Addr) (hb : Below w.heap.size w W) (hr : Row W B ([a].flatMap Ten.vals)) => rapply_elm ho qs [a] A B qcap 1 W (HQ.out W hb) (by have := Hq.out; omega) hr (fun t ht => by rw [List.mem_singleton.1 ht]; exact IA.out W hb) (by simp) (fun t ht => by rw [List.mem_singleton.1 ht]; exact CA.out.1))
    unfold RTenE at VX VY
    obtain ⟨p1, i1, hv1⟩ := fval_is (Elm.fault op [] [a, b])
    obtain ⟨p2, i2, hv2⟩ := fval_is (Elm.fault op qs [a])
    have S1 := hide (fun W hb h => SAME.out e1 (Elm.fault op [] [a, b]) (by rw [← Elm.fault_op ho]; exact Op.fault_cases op [] [a, b]) W hb h)
    have S2 := hide (fun W hb h => SAME.out e2 (Elm.fault op qs [a]) (by rw [← Elm.fault_op ho]; exact Op.fault_cases op qs [a]) W hb h)
    rw [hv1] at VX S1
    rw [hv2, hnq.out] at VY
    rw [hv2] at S2
    unfold gcells at VX VY S1 S2
    obtain ⟨c1, hc1⟩ : ∃ c, Hid (((Elm.fault op [] [a, b]).1 : Int) = c) := ⟨_, hide rfl⟩
    obtain ⟨c2, hc2⟩ : ∃ c, Hid (((Elm.fault op qs [a]).1 : Int) = c) := ⟨_, hide rfl⟩
    rw [hc1.out] at VX S1
    rw [hc2.out] at VY S2
    have ho4 : 4 ≤ op := ho.1
    have ho11 : op ≤ 11 := ho.2
    clear ho hv1 hv2 SAME ISK VT VU
    have x0 : (d3.alloc (.cells #[.slice u.P u.zs.length u.cap, .bool u.u, .slice u.D u.ds.length u.dcap] 26)).cell? ⟨w.heap.size, 0, none⟩ = some (.slice a.P a.zs.length a.cap) := (BA.out.alloc _).cell 0
    have x1 : (d3.alloc (.cells #[.slice u.P u.zs.length u.cap, .bool u.u, .slice u.D u.ds.length u.dcap] 26)).cell? ⟨w.heap.size, 1, none⟩ = some (.bool a.u) := (BA.out.alloc _).cell 1
    have x2 : (d3.alloc (.cells #[.slice u.P u.zs.length u.cap, .bool u.u, .slice u.D u.ds.length u.dcap] 26)).cell? ⟨w.heap.size, 2, none⟩ = some (.slice a.D a.ds.length a.dcap) := (BA.out.alloc _).cell 2
    have x3 : (d3.alloc (.cells #[.slice u.P u.zs.length u.cap, .bool u.u, .slice u.D u.ds.length u.dcap] 26)).cell? ⟨w.heap.size + 1, 0, none⟩ = some (.slice b.P b.zs.length b.cap) := (BB.out.alloc _).cell 0
    have x4 : (d3.alloc (.cells #[.slice u.P u.zs.length u.cap, .bool u.u, .slice u.D u.ds.length u.dcap] 26)).cell? ⟨w.heap.size + 1, 1, none⟩ = some (.bool b.u) := (BB.out.alloc _).cell 1
    have x5 : (d3.alloc (.cells #[.slice u.P u.zs.length u.cap, .bool u.u, .slice u.D u.ds.length u.dcap] 26)).cell? ⟨w.heap.size + 1, 2, none⟩ = some (.slice b.D b.ds.length b.dcap) := (BB.out.alloc _).cell 2
    obtain ⟨d4, hd4⟩ : ∃ W, W = d3.alloc (.cells #[.slice u.P u.zs.length u.cap, .bool u.u, .slice u.D u.ds.length u.dcap] 26) := ⟨_, rfl⟩
    have hbA : Below d3.heap.size d3 d4 := by rw [hd4]; exact (Below.refl _ _).alloc (Nat.le_refl _) _
    have BU : Hid (Has d4 d3.heap.size 26 [.slice u.P u.zs.length u.cap, .bool u.u, .slice u.D u.ds.length u.dcap]) := hide (by rw [hd4]; exact Has.new _ _ _)
    replace HB := hide (HB.out.trans (hbA.mono HB.out.size))
    replace BA := hide (BA.out.below hbA BA.out.lt)
    replace BB := hide (BB.out.below hbA BB.out.lt)
    replace TT := hide (TT.out.below hbA)
    replace ET := hide (ET.out.below hbA)
    replace BT := hide (BT.out.below hbA BT.out.lt)
    replace TU := hide (TU.out.below hbA)
    replace EU := hide (EU.out.below hbA)
    have Hd4 := hide hd4
    clear hd4 hbA
    obtain ⟨d5, hd5⟩ : ∃ W, W = d4.alloc (.cells #[.slice a.P a.zs.length a.cap, .bool a.u, .slice a.D a.ds.length a.dcap, .slice b.P b.zs.length b.cap, .bool b.u, .slice b.D b.ds.length b.dcap] 26) := ⟨_, rfl⟩
    have hbA : Below d4.heap.size d4 d5 := by rw [hd5]; exact (Below.refl _ _).alloc (Nat.le_refl _) _
    have RAB : Hid (Has d5 (d3.heap.size + 1) 26 [.slice a.P a.zs.length a.cap, .bool a.u, .slice a.D a.ds.length a.dcap, .slice b.P b.zs.length b.cap, .bool b.u, .slice b.D b.ds.length b.dcap]) := hide (by rw [hd5]; exact box_at _ _ _ _ (by rw [Hd4.out]; simp))
    replace HB := hide (HB.out.trans (hbA.mono HB.out.size))
    replace BA := hide (BA.out.below hbA BA.out.lt)
    replace BB := hide (BB.out.below hbA BB.out.lt)
    replace TT := hide (TT.out.below hbA)
    replace ET := hide (ET.out.below hbA)
    replace BT := hide (BT.out.below hbA BT.out.lt)
    replace TU := hide (TU.out.below hbA)
    replace EU := hide (EU.out.below hbA)
    replace BU := hide (BU.out.below hbA BU.out.lt)
    have Hd5 := hide hd5
    clear hd5 hbA
    go_wp2_with fail
    rw [← Hd4.out]
    rw [← Hd5.out]
    clear Hd4 Hd5
    clear x0 x1 x2 x3 x4 x5
    refine (VX.out _ _ HB.out RAB.out.row).mono ?_
    rintro e d6 ⟨⟨x, rfl, hx, hxz, hxu, hxd⟩, hb⟩
    replace HB := hide (HB.out.trans (hb.mono HB.out.size))
    replace BA := hide (BA.out.below hb BA.out.lt)
    replace BB := hide (BB.out.below hb BB.out.lt)
    replace TT := hide (TT.out.below hb)
    replace ET := hide (ET.out.below hb)
    replace BT := hide (BT.out.below hb BT.out.lt)
    replace TU := hide (TU.out.below hb)
    replace EU := hide (EU.out.below hb)
    replace BU := hide (BU.out.below hb BU.out.lt)
    replace RAB := hide (RAB.out.below hb RAB.out.lt)
    clear hb
    have TX := hide hx
    have ZX := hide hxz
    have UX := hide hxu
    have DX := hide hxd
    clear hx hxz hxu hxd
    clear RAB
    have x0 : ((d6.alloc (.cells #[.slice x.P x.zs.length x.cap, .bool x.u, .slice x.D x.ds.length x.dcap] 26)).alloc (.cells #[.int .i64 c1, .bool p1, .int .i64 i1] 35)).cell? ⟨w.heap.size, 0, none⟩ = some (.slice a.P a.zs.length a.cap) := ((BA.out.alloc _).alloc _).cell 0
    have x1 : ((d6.alloc (.cells #[.slice x.P x.zs.length x.cap, .bool x.u, .slice x.D x.ds.length x.dcap] 26)).alloc (.cells #[.int .i64 c1, .bool p1, .int .i64 i1] 35)).cell? ⟨w.heap.size, 1, none⟩ = some (.bool a.u) := ((BA.out.alloc _).alloc _).cell 1
    have x2 : ((d6.alloc (.cells #[.slice x.P x.zs.length x.cap, .bool x.u, .slice x.D x.ds.length x.dcap] 26)).alloc (.cells #[.int .i64 c1, .bool p1, .int .i64 i1] 35)).cell? ⟨w.heap.size, 2, none⟩ = some (.slice a.D a.ds.length a.dcap) := ((BA.out.alloc _).alloc _).cell 2
    obtain ⟨d7, hd7⟩ : ∃ W, W = d6.alloc (.cells #[.slice x.P x.zs.length x.cap, .bool x.u, .slice x.D x.ds.length x.dcap] 26) := ⟨_, rfl⟩
    have hbA : Below d6.heap.size d6 d7 := by rw [hd7]; exact (Below.refl _ _).alloc (Nat.le_refl _) _
    have BX : Hid (Has d7 d6.heap.size 26 [.slice x.P x.zs.length x.cap, .bool x.u, .slice x.D x.ds.length x.dcap]) := hide (by rw [hd7]; exact Has.new _ _ _)
    replace HB := hide (HB.out.trans (hbA.mono HB.out.size))
    replace BA := hide (BA.out.below hbA BA.out.lt)
    replace BB := hide (BB.out.below hbA BB.out.lt)
    replace TT := hide (TT.out.below hbA)
    replace ET := hide (ET.out.below hbA)
    replace BT := hide (BT.out.below hbA BT.out.lt)
    replace TU := hide (TU.out.below hbA)
    replace EU := hide (EU.out.below hbA)
    replace BU := hide (BU.out.below hbA BU.out.lt)
    replace TX := hide (TX.out.below hbA)
    have Hd7 := hide hd7
    clear hd7 hbA
    obtain ⟨d8, hd8⟩ : ∃ W, W = d7.alloc (.cells #[.int .i64 c1, .bool p1, .int .i64 i1] 35) := ⟨_, rfl⟩
    have hbA : Below d7.heap.size d7 d8 := by rw [hd8]; exact (Below.refl _ _).alloc (Nat.le_refl _) _
    have GX : Hid (Has d8 (d6.heap.size + 1) 35 [.int .i64 c1, .bool p1, .int .i64 i1]) := hide (by rw [hd8]; exact box_at _ _ _ _ (by rw [Hd7.out]; simp))
    replace HB := hide (HB.out.trans (hbA.mono HB.out.size))
    replace BA := hide (BA.out.below hbA BA.out.lt)
    replace BB := hide (BB.out.below hbA BB.out.lt)
    replace TT := hide (TT.out.below hbA)
    replace ET := hide (ET.out.below hbA)
    replace BT := hide (BT.out.below hbA BT.out.lt)
    replace TU := hide (TU.out.below hbA)
    replace EU := hide (EU.out.below hbA)
    replace BU := hide (BU.out.below hbA BU.out.lt)
    replace TX := hide (TX.out.below hbA)
    replace BX := hide (BX.out.below hbA BX.out.lt)
    have Hd8 := hide hd8
    clear hd8 hbA
    obtain ⟨d9, hd9⟩ : ∃ W, W = d8.alloc (.cells #[.slice a.P a.zs.length a.cap, .bool a.u, .slice a.D a.ds.length a.dcap] 26) := ⟨_, rfl⟩
    have hbA : Below d8.heap.size d8 d9 := by rw [hd9]; exact (Below.refl _ _).alloc (Nat.le_refl _) _
    have RA1 : Hid (Has d9 (d6.heap.size + 2) 26 [.slice a.P a.zs.length a.cap, .bool a.u, .slice a.D a.ds.length a.dcap]) := hide (by rw [hd9]; exact box_at _ _ _ _ (by rw [Hd8.out, Hd7.out]; simp))
    replace HB := hide (HB.out.trans (hbA.mono HB.out.size))
    replace BA := hide (BA.out.below hbA BA.out.lt)
    replace BB := hide (BB.out.below hbA BB.out.lt)
    replace TT := hide (TT.out.below hbA)
    replace ET := hide (ET.out.below hbA)
    replace BT := hide (BT.out.below hbA BT.out.lt)
    replace TU := hide (TU.out.below hbA)
    replace EU := hide (EU.out.below hbA)
    replace BU := hide (BU.out.below hbA BU.out.lt)
    replace TX := hide (TX.out.below hbA)
    replace BX := hide (BX.out.below hbA BX.out.lt)
    replace GX := hide (GX.out.below hbA GX.out.lt)
    have Hd9 := hide hd9
    clear hd9 hbA
    go_wp2_with fail
    rw [← Hd7.out]
    rw [← Hd8.out]
    rw [← Hd9.out]
    clear Hd7 Hd8 Hd9
    clear x0 x1 x2
    refine (VY.out _ _ HB.out RA1.out.row).mono ?_
    rintro e d10 ⟨⟨y, rfl, hx, hxz, hxu, hxd⟩, hb⟩
    replace HB := hide (HB.out.trans (hb.mono HB.out.size))
    replace BA := hide (BA.out.below hb BA.out.lt)
    replace BB := hide (BB.out.below hb BB.out.lt)
    replace TT := hide (TT.out.below hb)
    replace ET := hide (ET.out.below hb)
    replace BT := hide (BT.out.below hb BT.out.lt)
    replace TU := hide (TU.out.below hb)
    replace EU := hide (EU.out.below hb)
    replace BU := hide (BU.out.below hb BU.out.lt)
    replace TX := hide (TX.out.below hb)
    replace BX := hide (BX.out.below hb BX.out.lt)
    replace GX := hide (GX.out.below hb GX.out.lt)
    replace RA1 := hide (RA1.out.below hb RA1.out.lt)
    clear hb
    have TY := hide hx
    have ZY := hide hxz
    have UY := hide hxu
    have DY := hide hxd
    clear hx hxz hxu hxd
    clear RA1
    have x0 : ((d10.alloc (.cells #[.slice y.P y.zs.length y.cap, .bool y.u, .slice y.D y.ds.length y.dcap] 26)).alloc (.cells #[.int .i64 c2, .bool p2, .int .i64 i2] 35)).cell? ⟨d6.heap.size + 1, 0, none⟩ = some (.int .i64 c1) := ((GX.out.alloc _).alloc _).cell 0
    have x1 : ((d10.alloc (.cells #[.slice y.P y.zs.length y.cap, .bool y.u, .slice y.D y.ds.length y.dcap] 26)).alloc (.cells #[.int .i64 c2, .bool p2, .int .i64 i2] 35)).cell? ⟨d6.heap.size + 1, 1, none⟩ = some (.bool p1) := ((GX.out.alloc _).alloc _).cell 1
    have x2 : ((d10.alloc (.cells #[.slice y.P y.zs.length y.cap, .bool y.u, .slice y.D y.ds.length y.dcap] 26)).alloc (.cells #[.int .i64 c2, .bool p2, .int .i64 i2] 35)).cell? ⟨d6.heap.size + 1, 2, none⟩ = some (.int .i64 i1) := ((GX.out.alloc _).alloc _).cell 2
    obtain ⟨d11, hd11⟩ : ∃ W, W = d10.alloc (.cells #[.slice y.P y.zs.length y.cap, .bool y.u, .slice y.D y.ds.length y.dcap] 26) := ⟨_, rfl⟩
    have hbA : Below d10.heap.size d10 d11 := by rw [hd11]; exact (Below.refl _ _).alloc (Nat.le_refl _) _
    have BY : Hid (Has d11 d10.heap.size 26 [.slice y.P y.zs.length y.cap, .bool y.u, .slice y.D y.ds.length y.dcap]) := hide (by rw [hd11]; exact Has.new _ _ _)
    replace HB := hide (HB.out.trans (hbA.mono HB.out.size))
    replace BA := hide (BA.out.below hbA BA.out.lt)
    replace BB := hide (BB.out.below hbA BB.out.lt)
    replace TT := hide (TT.out.below hbA)
    replace ET := hide (ET.out.below hbA)
    replace BT := hide (BT.out.below hbA BT.out.lt)
    replace TU := hide (TU.out.below hbA)
    replace EU := hide (EU.out.below hbA)
    replace BU := hide (BU.out.below hbA BU.out.lt)
    replace TX := hide (TX.out.below hbA)
    replace BX := hide (BX.out.below hbA BX.out.lt)
    replace GX := hide (GX.out.below hbA GX.out.lt)
    replace TY := hide (TY.out.below hbA)
    have Hd11 := hide hd11
    clear hd11 hbA
    obtain ⟨d12, hd12⟩ : ∃ W, W = d11.alloc (.cells #[.int .i64 c2, .bool p2, .int .i64 i2] 35) := ⟨_, rfl⟩
    have hbA : Below d11.heap.size d11 d12 := by rw [hd12]; exact (Below.refl _ _).alloc (Nat.le_refl _) _
    have GY : Hid (Has d12 (d10.heap.size + 1) 35 [.int .i64 c2, .bool p2, .int .i64 i2]) := hide (by rw [hd12]; exact box_at _ _ _ _ (by rw [Hd11.out]; simp))
    replace HB := hide (HB.out.trans (hbA.mono HB.out.size))
    replace BA := hide (BA.out.below hbA BA.out.lt)
    replace BB := hide (BB.out.below hbA BB.out.lt)
    replace TT := hide (TT.out.below hbA)
    replace ET := hide (ET.out.below hbA)
    replace BT := hide (BT.out.below hbA BT.out.lt)
    replace TU := hide (TU.out.below hbA)
    replace EU := hide (EU.out.below hbA)
    replace BU := hide (BU.out.below hbA BU.out.lt)
    replace TX := hide (TX.out.below hbA)
    replace BX := hide (BX.out.below hbA BX.out.lt)
    replace GX := hide (GX.out.below hbA GX.out.lt)
    replace TY := hide (TY.out.below hbA)
    replace BY := hide (BY.out.below hbA BY.out.lt)
    have Hd12 := hide hd12
    clear hd12 hbA
    go_wp2_with fail
    rw [← Hd11.out]
    rw [← Hd12.out]
    clear Hd11 Hd12
    clear x0 x1 x2
    refine (S1.out _ HB.out ET.out).mono ?_
    rintro e d13 ⟨rfl, hb⟩
    replace HB := hide (HB.out.trans (hb.mono HB.out.size))
    replace BA := hide (BA.out.below hb BA.out.lt)
    replace BB := hide (BB.out.below hb BB.out.lt)
    replace TT := hide (TT.out.below hb)
    replace ET := hide (ET.out.below hb)
    replace BT := hide (BT.out.below hb BT.out.lt)
    replace TU := hide (TU.out.below hb)
    replace EU := hide (EU.out.below hb)
    replace BU := hide (BU.out.below hb BU.out.lt)
    replace TX := hide (TX.out.below hb)
    replace BX := hide (BX.out.below hb BX.out.lt)
    replace GX := hide (GX.out.below hb GX.out.lt)
    replace TY := hide (TY.out.below hb)
    replace BY := hide (BY.out.below hb BY.out.lt)
    replace GY := hide (GY.out.below hb GY.out.lt)
    clear hb
    have c_BT0 := BT.out.cell 0
    have c_BT1 := BT.out.cell 1
    have c_BT2 := BT.out.cell 2
    have c_BX0 := BX.out.cell 0
    have c_BX1 := BX.out.cell 1
    have c_BX2 := BX.out.cell 2
    go_wp2_with fail
    clear c_BT0 c_BT1 c_BT2 c_BX0 c_BX1 c_BX2
    refine (rsame_good t x _ TT.out TX.out (ZT.out.trans ZX.out.symm) (UT.out.trans UX.out.symm) (DT.out.trans DX.out.symm)).mono ?_
    rintro e d14 ⟨rfl, hb⟩
    replace HB := hide (HB.out.trans (hb.mono HB.out.size))
    replace BA := hide (BA.out.below hb BA.out.lt)
    replace BB := hide (BB.out.below hb BB.out.lt)
    replace TT := hide (TT.out.below hb)
    replace ET := hide (ET.out.below hb)
    replace BT := hide (BT.out.below hb BT.out.lt)
    replace TU := hide (TU.out.below hb)
    replace EU := hide (EU.out.below hb)
    replace BU := hide (BU.out.below hb BU.out.lt)
    replace TX := hide (TX.out.below hb)
    replace BX := hide (BX.out.below hb BX.out.lt)
    replace GX := hide (GX.out.below hb GX.out.lt)
    replace TY := hide (TY.out.below hb)
    replace BY := hide (BY.out.below hb BY.out.lt)
    replace GY := hide (GY.out.below hb GY.out.lt)
    clear hb
    have c_GY0 := GY.out.cell 0
    have c_GY1 := GY.out.cell 1
    have c_GY2 := GY.out.cell 2
    go_wp2_with fail
    clear c_GY0 c_GY1 c_GY2
    refine (S2.out _ HB.out EU.out).mono ?_
    rintro e d15 ⟨rfl, hb⟩
    replace HB := hide (HB.out.trans (hb.mono HB.out.size))
    replace BA := hide (BA.out.below hb BA.out.lt)
    replace BB := hide (BB.out.below hb BB.out.lt)
    replace TT := hide (TT.out.below hb)
    replace ET := hide (ET.out.below hb)
    replace BT := hide (BT.out.below hb BT.out.lt)
    replace TU := hide (TU.out.below hb)
    replace EU := hide (EU.out.below hb)
    replace BU := hide (BU.out.below hb BU.out.lt)
    replace TX := hide (TX.out.below hb)
    replace BX := hide (BX.out.below hb BX.out.lt)
    replace GX := hide (GX.out.below hb GX.out.lt)
    replace TY := hide (TY.out.below hb)
    replace BY := hide (BY.out.below hb BY.out.lt)
    replace GY := hide (GY.out.below hb GY.out.lt)
    clear hb
    have c_BU0 := BU.out.cell 0
    have c_BU1 := BU.out.cell 1
    have c_BU2 := BU.out.cell 2
    have c_BY0 := BY.out.cell 0
    have c_BY1 := BY.out.cell 1
    have c_BY2 := BY.out.cell 2
    go_wp2_with fail
    clear c_BU0 c_BU1 c_BU2 c_BY0 c_BY1 c_BY2
    refine (rsame_good u y _ TU.out TY.out (ZU.out.trans ZY.out.symm) (UU.out.trans UY.out.symm) (DU.out.trans DY.out.symm)).mono ?_
    rintro e d16 ⟨rfl, hb⟩
    replace HB := hide (HB.out.trans (hb.mono HB.out.size))
    replace BA := hide (BA.out.below hb BA.out.lt)
    replace BB := hide (BB.out.below hb BB.out.lt)
    replace TT := hide (TT.out.below hb)
    replace ET := hide (ET.out.below hb)
    replace BT := hide (BT.out.below hb BT.out.lt)
    replace TU := hide (TU.out.below hb)
    replace EU := hide (EU.out.below hb)
    replace BU := hide (BU.out.below hb BU.out.lt)
    replace TX := hide (TX.out.below hb)
    replace BX := hide (BX.out.below hb BX.out.lt)
    replace GX := hide (GX.out.below hb GX.out.lt)
    replace TY := hide (TY.out.below hb)
    replace BY := hide (BY.out.below hb BY.out.lt)
    replace GY := hide (GY.out.below hb GY.out.lt)
    clear hb
    go_wp2_with fail
    go_ret
    exact ⟨rfl, HB.out⟩
  case neg =>
  have VX := hide (fun W (B : Option Addr) (hb : Below w.heap.size w W) (hr : Row W B ([a, b].flatMap Ten.vals)) => rapply_none ho [] [a, b] none B 0 2 W (Ri.nil _ _) (by simp) hr (fun t ht => by
    simp only [List.mem_cons, List.not_mem_nil, or_false] at ht
    rcases ht with rfl | rfl
    · exact IA.out W hb
    · exact IB.out W hb) (by simp) (fun t ht => by
    simp only [List.mem_cons, List.not_mem_nil, or_false] at ht
    rcases ht with rfl | rfl
    · exact CA.out.1
    · exact CB.out.1) (fun t ht => by
    simp only [List.mem_cons, List.not_mem_nil, or_false] at ht
    rcases ht with rfl | rfl
    · exact CA.out.2
    · exact CB.out.2))
  have VY := hide (fun W (B : Option Addr) (hb : Below w.heap.size w W) (hr : Row W B ([a].flatMap Ten.vals)) => rapply_none ho qs [a] A B qcap 1 W (HQ.out W hb) (by have := Hq.out; omega) hr (fun t ht => by rw [List.mem_singleton.1 ht]; exact IA.out W hb) (by simp) (fun t ht => by rw [List.mem_singleton.1 ht]; exact CA.out.1) (fun t ht => by rw [List.mem_singleton.1 ht]; exact CA.out.2))
  rw [hnq.out] at VY
  unfold gcells at VX VY
  clear VT VU
  have x0 : (d3.alloc (.cells #[.slice u.P u.zs.length u.cap, .bool u.u, .slice u.D u.ds.length u.dcap] 26)).cell? ⟨w.heap.size, 0, none⟩ = some (.slice a.P a.zs.length a.cap) := (BA.out.alloc _).cell 0
  have x1 : (d3.alloc (.cells #[.slice u.P u.zs.length u.cap, .bool u.u, .slice u.D u.ds.length u.dcap] 26)).cell? ⟨w.heap.size, 1, none⟩ = some (.bool a.u) := (BA.out.alloc _).cell 1
  have x2 : (d3.alloc (.cells #[.slice u.P u.zs.length u.cap, .bool u.u, .slice u.D u.ds.length u.dcap] 26)).cell? ⟨w.heap.size, 2, none⟩ = some (.slice a.D a.ds.length a.dcap) := (BA.out.alloc _).cell 2
  have x3 : (d3.alloc (.cells #[.slice u.P u.zs.length u.cap, .bool u.u, .slice u.D u.ds.length u.dcap] 26)).cell? ⟨w.heap.size + 1, 0, none⟩ = some (.slice b.P b.zs.length b.cap) := (BB.out.alloc _).cell 0
  have x4 : (d3.alloc (.cells #[.slice u.P u.zs.length u.cap, .bool u.u, .slice u.D u.ds.length u.dcap] 26)).cell? ⟨w.heap.size + 1, 1, none⟩ = some (.bool b.u) := (BB.out.alloc _).cell 1
  have x5 : (d3.alloc (.cells #[.slice u.P u.zs.length u.cap, .bool u.u, .slice u.D u.ds.length u.dcap] 26)).cell? ⟨w.heap.size + 1, 2, none⟩ = some (.slice b.D b.ds.length b.dcap) := (BB.out.alloc _).cell 2
  obtain ⟨d4, hd4⟩ : ∃ W, W = d3.alloc (.cells #[.slice u.P u.zs.length u.cap, .bool u.u, .slice u.D u.ds.length u.dcap] 26) := ⟨_, rfl⟩
  have hbA : Below d3.heap.size d3 d4 := by rw [hd4]; exact (Below.refl _ _).alloc (Nat.le_refl _) _
  have BU : Hid (Has d4 d3.heap.size 26 [.slice u.P u.zs.length u.cap, .bool u.u, .slice u.D u.ds.length u.dcap]) := hide (by rw [hd4]; exact Has.new _ _ _)
  replace HB := hide (HB.out.trans (hbA.mono HB.out.size))
  replace BA := hide (BA.out.below hbA BA.out.lt)
  replace BB := hide (BB.out.below hbA BB.out.lt)
  replace TT := hide (TT.out.below hbA)
  replace ET := hide (ET.out.below hbA)
  replace BT := hide (BT.out.below hbA BT.out.lt)
  replace TU := hide (TU.out.below hbA)
  replace EU := hide (EU.out.below hbA)
  have Hd4 := hide hd4
  clear hd4 hbA
  obtain ⟨d5, hd5⟩ : ∃ W, W = d4.alloc (.cells #[.slice a.P a.zs.length a.cap, .bool a.u, .slice a.D a.ds.length a.dcap, .slice b.P b.zs.length b.cap, .bool b.u, .slice b.D b.ds.length b.dcap] 26) := ⟨_, rfl⟩
  have hbA : Below d4.heap.size d4 d5 := by rw [hd5]; exact (Below.refl _ _).alloc (Nat.le_refl _) _
  have RAB : Hid (Has d5 (d3.heap.size + 1) 26 [.slice a.P a.zs.length a.cap, .bool a.u, .slice a.D a.ds.length a.dcap, .slice b.P b.zs.length b.cap, .bool b.u, .slice b.D b.ds.length b.dcap]) := hide (by rw [hd5]; exact box_at _ _ _ _ (by rw [Hd4.out]; simp))
  replace HB := hide (HB.out.trans (hbA.mono HB.out.size))
  replace BA := hide (BA.out.below hbA BA.out.lt)
  replace BB := hide (BB.out.below hbA BB.out.lt)
  replace TT := hide (TT.out.below hbA)
  replace ET := hide (ET.out.below hbA)
  replace BT := hide (BT.out.below hbA BT.out.lt)
  replace TU := hide (TU.out.below hbA)
  replace EU := hide (EU.out.below hbA)
  replace BU := hide (BU.out.below hbA BU.out.lt)
  have Hd5 := hide hd5
  clear hd5 hbA
  go_wp2_with fail
  rw [← Hd4.out]
  rw [← Hd5.out]
  clear Hd4 Hd5
  clear x0 x1 x2 x3 x4 x5
  refine (VX.out _ _ HB.out RAB.out.row).mono ?_
  rintro e d6 ⟨⟨x, c1, i1, p1, rfl⟩, hb⟩
  replace HB := hide (HB.out.trans (hb.mono HB.out.size))
  replace BA := hide (BA.out.below hb BA.out.lt)
  replace BB := hide (BB.out.below hb BB.out.lt)
  replace TT := hide (TT.out.below hb)
  replace ET := hide (ET.out.below hb)
  replace BT := hide (BT.out.below hb BT.out.lt)
  replace TU := hide (TU.out.below hb)
  replace EU := hide (EU.out.below hb)
  replace BU := hide (BU.out.below hb BU.out.lt)
  replace RAB := hide (RAB.out.below hb RAB.out.lt)
  clear hb
  clear RAB
  have x0 : ((d6.alloc (.cells #[.slice x.P x.zs.length x.cap, .bool x.u, .slice x.D x.ds.length x.dcap] 26)).alloc (.cells #[.int .i64 c1, .bool p1, .int .i64 i1] 35)).cell? ⟨w.heap.size, 0, none⟩ = some (.slice a.P a.zs.length a.cap) := ((BA.out.alloc _).alloc _).cell 0
  have x1 : ((d6.alloc (.cells #[.slice x.P x.zs.length x.cap, .bool x.u, .slice x.D x.ds.length x.dcap] 26)).alloc (.cells #[.int .i64 c1, .bool p1, .int .i64 i1] 35)).cell? ⟨w.heap.size, 1, none⟩ = some (.bool a.u) := ((BA.out.alloc _).alloc _).cell 1
  have x2 : ((d6.alloc (.cells #[.slice x.P x.zs.length x.cap, .bool x.u, .slice x.D x.ds.length x.dcap] 26)).alloc (.cells #[.int .i64 c1, .bool p1, .int .i64 i1] 35)).cell? ⟨w.heap.size, 2, none⟩ = some (.slice a.D a.ds.length a.dcap) := ((BA.out.alloc _).alloc _).cell 2
  obtain ⟨d7, hd7⟩ : ∃ W, W = d6.alloc (.cells #[.slice x.P x.zs.length x.cap, .bool x.u, .slice x.D x.ds.length x.dcap] 26) := ⟨_, rfl⟩
  have hbA : Below d6.heap.size d6 d7 := by rw [hd7]; exact (Below.refl _ _).alloc (Nat.le_refl _) _
  have BX : Hid (Has d7 d6.heap.size 26 [.slice x.P x.zs.length x.cap, .bool x.u, .slice x.D x.ds.length x.dcap]) := hide (by rw [hd7]; exact Has.new _ _ _)
  replace HB := hide (HB.out.trans (hbA.mono HB.out.size))
  replace BA := hide (BA.out.below hbA BA.out.lt)
  replace BB := hide (BB.out.below hbA BB.out.lt)
  replace TT := hide (TT.out.below hbA)
  replace ET := hide (ET.out.below hbA)
  replace BT := hide (BT.out.below hbA BT.out.lt)
  replace TU := hide (TU.out.below hbA)
  replace EU := hide (EU.out.below hbA)
  replace BU := hide (BU.out.below hbA BU.out.lt)
  have Hd7 := hide hd7
  clear hd7 hbA
  obtain ⟨d8, hd8⟩ : ∃ W, W = d7.alloc (.cells #[.int .i64 c1, .bool p1, .int .i64 i1] 35) := ⟨_, rfl⟩
  have hbA : Below d7.heap.size d7 d8 := by rw [hd8]; exact (Below.refl _ _).alloc (Nat.le_refl _) _
  have GX : Hid (Has d8 (d6.heap.size + 1) 35 [.int .i64 c1, .bool p1, .int .i64 i1]) := hide (by rw [hd8]; exact box_at _ _ _ _ (by rw [Hd7.out]; simp))
  replace HB := hide (HB.out.trans (hbA.mono HB.out.size))
  replace BA := hide (BA.out.below hbA BA.out.lt)
  replace BB := hide (BB.out.below hbA BB.out.lt)
  replace TT := hide (TT.out.below hbA)
  replace ET := hide (ET.out.below hbA)
  replace BT := hide (BT.out.below hbA BT.out.lt)
  replace TU := hide (TU.out.below hbA)
  replace EU := hide (EU.out.below hbA)
  replace BU := hide (BU.out.below hbA BU.out.lt)
  replace BX := hide (BX.out.below hbA BX.out.lt)
  have Hd8 := hide hd8
  clear hd8 hbA
  obtain ⟨d9, hd9⟩ : ∃ W, W = d8.alloc (.cells #[.slice a.P a.zs.length a.cap, .bool a.u, .slice a.D a.ds.length a.dcap] 26) := ⟨_, rfl⟩
  have hbA : Below d8.heap.size d8 d9 := by rw [hd9]; exact (Below.refl _ _).alloc (Nat.le_refl _) _
  have RA1 : Hid (Has d9 (d6.heap.size + 2) 26 [.slice a.P a.zs.length a.cap, .bool a.u, .slice a.D a.ds.length a.dcap]) := hide (by rw [hd9]; exact box_at _ _ _ _ (by rw [Hd8.out, Hd7.out]; simp))
  replace HB := hide (HB.out.trans (hbA.mono HB.out.size))
  replace BA := hide (BA.out.below hbA BA.out.lt)
  replace BB := hide (BB.out.below hbA BB.out.lt)
  replace TT := hide (TT.out.below hbA)
  replace ET := hide (ET.out.below hbA)
  replace BT := hide (BT.out.below hbA BT.out.lt)
  replace TU := hide (TU.out.below hbA)
  replace EU := hide (EU.out.below hbA)
  replace BU := hide (BU.out.below hbA BU.out.lt)
  replace BX := hide (BX.out.below hbA BX.out.lt)
  replace GX := hide (GX.out.below hbA GX.out.lt)
  have Hd9 := hide hd9
  clear hd9 hbA
  go_wp2_with fail
  rw [← Hd7.out]
  rw [← Hd8.out]
  rw [← Hd9.out]
  clear Hd7 Hd8 Hd9
  clear x0 x1 x2
  refine (VY.out _ _ HB.out RA1.out.row).mono ?_
  rintro e d10 ⟨⟨y, c2, i2, p2, rfl⟩, hb⟩
  replace HB := hide (HB.out.trans (hb.mono HB.out.size))
  replace BA := hide (BA.out.below hb BA.out.lt)
  replace BB := hide (BB.out.below hb BB.out.lt)
  replace TT := hide (TT.out.below hb)
  replace ET := hide (ET.out.below hb)
  replace BT := hide (BT.out.below hb BT.out.lt)
  replace TU := hide (TU.out.below hb)
  replace EU := hide (EU.out.below hb)
  replace BU := hide (BU.out.below hb BU.out.lt)
  replace BX := hide (BX.out.below hb BX.out.lt)
  replace GX := hide (GX.out.below hb GX.out.lt)
  replace RA1 := hide (RA1.out.below hb RA1.out.lt)
  clear hb
  clear RA1
  have HU := hide ho
  have VA := hide (fun W (hb : Below w.heap.size w W) => rvalid_c a.zs a.ds a.P a.D a.cap a.dcap a.u W (IA.out W hb).shp (IA.out W hb).dat (IA.out W hb).ls (IA.out W hb).ld)
  have VB := hide (fun W (hb : Below w.heap.size w W) => rvalid_c b.zs b.ds b.P b.D b.cap b.dcap b.u W (IB.out W hb).shp (IB.out W hb).dat (IB.out W hb).ls (IB.out W hb).ld)
  have fca := tfault_cases a.zs a.u a.ds
  have fcb := tfault_cases b.zs b.u b.ds
  obtain ⟨p3, i3, hv3⟩ := fval_is (Tens.fault a.zs a.u a.ds)
  obtain ⟨p4, i4, hv4⟩ := fval_is (Tens.fault b.zs b.u b.ds)
  have K1 : Hid (Elm.fault op [] [a, b] = if a.fault = (0, none) then (if b.fault = (0, none) then (103, none) else b.fault) else a.fault) := hide (Elm.fault_out HU.out [] a b)
  have K2 : Hid (Elm.fault op qs [a] = if a.fault = (0, none) then (103, none) else a.fault) := hide (Elm.fault_out1 HU.out qs a)
  have S3 := hide (fun v W hb h => SAME.out v (Tens.fault a.zs a.u a.ds) (by rcases fca with h | h | h | h | h <;> simp [h]) W hb h)
  have S4 := hide (fun v W hb h => SAME.out v (Tens.fault b.zs b.u b.ds) (by rcases fcb with h | h | h | h | h <;> simp [h]) W hb h)
  rw [hv3] at VA S3
  rw [hv4] at VB S4
  unfold gcells at VA VB S3 S4
  obtain ⟨c3, hc3⟩ : ∃ c, Hid ((Tens.fault a.zs a.u a.ds).1 = c) := ⟨_, hide rfl⟩
  obtain ⟨c4, hc4⟩ : ∃ c, Hid ((Tens.fault b.zs b.u b.ds).1 = c) := ⟨_, hide rfl⟩
  rw [hc3.out] at VA S3
  rw [hc4.out] at VB S4
  clear hv3 hv4 SAME fca fcb VX VY
  have hr : op < 4 ∨ 11 < op := by omega
  clear ho
  have x0 : ((d10.alloc (.cells #[.slice y.P y.zs.length y.cap, .bool y.u, .slice y.D y.ds.length y.dcap] 26)).alloc (.cells #[.int .i64 c2, .bool p2, .int .i64 i2] 35)).cell? ⟨w.heap.size, 0, none⟩ = some (.slice a.P a.zs.length a.cap) := ((BA.out.alloc _).alloc _).cell 0
  have x1 : ((d10.alloc (.cells #[.slice y.P y.zs.length y.cap, .bool y.u, .slice y.D y.ds.length y.dcap] 26)).alloc (.cells #[.int .i64 c2, .bool p2, .int .i64 i2] 35)).cell? ⟨w.heap.size, 1, none⟩ = some (.bool a.u) := ((BA.out.alloc _).alloc _).cell 1
  have x2 : ((d10.alloc (.cells #[.slice y.P y.zs.length y.cap, .bool y.u, .slice y.D y.ds.length y.dcap] 26)).alloc (.cells #[.int .i64 c2, .bool p2, .int .i64 i2] 35)).cell? ⟨w.heap.size, 2, none⟩ = some (.slice a.D a.ds.length a.dcap) := ((BA.out.alloc _).alloc _).cell 2
  rcases hr with hr | hr
  · obtain ⟨d11, hd11⟩ : ∃ W, W = d10.alloc (.cells #[.slice y.P y.zs.length y.cap, .bool y.u, .slice y.D y.ds.length y.dcap] 26) := ⟨_, rfl⟩
    have hbA : Below d10.heap.size d10 d11 := by rw [hd11]; exact (Below.refl _ _).alloc (Nat.le_refl _) _
    have BY : Hid (Has d11 d10.heap.size 26 [.slice y.P y.zs.length y.cap, .bool y.u, .slice y.D y.ds.length y.dcap]) := hide (by rw [hd11]; exact Has.new _ _ _)
    replace HB := hide (HB.out.trans (hbA.mono HB.out.size))
    replace BA := hide (BA.out.below hbA BA.out.lt)
    replace BB := hide (BB.out.below hbA BB.out.lt)
    replace TT := hide (TT.out.below hbA)
    replace ET := hide (ET.out.below hbA)
    replace BT := hide (BT.out.below hbA BT.out.lt)
    replace TU := hide (TU.out.below hbA)
    replace EU := hide (EU.out.below hbA)
    replace BU := hide (BU.out.below hbA BU.out.lt)
    replace BX := hide (BX.out.below hbA BX.out.lt)
    replace GX := hide (GX.out.below hbA GX.out.lt)
    have Hd11 := hide hd11
    clear hd11 hbA
    obtain ⟨d12, hd12⟩ : ∃ W, W = d11.alloc (.cells #[.int .i64 c2, .bool p2, .int .i64 i2] 35) := ⟨_, rfl⟩
    have hbA : Below d11.heap.size d11 d12 := by rw [hd12]; exact (Below.refl _ _).alloc (Nat.le_refl _) _
    have GY : Hid (Has d12 (d10.heap.size + 1) 35 [.int .i64 c2, .bool p2, .int .i64 i2]) := hide (by rw [hd12]; exact box_at _ _ _ _ (by rw [Hd11.out]; simp))
    replace HB := hide (HB.out.trans (hbA.mono HB.out.size))
    replace BA := hide (BA.out.below hbA BA.out.lt)
    replace BB := hide (BB.out.below hbA BB.out.lt)
    replace TT := hide (TT.out.below hbA)
    replace ET := hide (ET.out.below hbA)
    replace BT := hide (BT.out.below hbA BT.out.lt)
    replace TU := hide (TU.out.below hbA)
    replace EU := hide (EU.out.below hbA)
    replace BU := hide (BU.out.below hbA BU.out.lt)
    replace BX := hide (BX.out.below hbA BX.out.lt)
    replace GX := hide (GX.out.below hbA GX.out.lt)
    replace BY := hide (BY.out.below hbA BY.out.lt)
    have Hd12 := hide hd12
    clear hd12 hbA
    go_wp2_with fail
    rw [← Hd11.out]
    rw [← Hd12.out]
    clear Hd11 Hd12
    clear x0 x1 x2 hr
    refine (VA.out _ HB.out).mono ?_
    rintro e d13 ⟨rfl, hb⟩
    replace HB := hide (HB.out.trans (hb.mono HB.out.size))
    replace BA := hide (BA.out.below hb BA.out.lt)
    replace BB := hide (BB.out.below hb BB.out.lt)
    replace TT := hide (TT.out.below hb)
    replace ET := hide (ET.out.below hb)
    replace BT := hide (BT.out.below hb BT.out.lt)
    replace TU := hide (TU.out.below hb)
    replace EU := hide (EU.out.below hb)
    replace BU := hide (BU.out.below hb BU.out.lt)
    replace BX := hide (BX.out.below hb BX.out.lt)
    replace GX := hide (GX.out.below hb GX.out.lt)
    replace BY := hide (BY.out.below hb BY.out.lt)
    replace GY := hide (GY.out.below hb GY.out.lt)
    clear hb
    have c_BB0 := BB.out.cell 0
    have c_BB1 := BB.out.cell 1
    have c_BB2 := BB.out.cell 2
    have l_BB := BB.out.lt
    obtain ⟨d14, hd14⟩ : ∃ W, W = d13.alloc (.cells #[.int .i64 c3, .bool p3, .int .i64 i3] 35) := ⟨_, rfl⟩
    have hbA : Below d13.heap.size d13 d14 := by rw [hd14]; exact (Below.refl _ _).alloc (Nat.le_refl _) _
    have G3 : Hid (Has d14 d13.heap.size 35 [.int .i64 c3, .bool p3, .int .i64 i3]) := hide (by rw [hd14]; exact Has.new _ _ _)
    replace HB := hide (HB.out.trans (hbA.mono HB.out.size))
    replace BA := hide (BA.out.below hbA BA.out.lt)
    replace BB := hide (BB.out.below hbA BB.out.lt)
    replace TT := hide (TT.out.below hbA)
    replace ET := hide (ET.out.below hbA)
    replace BT := hide (BT.out.below hbA BT.out.lt)
    replace TU := hide (TU.out.below hbA)
    replace EU := hide (EU.out.below hbA)
    replace BU := hide (BU.out.below hbA BU.out.lt)
    replace BX := hide (BX.out.below hbA BX.out.lt)
    replace GX := hide (GX.out.below hbA GX.out.lt)
    replace BY := hide (BY.out.below hbA BY.out.lt)
    replace GY := hide (GY.out.below hbA GY.out.lt)
    have Hd14 := hide hd14
    clear hd14 hbA
    go_wp2_with fail
    rw [← Hd14.out]
    clear Hd14 c_BB0 c_BB1 c_BB2 l_BB
    refine (VB.out _ HB.out).mono ?_
    rintro e d15 ⟨rfl, hb⟩
    replace HB := hide (HB.out.trans (hb.mono HB.out.size))
    replace BA := hide (BA.out.below hb BA.out.lt)
    replace BB := hide (BB.out.below hb BB.out.lt)
    replace TT := hide (TT.out.below hb)
    replace ET := hide (ET.out.below hb)
    replace BT := hide (BT.out.below hb BT.out.lt)
    replace TU := hide (TU.out.below hb)
    replace EU := hide (EU.out.below hb)
    replace BU := hide (BU.out.below hb BU.out.lt)
    replace BX := hide (BX.out.below hb BX.out.lt)
    replace GX := hide (GX.out.below hb GX.out.lt)
    replace BY := hide (BY.out.below hb BY.out.lt)
    replace GY := hide (GY.out.below hb GY.out.lt)
    replace G3 := hide (G3.out.below hb G3.out.lt)
    clear hb
    by_cases h3 : c3 = 0
    case neg =>
      have h3b : ((c3 : Int) != 0) = true := by simp; omega
      have HA : Hid (a.fault ≠ (0, none)) := hide (by intro h; have h2 := hc3.out; rw [show Tens.fault a.zs a.u a.ds = (0, none) from h] at h2; exact h3 h2.symm)
      rw [if_neg HA.out] at K1 K2
      rw [K1.out] at ET
      rw [K2.out] at EU
      clear h3
      have c_G30 := G3.out.cell 0
      have l_G3 := G3.out.lt
      have c_G31 := G3.out.cell 1
      have c_G32 := G3.out.cell 2
      obtain ⟨d16, hd16⟩ : ∃ W, W = d15.alloc (.cells #[.int .i64 c4, .bool p4, .int .i64 i4] 35) := ⟨_, rfl⟩
      have hbA : Below d15.heap.size d15 d16 := by rw [hd16]; exact (Below.refl _ _).alloc (Nat.le_refl _) _
      have G4 : Hid (Has d16 d15.heap.size 35 [.int .i64 c4, .bool p4, .int .i64 i4]) := hide (by rw [hd16]; exact Has.new _ _ _)
      replace HB := hide (HB.out.trans (hbA.mono HB.out.size))
      replace BA := hide (BA.out.below hbA BA.out.lt)
      replace BB := hide (BB.out.below hbA BB.out.lt)
      replace TT := hide (TT.out.below hbA)
      replace ET := hide (ET.out.below hbA)
      replace BT := hide (BT.out.below hbA BT.out.lt)
      replace TU := hide (TU.out.below hbA)
      replace EU := hide (EU.out.below hbA)
      replace BU := hide (BU.out.below hbA BU.out.lt)
      replace BX := hide (BX.out.below hbA BX.out.lt)
      replace GX := hide (GX.out.below hbA GX.out.lt)
      replace BY := hide (BY.out.below hbA BY.out.lt)
      replace GY := hide (GY.out.below hbA GY.out.lt)
      replace G3 := hide (G3.out.below hbA G3.out.lt)
      have Hd16 := hide hd16
      clear hd16 hbA
      go_wp2_with fail
      rw [← Hd16.out]
      clear Hd16 c_G30 l_G3 c_G31 c_G32
      refine (S3.out e1 _ HB.out ET.out).mono ?_
      rintro e d17 ⟨rfl, hb⟩
      replace HB := hide (HB.out.trans (hb.mono HB.out.size))
      replace BA := hide (BA.out.below hb BA.out.lt)
      replace BB := hide (BB.out.below hb BB.out.lt)
      replace TT := hide (TT.out.below hb)
      replace ET := hide (ET.out.below hb)
      replace BT := hide (BT.out.below hb BT.out.lt)
      replace TU := hide (TU.out.below hb)
      replace EU := hide (EU.out.below hb)
      replace BU := hide (BU.out.below hb BU.out.lt)
      replace BX := hide (BX.out.below hb BX.out.lt)
      replace GX := hide (GX.out.below hb GX.out.lt)
      replace BY := hide (BY.out.below hb BY.out.lt)
      replace GY := hide (GY.out.below hb GY.out.lt)
      replace G3 := hide (G3.out.below hb G3.out.lt)
      replace G4 := hide (G4.out.below hb G4.out.lt)
      clear hb
      have c_G30 := G3.out.cell 0
      have c_G31 := G3.out.cell 1
      have c_G32 := G3.out.cell 2
      go_wp2_with fail
      clear c_G30 c_G31 c_G32
      refine (S3.out e2 _ HB.out EU.out).mono ?_
      rintro e d18 ⟨rfl, hb⟩
      replace HB := hide (HB.out.trans (hb.mono HB.out.size))
      replace BA := hide (BA.out.below hb BA.out.lt)
      replace BB := hide (BB.out.below hb BB.out.lt)
      replace TT := hide (TT.out.below hb)
      replace ET := hide (ET.out.below hb)
      replace BT := hide (BT.out.below hb BT.out.lt)
      replace TU := hide (TU.out.below hb)
      replace EU := hide (EU.out.below hb)
      replace BU := hide (BU.out.below hb BU.out.lt)
      replace BX := hide (BX.out.below hb BX.out.lt)
      replace GX := hide (GX.out.below hb GX.out.lt)
      replace BY := hide (BY.out.below hb BY.out.lt)
      replace GY := hide (GY.out.below hb GY.out.lt)
      replace G3 := hide (G3.out.below hb G3.out.lt)
      replace G4 := hide (G4.out.below hb G4.out.lt)
      clear hb
      go_wp2_with fail
      go_ret
      exact ⟨rfl, HB.out⟩
    case pos =>
    have h3b : ((c3 : Int) != 0) = false := by simp; omega
    have HA : Hid (a.fault = (0, none)) := hide (Ten.fault_nil (show (Tens.fault a.zs a.u a.ds).1 = 0 by rw [hc3.out]; exact h3))
    rw [if_pos HA.out] at K1 K2
    rw [K2.out] at EU
    obtain rfl : e2 = errv ak := by
      have h := EU.out
      unfold Elm.Err at h
      rwa [if_pos rfl] at h
    have HDU : Hid (u.ds.length = 0) := hide (by rw [DU.out]; unfold Elm.ods; rw [if_neg (by rw [K2.out]; simp)]; rfl)
    have HDT : Hid (t.ds.length = 0) := hide (by
      rw [DT.out]
      unfold Elm.ods
      rw [if_neg]
      · rfl
      · rw [K1.out]
        split
        · simp
        · assumption)
    rw [HDU.out] at BU
    rw [HDT.out] at BT
    clear h3
    clear EU
    have c_G30 := G3.out.cell 0
    have l_G3 := G3.out.lt
    obtain ⟨d16, hd16⟩ : ∃ W, W = d15.alloc (.cells #[.int .i64 c4, .bool p4, .int .i64 i4] 35) := ⟨_, rfl⟩
    have hbA : Below d15.heap.size d15 d16 := by rw [hd16]; exact (Below.refl _ _).alloc (Nat.le_refl _) _
    have G4 : Hid (Has d16 d15.heap.size 35 [.int .i64 c4, .bool p4, .int .i64 i4]) := hide (by rw [hd16]; exact Has.new _ _ _)
    replace HB := hide (HB.out.trans (hbA.mono HB.out.size))
    replace BA := hide (BA.out.below hbA BA.out.lt)
    replace BB := hide (BB.out.below hbA BB.out.lt)
    replace TT := hide (TT.out.below hbA)
    replace ET := hide (ET.out.below hbA)
    replace BT := hide (BT.out.below hbA BT.out.lt)
    replace TU := hide (TU.out.below hbA)
    replace BU := hide (BU.out.below hbA BU.out.lt)
    replace BX := hide (BX.out.below hbA BX.out.lt)
    replace GX := hide (GX.out.below hbA GX.out.lt)
    replace BY := hide (BY.out.below hbA BY.out.lt)
    replace GY := hide (GY.out.below hbA GY.out.lt)
    replace G3 := hide (G3.out.below hbA G3.out.lt)
    have Hd16 := hide hd16
    clear hd16 hbA
    go_wp2_with fail
    rw [← Hd16.out]
    clear Hd16 c_G30 l_G3
    refine (ISK.out _ HB.out).mono ?_
    rintro e d17 ⟨rfl, hb⟩
    replace HB := hide (HB.out.trans (hb.mono HB.out.size))
    replace BA := hide (BA.out.below hb BA.out.lt)
    replace BB := hide (BB.out.below hb BB.out.lt)
    replace TT := hide (TT.out.below hb)
    replace ET := hide (ET.out.below hb)
    replace BT := hide (BT.out.below hb BT.out.lt)
    replace TU := hide (TU.out.below hb)
    replace BU := hide (BU.out.below hb BU.out.lt)
    replace BX := hide (BX.out.below hb BX.out.lt)
    replace GX := hide (GX.out.below hb GX.out.lt)
    replace BY := hide (BY.out.below hb BY.out.lt)
    replace GY := hide (GY.out.below hb GY.out.lt)
    replace G3 := hide (G3.out.below hb G3.out.lt)
    replace G4 := hide (G4.out.below hb G4.out.lt)
    clear hb
    have c_BU2 := BU.out.cell 2
    have c_BT2 := BT.out.cell 2
    have c_G40 := G4.out.cell 0
    have c_G41 := G4.out.cell 1
    have c_G42 := G4.out.cell 2
    by_cases h4 : c4 = 0
    case neg =>
      have h4b : ((c4 : Int) != 0) = true := by simp; omega
      have HBF : Hid (b.fault ≠ (0, none)) := hide (by intro h; have h2 := hc4.out; rw [show Tens.fault b.zs b.u b.ds = (0, none) from h] at h2; exact h4 h2.symm)
      rw [if_neg HBF.out] at K1
      rw [K1.out] at ET
      clear h4
      go_wp2_with fail
      refine (S4.out e1 _ HB.out ET.out).mono ?_
      rintro e d18 ⟨rfl, hb⟩
      replace HB := hide (HB.out.trans (hb.mono HB.out.size))
      clear hb c_BU2 c_BT2 c_G40 c_G41 c_G42
      go_wp2_with fail
      go_ret
      exact ⟨rfl, HB.out⟩
    case pos =>
      have h4b : ((c4 : Int) != 0) = false := by simp; omega
      have HBF : Hid (b.fault = (0, none)) := hide (Ten.fault_nil (show (Tens.fault b.zs b.u b.ds).1 = 0 by rw [hc4.out]; exact h4))
      rw [if_pos HBF.out] at K1
      rw [K1.out] at ET
      obtain rfl : e1 = errv ak := by
        have h := ET.out
        unfold Elm.Err at h
        rwa [if_pos rfl] at h
      clear h4
      go_wp2_with fail
      refine (ISK.out _ HB.out).mono ?_
      rintro e d18 ⟨rfl, hb⟩
      replace HB := hide (HB.out.trans (hb.mono HB.out.size))
      clear hb c_BU2 c_BT2 c_G40 c_G41 c_G42
      go_wp2_with fail
      go_ret
      exact ⟨rfl, HB.out⟩
  · obtain ⟨d11, hd11⟩ : ∃ W, W = d10.alloc (.cells #[.slice y.P y.zs.length y.cap, .bool y.u, .slice y.D y.ds.length y.dcap] 26) := ⟨_, rfl⟩
    have hbA : Below d10.heap.size d10 d11 := by rw [hd11]; exact (Below.refl _ _).alloc (Nat.le_refl _) _
    have BY : Hid (Has d11 d10.heap.size 26 [.slice y.P y.zs.length y.cap, .bool y.u, .slice y.D y.ds.length y.dcap]) := hide (by rw [hd11]; exact Has.new _ _ _)
    replace HB := hide (HB.out.trans (hbA.mono HB.out.size))
    replace BA := hide (BA.out.below hbA BA.out.lt)
    replace BB := hide (BB.out.below hbA BB.out.lt)
    replace TT := hide (TT.out.below hbA)
    replace ET := hide (ET.out.below hbA)
    replace BT := hide (BT.out.below hbA BT.out.lt)
    replace TU := hide (TU.out.below hbA)
    replace EU := hide (EU.out.below hbA)
    replace BU := hide (BU.out.below hbA BU.out.lt)
    replace BX := hide (BX.out.below hbA BX.out.lt)
    replace GX := hide (GX.out.below hbA GX.out.lt)
    have Hd11 := hide hd11
    clear hd11 hbA
    obtain ⟨d12, hd12⟩ : ∃ W, W = d11.alloc (.cells #[.int .i64 c2, .bool p2, .int .i64 i2] 35) := ⟨_, rfl⟩
    have hbA : Below d11.heap.size d11 d12 := by rw [hd12]; exact (Below.refl _ _).alloc (Nat.le_refl _) _
    have GY : Hid (Has d12 (d10.heap.size + 1) 35 [.int .i64 c2, .bool p2, .int .i64 i2]) := hide (by rw [hd12]; exact box_at _ _ _ _ (by rw [Hd11.out]; simp))
    replace HB := hide (HB.out.trans (hbA.mono HB.out.size))
    replace BA := hide (BA.out.below hbA BA.out.lt)
    replace BB := hide (BB.out.below hbA BB.out.lt)
    replace TT := hide (TT.out.below hbA)
    replace ET := hide (ET.out.below hbA)
    replace BT := hide (BT.out.below hbA BT.out.lt)
    replace TU := hide (TU.out.below hbA)
    replace EU := hide (EU.out.below hbA)
    replace BU := hide (BU.out.below hbA BU.out.lt)
    replace BX := hide (BX.out.below hbA BX.out.lt)
    replace GX := hide (GX.out.below hbA GX.out.lt)
    replace BY := hide (BY.out.below hbA BY.out.lt)
    have Hd12 := hide hd12
    clear hd12 hbA
    go_wp2_with fail
    rw [← Hd11.out]
    rw [← Hd12.out]
    clear Hd11 Hd12
    clear x0 x1 x2 hr
    refine (VA.out _ HB.out).mono ?_
    rintro e d13 ⟨rfl, hb⟩
    replace HB := hide (HB.out.trans (hb.mono HB.out.size))
    replace BA := hide (BA.out.below hb BA.out.lt)
    replace BB := hide (BB.out.below hb BB.out.lt)
    replace TT := hide (TT.out.below hb)
    replace ET := hide (ET.out.below hb)
    replace BT := hide (BT.out.below hb BT.out.lt)
    replace TU := hide (TU.out.below hb)
    replace EU := hide (EU.out.below hb)
    replace BU := hide (BU.out.below hb BU.out.lt)
    replace BX := hide (BX.out.below hb BX.out.lt)
    replace GX := hide (GX.out.below hb GX.out.lt)
    replace BY := hide (BY.out.below hb BY.out.lt)
    replace GY := hide (GY.out.below hb GY.out.lt)
    clear hb
    have c_BB0 := BB.out.cell 0
    have c_BB1 := BB.out.cell 1
    have c_BB2 := BB.out.cell 2
    have l_BB := BB.out.lt
    obtain ⟨d14, hd14⟩ : ∃ W, W = d13.alloc (.cells #[.int .i64 c3, .bool p3, .int .i64 i3] 35) := ⟨_, rfl⟩
    have hbA : Below d13.heap.size d13 d14 := by rw [hd14]; exact (Below.refl _ _).alloc (Nat.le_refl _) _
    have G3 : Hid (Has d14 d13.heap.size 35 [.int .i64 c3, .bool p3, .int .i64 i3]) := hide (by rw [hd14]; exact Has.new _ _ _)
    replace HB := hide (HB.out.trans (hbA.mono HB.out.size))
    replace BA := hide (BA.out.below hbA BA.out.lt)
    replace BB := hide (BB.out.below hbA BB.out.lt)
    replace TT := hide (TT.out.below hbA)
    replace ET := hide (ET.out.below hbA)
    replace BT := hide (BT.out.below hbA BT.out.lt)
    replace TU := hide (TU.out.below hbA)
    replace EU := hide (EU.out.below hbA)
    replace BU := hide (BU.out.below hbA BU.out.lt)
    replace BX := hide (BX.out.below hbA BX.out.lt)
    replace GX := hide (GX.out.below hbA GX.out.lt)
    replace BY := hide (BY.out.below hbA BY.out.lt)
    replace GY := hide (GY.out.below hbA GY.out.lt)
    have Hd14 := hide hd14
    clear hd14 hbA
    go_wp2_with fail
    rw [← Hd14.out]
    clear Hd14 c_BB0 c_BB1 c_BB2 l_BB
    refine (VB.out _ HB.out).mono ?_
    rintro e d15 ⟨rfl, hb⟩
    replace HB := hide (HB.out.trans (hb.mono HB.out.size))
    replace BA := hide (BA.out.below hb BA.out.lt)
    replace BB := hide (BB.out.below hb BB.out.lt)
    replace TT := hide (TT.out.below hb)
    replace ET := hide (ET.out.below hb)
    replace BT := hide (BT.out.below hb BT.out.lt)
    replace TU := hide (TU.out.below hb)
    replace EU := hide (EU.out.below hb)
    replace BU := hide (BU.out.below hb BU.out.lt)
    replace BX := hide (BX.out.below hb BX.out.lt)
    replace GX := hide (GX.out.below hb GX.out.lt)
    replace BY := hide (BY.out.below hb BY.out.lt)
    replace GY := hide (GY.out.below hb GY.out.lt)
    replace G3 := hide (G3.out.below hb G3.out.lt)
    clear hb
    by_cases h3 : c3 = 0
    case neg =>
      have h3b : ((c3 : Int) != 0) = true := by simp; omega
      have HA : Hid (a.fault ≠ (0, none)) := hide (by intro h; have h2 := hc3.out; rw [show Tens.fault a.zs a.u a.ds = (0, none) from h] at h2; exact h3 h2.symm)
      rw [if_neg HA.out] at K1 K2
      rw [K1.out] at ET
      rw [K2.out] at EU
      clear h3
      have c_G30 := G3.out.cell 0
      have l_G3 := G3.out.lt
      have c_G31 := G3.out.cell 1
      have c_G32 := G3.out.cell 2
      obtain ⟨d16, hd16⟩ : ∃ W, W = d15.alloc (.cells #[.int .i64 c4, .bool p4, .int .i64 i4] 35) := ⟨_, rfl⟩
      have hbA : Below d15.heap.size d15 d16 := by rw [hd16]; exact (Below.refl _ _).alloc (Nat.le_refl _) _
      have G4 : Hid (Has d16 d15.heap.size 35 [.int .i64 c4, .bool p4, .int .i64 i4]) := hide (by rw [hd16]; exact Has.new _ _ _)
      replace HB := hide (HB.out.trans (hbA.mono HB.out.size))
      replace BA := hide (BA.out.below hbA BA.out.lt)
      replace BB := hide (BB.out.below hbA BB.out.lt)
      replace TT := hide (TT.out.below hbA)
      replace ET := hide (ET.out.below hbA)
      replace BT := hide (BT.out.below hbA BT.out.lt)
      replace TU := hide (TU.out.below hbA)
      replace EU := hide (EU.out.below hbA)
      replace BU := hide (BU.out.below hbA BU.out.lt)
      replace BX := hide (BX.out.below hbA BX.out.lt)
      replace GX := hide (GX.out.below hbA GX.out.lt)
      replace BY := hide (BY.out.below hbA BY.out.lt)
      replace GY := hide (GY.out.below hbA GY.out.lt)
      replace G3 := hide (G3.out.below hbA G3.out.lt)
      have Hd16 := hide hd16
      clear hd16 hbA
      go_wp2_with fail
      rw [← Hd16.out]
      clear Hd16 c_G30 l_G3 c_G31 c_G32
      refine (S3.out e1 _ HB.out ET.out).mono ?_
      rintro e d17 ⟨rfl, hb⟩
      replace HB := hide (HB.out.trans (hb.mono HB.out.size))
      replace BA := hide (BA.out.below hb BA.out.lt)
      replace BB := hide (BB.out.below hb BB.out.lt)
      replace TT := hide (TT.out.below hb)
      replace ET := hide (ET.out.below hb)
      replace BT := hide (BT.out.below hb BT.out.lt)
      replace TU := hide (TU.out.below hb)
      replace EU := hide (EU.out.below hb)
      replace BU := hide (BU.out.below hb BU.out.lt)
      replace BX := hide (BX.out.below hb BX.out.lt)
      replace GX := hide (GX.out.below hb GX.out.lt)
      replace BY := hide (BY.out.below hb BY.out.lt)
      replace GY := hide (GY.out.below hb GY.out.lt)
      replace G3 := hide (G3.out.below hb G3.out.lt)
      replace G4 := hide (G4.out.below hb G4.out.lt)
      clear hb
      have c_G30 := G3.out.cell 0
      have c_G31 := G3.out.cell 1
      have c_G32 := G3.out.cell 2
      go_wp2_with fail
      clear c_G30 c_G31 c_G32
      refine (S3.out e2 _ HB.out EU.out).mono ?_
      rintro e d18 ⟨rfl, hb⟩
      replace HB := hide (HB.out.trans (hb.mono HB.out.size))
      replace BA := hide (BA.out.below hb BA.out.lt)
      replace BB := hide (BB.out.below hb BB.out.lt)
      replace TT := hide (TT.out.below hb)
      replace ET := hide (ET.out.below hb)
      replace BT := hide (BT.out.below hb BT.out.lt)
      replace TU := hide (TU.out.below hb)
      replace EU := hide (EU.out.below hb)
      replace BU := hide (BU.out.below hb BU.out.lt)
      replace BX := hide (BX.out.below hb BX.out.lt)
      replace GX := hide (GX.out.below hb GX.out.lt)
      replace BY := hide (BY.out.below hb BY.out.lt)
      replace GY := hide (GY.out.below hb GY.out.lt)
      replace G3 := hide (G3.out.below hb G3.out.lt)
      replace G4 := hide (G4.out.below hb G4.out.lt)
      clear hb
      go_wp2_with fail
      go_ret
      exact ⟨rfl, HB.out⟩
    case pos =>
    have h3b : ((c3 : Int) != 0) = false := by simp; omega
    have HA : Hid (a.fault = (0, none)) := hide (Ten.fault_nil (show (Tens.fault a.zs a.u a.ds).1 = 0 by rw [hc3.out]; exact h3))
    rw [if_pos HA.out] at K1 K2
    rw [K2.out] at EU
    obtain rfl : e2 = errv ak := by
      have h := EU.out
      unfold Elm.Err at h
      rwa [if_pos rfl] at h
    have HDU : Hid (u.ds.length = 0) := hide (by rw [DU.out]; unfold Elm.ods; rw [if_neg (by rw [K2.out]; simp)]; rfl)
    have HDT : Hid (t.ds.length = 0) := hide (by
      rw [DT.out]
      unfold Elm.ods
      rw [if_neg]
      · rfl
      · rw [K1.out]
        split
        · simp
        · assumption)
    rw [HDU.out] at BU
    rw [HDT.out] at BT
    clear h3
    clear EU
    have c_G30 := G3.out.cell 0
    have l_G3 := G3.out.lt
    obtain ⟨d16, hd16⟩ : ∃ W, W = d15.alloc (.cells #[.int .i64 c4, .bool p4, .int .i64 i4] 35) := ⟨_, rfl⟩
    have hbA : Below d15.heap.size d15 d16 := by rw [hd16]; exact (Below.refl _ _).alloc (Nat.le_refl _) _
    have G4 : Hid (Has d16 d15.heap.size 35 [.int .i64 c4, .bool p4, .int .i64 i4]) := hide (by rw [hd16]; exact Has.new _ _ _)
    replace HB := hide (HB.out.trans (hbA.mono HB.out.size))
    replace BA := hide (BA.out.below hbA BA.out.lt)
    replace BB := hide (BB.out.below hbA BB.out.lt)
    replace TT := hide (TT.out.below hbA)
    replace ET := hide (ET.out.below hbA)
    replace BT := hide (BT.out.below hbA BT.out.lt)
    replace TU := hide (TU.out.below hbA)
    replace BU := hide (BU.out.below hbA BU.out.lt)
    replace BX := hide (BX.out.below hbA BX.out.lt)
    replace GX := hide (GX.out.below hbA GX.out.lt)
    replace BY := hide (BY.out.below hbA BY.out.lt)
    replace GY := hide (GY.out.below hbA GY.out.lt)
    replace G3 := hide (G3.out.below hbA G3.out.lt)
    have Hd16 := hide hd16
    clear hd16 hbA
    go_wp2_with fail
    rw [← Hd16.out]
    clear Hd16 c_G30 l_G3
    refine (ISK.out _ HB.out).mono ?_
    rintro e d17 ⟨rfl, hb⟩
    replace HB := hide (HB.out.trans (hb.mono HB.out.size))
    replace BA := hide (BA.out.below hb BA.out.lt)
    replace BB := hide (BB.out.below hb BB.out.lt)
    replace TT := hide (TT.out.below hb)
    replace ET := hide (ET.out.below hb)
    replace BT := hide (BT.out.below hb BT.out.lt)
    replace TU := hide (TU.out.below hb)
    replace BU := hide (BU.out.below hb BU.out.lt)
    replace BX := hide (BX.out.below hb BX.out.lt)
    replace GX := hide (GX.out.below hb GX.out.lt)
    replace BY := hide (BY.out.below hb BY.out.lt)
    replace GY := hide (GY.out.below hb GY.out.lt)
    replace G3 := hide (G3.out.below hb G3.out.lt)
    replace G4 := hide (G4.out.below hb G4.out.lt)
    clear hb
    have c_BU2 := BU.out.cell 2
    have c_BT2 := BT.out.cell 2
    have c_G40 := G4.out.cell 0
    have c_G41 := G4.out.cell 1
    have c_G42 := G4.out.cell 2
    by_cases h4 : c4 = 0
    case neg =>
      have h4b : ((c4 : Int) != 0) = true := by simp; omega
      have HBF : Hid (b.fault ≠ (0, none)) := hide (by intro h; have h2 := hc4.out; rw [show Tens.fault b.zs b.u b.ds = (0, none) from h] at h2; exact h4 h2.symm)
      rw [if_neg HBF.out] at K1
      rw [K1.out] at ET
      clear h4
      go_wp2_with fail
      refine (S4.out e1 _ HB.out ET.out).mono ?_
      rintro e d18 ⟨rfl, hb⟩
      replace HB := hide (HB.out.trans (hb.mono HB.out.size))
      clear hb c_BU2 c_BT2 c_G40 c_G41 c_G42
      go_wp2_with fail
      go_ret
      exact ⟨rfl, HB.out⟩
    case pos =>
      have h4b : ((c4 : Int) != 0) = false := by simp; omega
      have HBF : Hid (b.fault = (0, none)) := hide (Ten.fault_nil (show (Tens.fault b.zs b.u b.ds).1 = 0 by rw [hc4.out]; exact h4))
      rw [if_pos HBF.out] at K1
      rw [K1.out] at ET
      obtain rfl : e1 = errv ak := by
        have h := ET.out
        unfold Elm.Err at h
        rwa [if_pos rfl] at h
      clear h4
      go_wp2_with fail
      refine (ISK.out _ HB.out).mono ?_
      rintro e d18 ⟨rfl, hb⟩
      replace HB := hide (HB.out.trans (hb.mono HB.out.size))
      clear hb c_BU2 c_BT2 c_G40 c_G41 c_G42
      go_wp2_with fail
      go_ret
      exact ⟨rfl, HB.out⟩
end Go.Proofs.YtgdcfjmpjhlndaaDoor
