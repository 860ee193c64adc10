/-
  Operations of package soft that are lawful; the examples of package lodgelaw11. By an AI agent. No person has read it.
-/
import Derived.Test.YtcgjnjchkachdaaDoorSftT
import Derived.Test.YtcgjnjchkachdaaDoorPolG
namespace Go.Proofs.YtcgjnjchkachdaaDoor
open Go.RowKit

theorem Tens.fine_of {t : Ten} (hc : Shp.code t.zs = 0) (hl : (t.ds.length : Int) = Shp.prod t.zs) (hs : ∀ z ∈ t.ds, Tens.fit t.u z = true) : t.fault = (0, none) := by
  show Tens.fault t.zs t.u t.ds = (0, none)
  exact Tens.fault_none _ _ _ hc (by rw [(Shp.whole hc).2.2.1, hl]) (fun j y hy => hs y (List.mem_of_getElem? hy))
theorem Sf.dim1_ok (n : Nat) (h : 1 ≤ n ∧ n ≤ 256) : Shp.code [(n : Int)] = 0 := by
  unfold Shp.code
  rw [if_neg (by simp), if_neg, if_neg]
  · simp [Shp.prod]; omega
  · simp only [List.all_cons, List.all_nil, Shp.okDim, Bool.and_true]
    rw [decide_eq_true (by omega)]
    decide
theorem Sf.dim2_ok (m n : Nat) (h : 1 ≤ m ∧ m ≤ 256) (h2 : 1 ≤ n ∧ n ≤ 256) (h3 : m * n ≤ 16384) : Shp.code [(m : Int), (n : Int)] = 0 := by
  unfold Shp.code
  rw [if_neg (by simp), if_neg, if_neg]
  · simp only [Shp.prod, Int.mul_one]
    rw [← Int.natCast_mul]
    omega
  · simp only [List.all_cons, List.all_nil, Shp.okDim, Bool.and_true]
    rw [decide_eq_true (by omega), decide_eq_true (by omega)]
    decide
theorem Sf.fine_line (t : Ten) (n : Nat) (hz : t.zs = [(n : Int)]) (h : 1 ≤ n ∧ n ≤ 256) (hl : t.ds.length = n) (hs : ∀ z ∈ t.ds, Tens.fit t.u z = true) : t.fault = (0, none) :=
  Tens.fine_of (by rw [hz]; exact Sf.dim1_ok n h) (by rw [hz, hl]; simp [Shp.prod]) hs
theorem Sf.fine_block (t : Ten) (m n : Nat) (hz : t.zs = [(m : Int), (n : Int)]) (h : 1 ≤ m ∧ m ≤ 256) (h2 : 1 ≤ n ∧ n ≤ 256) (h3 : m * n ≤ 16384) (hl : t.ds.length = m * n) (hs : ∀ z ∈ t.ds, Tens.fit t.u z = true) : t.fault = (0, none) :=
  Tens.fine_of (by rw [hz]; exact Sf.dim2_ok m n h h2 h3) (by rw [hz, hl]; simp only [Shp.prod, Int.mul_one]; rw [← Int.natCast_mul]) hs
theorem Sf.fitn {z : Int} (h : -128 ≤ z ∧ z ≤ 127) : Tens.fit false z = true := by unfold Tens.fit; simp [h]
theorem Sf.fitw {z : Int} (h : -2147483648 ≤ z ∧ z ≤ 2147483647) : Tens.fit true z = true := by unfold Tens.fit; simp [h]
theorem Sf.good_any {op : Int} {ts : List Ten} {x : List Int × Bool} (hf : ∀ t ∈ ts, t.fault = (0, none)) (hn : ts.length = Sf.nins op) (hl : Sf.lk op (ts.map Ten.look) = some x) (hc : Shp.code x.1 = 0) : Cel.fault ts (Sf.code op (ts.map Ten.look)) = (0, none) := by
  have h1 : Tens.first ts = (0, none) := Tens.first_none ts fun j t ht => hf t (List.mem_of_getElem? ht)
  have h2 : Shp.firstbad (ts.map Ten.look) = 0 := Shp.first_none _ fun j d hd => by
    rw [List.getElem?_map, Option.map_eq_some_iff] at hd
    obtain ⟨t, ht, rfl⟩ := hd
    exact (Tens.whole (hf t (List.mem_of_getElem? ht))).1
  have h3 : Sf.code op (ts.map Ten.look) = 0 := by
    unfold Sf.code
    rw [if_neg (by rw [List.length_map]; omega), if_neg (by omega), hl]
    exact hc
  unfold Cel.fault
  rw [if_pos h1, h3]
theorem Sf.good_soft {a b : Ten} (ha : a.fault = (0, none)) (hb : b.fault = (0, none)) (hu : a.u = false) (hz : 0 < a.zs.length) (hbz : b.zs = [256]) (hbu : b.u = true) : Cel.fault [a, b] (Sf.code 16 ([a, b].map Ten.look)) = (0, none) := by
  refine Sf.good_any (x := (a.zs, false)) (fun t ht => ?_) rfl ?_ (Tens.whole ha).1
  · simp only [List.mem_cons, List.not_mem_nil, or_false] at ht
    rcases ht with rfl | rfl
    · exact ha
    · exact hb
  · show (if a.u = false ∧ 0 < a.zs.length ∧ b.zs = [256] ∧ b.u = true then some (a.zs, false) else none) = some (a.zs, false)
    rw [if_pos ⟨hu, hz, hbz, hbu⟩]
theorem Sf.good_row {op : Int} (hop : op = 19 ∨ op = 20) {a : Ten} (ha : a.fault = (0, none)) (hz : 0 < a.zs.length) (hd : a.ds.length ≤ a.dcap) : Cel.fault [a] (Sf.code op ([a].map Ten.look)) = (0, none) := by
  refine Sf.good_any (x := (a.zs.dropLast, true)) (fun t ht => ?_) (by rcases hop with rfl | rfl <;> rfl) ?_ (Sf.rows_of ha hz hd).2.2
  · simp only [List.mem_cons, List.not_mem_nil, or_false] at ht
    subst ht
    exact ha
  · show (if 0 < a.zs.length then some (a.zs.dropLast, true) else none) = some (a.zs.dropLast, true)
    rw [if_pos hz]
theorem Sf.good_gath {a b : Ten} (ha : a.fault = (0, none)) (hb : b.fault = (0, none)) (hz : a.zs.length = 2) (hbu : b.u = true) (hbz : b.zs.length = 1) (hc : Shp.code [b.zs.getD 0 0, a.zs.getD 1 0] = 0) : Cel.fault [a, b] (Sf.code 17 ([a, b].map Ten.look)) = (0, none) := by
  refine Sf.good_any (x := ([b.zs.getD 0 0, a.zs.getD 1 0], a.u)) (fun t ht => ?_) rfl ?_ hc
  · simp only [List.mem_cons, List.not_mem_nil, or_false] at ht
    rcases ht with rfl | rfl
    · exact ha
    · exact hb
  · show (if a.zs.length = 2 ∧ b.u = true ∧ b.zs.length = 1 then some ([b.zs.getD 0 0, a.zs.getD 1 0], a.u) else none) = some ([b.zs.getD 0 0, a.zs.getD 1 0], a.u)
    rw [if_pos ⟨hz, hbu, hbz⟩]
theorem Sf.row_all (xs : List Int) (n : Nat) (h : xs.length = n) : Sf.row xs n 0 = xs := by
  unfold Sf.row
  rw [Nat.zero_mul, List.drop_zero, List.take_of_length_le (by omega)]
theorem Sf.last_line {a : Ten} {n : Nat} (h : a.zs = [(n : Int)]) : Sf.last a = n := by unfold Sf.last; rw [h]; rfl
/-- A row's weights, where the tensor is one row. -/
theorem Sf.soft_line {a b : Ten} (n : Nat) (hz : a.zs = [(n : Int)]) (hl : a.ds.length = n) (i : Nat) (hi : i < n) : Sf.el 16 [a, b] i = Sf.of (Sf.all a.ds b.ds n n) (Sf.wt b.ds (Sf.by_ a.ds n i)) := by
  show Sf.soft a.ds b.ds (Sf.last a) i = _
  unfold Sf.soft
  rw [Sf.last_line hz, Nat.div_eq_of_lt hi, Nat.mod_eq_of_lt hi, Sf.row_all _ _ hl]
theorem Sf.first_val (t b : Ten) (hz : t.zs = [((2 : Nat) : Int)]) (hd : t.ds = [0, 0]) (hb : b.ds[0]? = some 1048576) : Sf.part (Sf.el 16 [t, b]) 0 2 = [0, 0] := by
  have hw : Sf.wt b.ds 0 = 1048576 := by unfold Sf.wt; rw [List.getD_eq_getElem?_getD, hb]; decide
  have h0 : Sf.by_ t.ds 2 0 = 0 := by rw [hd]; decide
  have h1 : Sf.by_ t.ds 2 1 = 0 := by rw [hd]; decide
  have ha : Sf.all t.ds b.ds 2 2 = 2097152 := by
    show 0 + Sf.wt b.ds (Sf.by_ t.ds 2 0) + Sf.wt b.ds (Sf.by_ t.ds 2 1) = 2097152
    rw [h0, h1, hw]
    decide
  have e0 : Sf.el 16 [t, b] 0 = 0 := by
    rw [Sf.soft_line 2 hz (by rw [hd]; rfl) 0 (by decide), ha, h0, hw]
    decide
  have e1 : Sf.el 16 [t, b] 1 = 0 := by
    rw [Sf.soft_line 2 hz (by rw [hd]; rfl) 1 (by decide), ha, h1, hw]
    decide
  show [Sf.el 16 [t, b] (0 + 0), Sf.el 16 [t, b] (0 + 1)] = [0, 0]
  rw [Nat.zero_add, Nat.zero_add, e0, e1]
theorem half_order : FloatKind.f64.format.order 4602678819172646912 0 = some .gt ∧ FloatKind.f64.format.order 4602678819172646912 4607182418800017408 = some .lt := by decide +kernel
set_option maxRecDepth 100000 in
set_option maxHeartbeats 4000000 in
theorem first11_c (ah am ar : Addr) (w : World) (hE : E3 w ah am ar) :
    Calls Tryd.prog 36 #[] w fun e w' => e = .returned (.bool true) ∧ Below w.heap.size w w' := by
  obtain ⟨W1, hW1⟩ : ∃ W, W = ((w.alloc (.cells #[.int .i64 2] 3)).alloc (.cells #[.int .i64 0, .int .i64 0] 3)).alloc (.cells #[.slice (some ⟨w.heap.size, 0, none⟩) 1 1, .bool false, .slice (some ⟨w.heap.size + 1, 0, none⟩) 2 2] 26) := ⟨_, rfl⟩
  have hB1 : Below w.heap.size w W1 := by rw [hW1]; exact (((Below.refl _ _).alloc (Nat.le_refl _) _).alloc (by simp) _).alloc (by simp; omega) _
  have s1 : Has W1 w.heap.size 3 (i64s [((2 : Nat) : Int)]) := by rw [hW1]; exact ((Has.new w 3 [.int .i64 2]).alloc _).alloc _
  have d1 : Has W1 (w.heap.size + 1) 3 (i64s [0, 0]) := by rw [hW1]; exact (box_at _ 3 [.int .i64 0, .int .i64 0] _ (by simp)).alloc _
  have HX : Hid (Has W1 (w.heap.size + 1 + 1) 26 [.slice (some ⟨w.heap.size, 0, none⟩) 1 1, .bool false, .slice (some ⟨w.heap.size + 1, 0, none⟩) 2 2]) := hide (by rw [hW1]; exact box_at _ 26 _ _ (by simp))
  obtain ⟨a, ea⟩ : ∃ a : Ten, Hid (a = ⟨some ⟨w.heap.size, 0, none⟩, [((2 : Nat) : Int)], 1, false, some ⟨w.heap.size + 1, 0, none⟩, [0, 0], 2⟩) := ⟨_, hide rfl⟩
  have Ta : Hid (a.In W1) := hide (by rw [ea.out]; exact ⟨s1.ri (by decide), d1.ri (by decide), by show 1 ≤ 1000000; omega, by show 2 ≤ 1000000; omega⟩)
  have HTb := hide (stable_c 4602678819172646912 (by decide) (by decide) half_order.1 half_order.2 W1)
  have HE := hide (fun W (h : Below w.heap.size w W) => hE.below h)
  have HB := hide hB1
  have HW1 := hide hW1
  clear hE hW1 hB1 s1 d1
  go_enter Tryd.func36, Tryd.ntmps36
  go_wp2_with fail
  rw [← HW1.out]
  clear HW1
  refine HTb.out.mono ?_
  rintro e w2 ⟨⟨t, rfl, ht, -, htz, htu, htd, htc⟩, hb⟩
  replace HX := hide (HX.out.below hb HX.out.lt)
  replace HB := hide (HB.out.trans (hb.mono HB.out.size))
  replace Ta := hide (Ta.out.below hb)
  obtain ⟨W3, hW3⟩ : ∃ W, W = w2.alloc (.cells #[.slice t.P t.zs.length t.cap, .bool t.u, .slice t.D t.ds.length t.dcap] 26) := ⟨_, rfl⟩
  have hbA : Below w2.heap.size w2 W3 := by rw [hW3]; exact (Below.refl _ _).alloc (Nat.le_refl _) _
  have x0 := HX.out.cell 0
  have x1 := HX.out.cell 1
  have x2 := HX.out.cell 2
  have xl := HX.out.lt
  replace HB := hide (HB.out.trans (hbA.mono HB.out.size))
  replace Ta := hide (Ta.out.below hbA)
  have Tt := hide (ht.below hbA)
  have HF : Hid (Cel.fault [a, t] (Sf.code 16 ([a, t].map Ten.look)) = (0, none)) := hide (Sf.good_soft (Sf.fine_line a 2 (by rw [ea.out]) (by decide) (by rw [ea.out]; rfl) (by rw [ea.out]; exact (by decide : ∀ z ∈ ([0, 0] : List Int), Tens.fit false z = true))) (Sf.fine_line t 256 htz (by decide) (by rw [htd, Sf.table_length]) (fun z hz => by rw [htu]; rw [htd] at hz; have := Sf.table_le _ z hz; exact Sf.fitw (by omega))) (by rw [ea.out]) (by rw [ea.out]; exact (by decide : 0 < 1)) htz htu)
  have HS := hide (sfsoftmax_c a t ah am ar W3 Ta.out Tt.out (by
    intro x hx
    simp only [List.mem_cons, List.not_mem_nil, or_false] at hx
    rcases hx with rfl | rfl
    · rw [ea.out]; exact Nat.le_refl 2
    · rw [htc, htd, Sf.table_length]; decide) (HE.out _ HB.out))
  have hD : ∀ x : Ten, x.ds = Sf.ds 16 [a, t] → x.ds = [0, 0] := fun x h => by
    rw [h]
    have hsz : Sf.size 16 [a, t] = 2 := by
      have h := (Sf.fine_soft a t (by rw [ea.out]; exact Nat.le_refl 2) HF.out).2.2.2.2.2.2.2
      rw [h, ea.out]
      rfl
    unfold Sf.ds
    rw [hsz]
    exact Sf.first_val a t (by rw [ea.out]) (by rw [ea.out]) (by rw [htd, Sf.table_at _ 0 (by decide)]; rfl)
  have HD := hide hD
  have HEA := ea
  rw [ea.out] at HS
  have HW3 := hide hW3
  clear ht htz htu htd htc hb hbA hW3 HTb hD
  go_wp2_with fail
  rw [← HW3.out]
  clear HW3 x0 x1 x2 xl
  refine HS.out.mono ?_
  intro e w4 hT
  rw [← HEA.out] at hT
  obtain ⟨⟨x, rfl, hIn, -, -, hd, -⟩, hb⟩ := sf_good 16 (.inl rfl) _ ah am ar _ HF.out hT
  have hds := HD.out x hd
  have hB3 := HB.out.trans (hb.mono HB.out.size)
  have hDx := hIn.dat
  rw [hds] at hDx
  have hB4 := hB3.alloc hB3.size (.cells #[.slice x.P x.zs.length x.cap, .bool x.u, .slice x.D 2 x.dcap] 26)
  have hB5 := hB4.alloc hB4.size (.cells #[.int .i64 0, .int .i64 0] 3)
  have hD5 := (hDx.below ((Below.refl _ w4).alloc (Nat.le_refl _) (.cells #[.slice x.P x.zs.length x.cap, .bool x.u, .slice x.D 2 x.dcap] 26))).below ((Below.refl _ _).alloc (Nat.le_refl _) (.cells #[.int .i64 0, .int .i64 0] 3))
  have HSS := hide (sameints_c [0, 0] [0, 0] x.D (some ⟨w4.heap.size + 1, 0, none⟩) x.dcap 2 _ hD5 (by
    have h := new_ri (w4.alloc (.cells #[.slice x.P x.zs.length x.cap, .bool x.u, .slice x.D 2 x.dcap] 26)) 3 [0, 0] (by decide)
    simpa using h) (by decide) (by decide))
  rw [decide_eq_true (rfl : ([0, 0] : List Int) = [0, 0])] at HSS
  have HB5 := hide hB5
  rw [hds]
  clear hIn hd hds hb hB3 hDx hB4 hB5 hD5 HS HB hT
  go_wp2_with fail
  refine HSS.out.mono ?_
  rintro e w5 ⟨rfl, hb⟩
  have HFin := hide (HB5.out.trans (hb.mono HB5.out.size))
  clear hb HSS HB5
  go_wp2_with fail
  go_ret
  exact ⟨rfl, HFin.out⟩
end Go.Proofs.YtcgjnjchkachdaaDoor
