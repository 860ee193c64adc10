/-
  plan.inRange's closure over an instruction, plan.descs, walked. By an AI agent. No person has read it.
-/
import Derived.Test.YthjnkaikjjjceaaDoorPkPlnJ
import Derived.Test.YthjnkaikjjjceaaDoorPkPlnG
import Derived.Lib.AppendZeros
namespace Go.Proofs.YthjnkaikjjjceaaDoor
open Go.RowKit
/-- An instruction with a number that has no room in its bytes. -/
def Pl.wrong (x : Ins) : Bool := (decide (x.op < 0) || decide (255 < x.op)) || ([x.dst, x.fr, x.to].any Pl.far || (x.is.any Pl.far || x.gs.any Pl.far))
set_option maxRecDepth 100000 in
set_option maxHeartbeats 4000000 in
theorem wrong_c (x : Ins) (w : World) (hx : x.In w) : Calls Tryd.prog 96 #[.agg #[.int .i64 x.op, .int .i64 x.dst, .slice x.I x.is.length x.ic, .slice x.G x.gs.length x.gc, .int .i64 x.fr, .int .i64 x.to]] w fun e w' => e = .returned (.bool (Pl.wrong x)) ∧ Below w.heap.size w w' := by
  unfold Pl.wrong
  have hb0 := (Below.refl w.heap.size w).alloc (Nat.le_refl _) (.cells #[.int .i64 x.op, .int .i64 x.dst, .slice x.I x.is.length x.ic, .slice x.G x.gs.length x.gc, .int .i64 x.fr, .int .i64 x.to] 48)
  have HB := hide hb0
  have F3 : Hid (Calls Tryd.prog 93 #[.slice (some ⟨w.heap.size + 1, 0, none⟩) 3 3] ((w.alloc (.cells #[.int .i64 x.op, .int .i64 x.dst, .slice x.I x.is.length x.ic, .slice x.G x.gs.length x.gc, .int .i64 x.fr, .int .i64 x.to] 48)).alloc (.cells #[.int .i64 x.dst, .int .i64 x.fr, .int .i64 x.to] 3)) fun e w' => e = .returned (.bool (![x.dst, x.fr, x.to].any Pl.far)) ∧ Below ((w.alloc (.cells #[.int .i64 x.op, .int .i64 x.dst, .slice x.I x.is.length x.ic, .slice x.G x.gs.length x.gc, .int .i64 x.fr, .int .i64 x.to] 48)).alloc (.cells #[.int .i64 x.dst, .int .i64 x.fr, .int .i64 x.to] 3)).heap.size ((w.alloc (.cells #[.int .i64 x.op, .int .i64 x.dst, .slice x.I x.is.length x.ic, .slice x.G x.gs.length x.gc, .int .i64 x.fr, .int .i64 x.to] 48)).alloc (.cells #[.int .i64 x.dst, .int .i64 x.fr, .int .i64 x.to] 3)) w') := hide (by
    have h := fits_wide [x.dst, x.fr, x.to] _ 3 _ (new_rc (w.alloc (.cells #[.int .i64 x.op, .int .i64 x.dst, .slice x.I x.is.length x.ic, .slice x.G x.gs.length x.gc, .int .i64 x.fr, .int .i64 x.to] 48)) 3 [x.dst, x.fr, x.to]) (by simp)
    rw [show (w.alloc (.cells #[.int .i64 x.op, .int .i64 x.dst, .slice x.I x.is.length x.ic, .slice x.G x.gs.length x.gc, .int .i64 x.fr, .int .i64 x.to] 48)).heap.size = w.heap.size + 1 by simp] at h
    exact h)
  have FI := hide (fun (W : World) (hb : Below w.heap.size w W) => fits_wide x.is x.I x.ic W (hx.is.below hb).rc hx.li)
  have FG := hide (fun (W : World) (hb : Below w.heap.size w W) => fits_wide x.gs x.G x.gc W (hx.gs.below hb).rc hx.lg)
  have HB3 := hide (hb0.alloc hb0.size (.cells #[.int .i64 x.dst, .int .i64 x.fr, .int .i64 x.to] 3))
  obtain ⟨b1, hb1⟩ : ∃ y, Hid ([x.dst, x.fr, x.to].any Pl.far = y) := ⟨_, hide rfl⟩
  obtain ⟨b2, hb2⟩ : ∃ y, Hid (x.is.any Pl.far = y) := ⟨_, hide rfl⟩
  obtain ⟨b3, hb3⟩ : ∃ y, Hid (x.gs.any Pl.far = y) := ⟨_, hide rfl⟩
  have hrow : Has (w.alloc (.cells #[.int .i64 x.op, .int .i64 x.dst, .slice x.I x.is.length x.ic, .slice x.G x.gs.length x.gc, .int .i64 x.fr, .int .i64 x.to] 48)) w.heap.size 48 [.int .i64 x.op, .int .i64 x.dst, .slice x.I x.is.length x.ic, .slice x.G x.gs.length x.gc, .int .i64 x.fr, .int .i64 x.to] := Has.new w _ _
  have HRW := hide (hrow.alloc (.cells #[.int .i64 x.dst, .int .i64 x.fr, .int .i64 x.to] 3))
  rw [hb1.out, hb2.out, hb3.out]
  rw [hb1.out] at F3
  rw [hb2.out] at FI
  rw [hb3.out] at FG
  obtain ⟨n2, hn2⟩ : ∃ y, Hid (x.is.length = y) := ⟨_, hide rfl⟩
  obtain ⟨n3, hn3⟩ : ∃ y, Hid (x.gs.length = y) := ⟨_, hide rfl⟩
  rw [hn2.out, hn3.out] at HB F3 HB3 HRW ⊢
  rw [hn2.out] at FI
  rw [hn3.out] at FG
  clear hx hb0 hrow
  rcases Int.lt_or_le x.op 0 with h | h
  · rw [decide_eq_true h, Bool.true_or, Bool.true_or]
    go_enter Tryd.func96, Tryd.ntmps96
    go_wp2_with fail
    go_ret
    exact ⟨rfl, HB.out⟩
  · rw [decide_eq_false (show ¬ x.op < 0 by omega), Bool.false_or]
    have h0 : ¬ x.op < 0 := by omega
    rcases Int.lt_or_le 255 x.op with k | k
    · rw [decide_eq_true k, Bool.true_or]
      go_enter Tryd.func96, Tryd.ntmps96
      go_wp2_with fail
      go_ret
      exact ⟨rfl, HB.out⟩
    · have k0 : ¬ 255 < x.op := by omega
      rw [decide_eq_false k0, Bool.false_or]
      go_enter Tryd.func96, Tryd.ntmps96
      go_wp2_with fail
      refine F3.out.mono ?_
      rintro e w1 ⟨rfl, hw1⟩
      have hbw := HB3.out.trans (hw1.mono HB3.out.size)
      have HW1 := hide hbw
      have hr1 := HRW.out.below hw1 HRW.out.lt
      have d2 : w1.cell? ⟨w.heap.size, 2, none⟩ = some (.slice x.I n2 x.ic) := hr1.cell 2
      have FI1 := hide (FI.out w1 hbw)
      have HR1 := hide hr1
      clear F3 FI hw1 hbw hr1 HRW HB3
      cases b1
      · go_wp2_with fail
        refine FI1.out.mono ?_
        rintro e w2 ⟨rfl, hw2⟩
        have hbw := HW1.out.trans (hw2.mono HW1.out.size)
        have HW2 := hide hbw
        have hr2 := HR1.out.below hw2 HR1.out.lt
        have d3 : w2.cell? ⟨w.heap.size, 3, none⟩ = some (.slice x.G n3 x.gc) := hr2.cell 3
        have FG1 := hide (FG.out w2 hbw)
        clear FI1 FG hw2 hbw hr2 d2
        cases b2
        · go_wp2_with fail
          refine FG1.out.mono ?_
          rintro e w3 ⟨rfl, hw3⟩
          have HW3 := hide (HW2.out.trans (hw3.mono HW2.out.size))
          clear FG1 hw3 d3
          cases b3
          all_goals
            go_wp2_with fail
            go_ret
            exact ⟨rfl, HW3.out⟩
        · go_wp2_with fail
          go_ret
          exact ⟨rfl, HW2.out⟩
      · go_wp2_with fail
        go_ret
        exact ⟨rfl, HW1.out⟩
set_option maxRecDepth 100000 in
set_option maxHeartbeats 4000000 in
theorem index_wrong (l : List Ins) (A : Option Addr) (cap : Nat) (w : World) (hR : Row w A (l.flatMap Ins.vals)) (hI : ∀ x ∈ l, x.In w) (hl : l.length ≤ 1000000) :
    Calls Tryd.prog 104 #[.slice A l.length cap, .func (.func 96) #[] #[]] w fun e w' => (∃ j : Int, e = .returned (.int .i64 j) ∧ decide (0 ≤ j) = l.any Pl.wrong) ∧ Below w.heap.size w w' := by
  have eg : ∀ args w, (callFunc 96 args).run Tryd.prog w = .ok (.enter 96 args) w := enters_of Tryd.func96 (by kernel_rfl) rfl
  have HR := hide hR
  have HI := hide hI
  obtain ⟨nd, hnd⟩ : ∃ n, Hid (l.length = n) := ⟨_, hide rfl⟩
  obtain ⟨G, hG⟩ : ∃ G, Hid (l.any Pl.wrong = G) := ⟨_, hide rfl⟩
  rw [hG.out]
  rw [hnd.out] at hl ⊢
  clear hR hI
  go_enter Tryd.func104, Tryd.ntmps104
  go_wp2_with fail
  go_loopw [5, 8] (fun _ k wr => ∃ i : Nat, i ≤ nd ∧ k = .int .i64 i ∧ Hid (Below w.heap.size w wr) ∧ Hid ((l.drop i).any Pl.wrong = G)) (fun _ k _ => nd - (intOf k).toNat)
  case atStart => exact ⟨0, by omega, rfl, hide (Below.refl _ _), hide hG.out⟩
  case round =>
    obtain ⟨i, hi, rfl, HB, HK⟩ := hrel
    by_cases hlt : i < nd
    · obtain ⟨ad, x, hBad, had, hd, c0, c1, c2, c3, c4, c5⟩ := (row_ins (HR.out.below HB.out) i (by rw [hnd.out]; exact hlt))
      subst hBad
      have hk := HK.out
      rw [any_drop _ l i x hd.out] at hk
      have HP := hide (wrong_c x wr ((HI.out x (List.mem_of_getElem? hd.out)).below HB.out))
      obtain ⟨qq, hqq⟩ : ∃ y, Hid (Pl.wrong x = y) := ⟨_, hide rfl⟩
      rw [hqq.out] at hk HP
      clear HK had
      cases qq
      · rw [Bool.false_or] at hk
        have HKf := hide hk
        clear hk
        go_wp2_with (go_at_fn 96; refine HP.out.mono ?_; rintro e w' ⟨rfl, hb'⟩)
        go_roundw
        case rel => exact ⟨i + 1, by omega, by go_num, hide (HB.out.trans (hb'.mono HB.out.size)), HKf⟩
        case measure => simp [intOf]; omega
      · rw [Bool.true_or] at hk
        have HKf := hide hk
        clear hk
        go_wp2_with (go_at_fn 96; refine HP.out.mono ?_; rintro e w' ⟨rfl, hb'⟩)
        go_ret
        exact ⟨⟨_, rfl, by rw [← HKf.out]; exact decide_eq_true (by omega)⟩, HB.out.trans (hb'.mono HB.out.size)⟩
    · obtain rfl : i = nd := by omega
      have hk := HK.out
      rw [List.drop_eq_nil_of_le (by rw [hnd.out]; omega)] at hk
      have HKf := hide hk
      clear HK hlt hi hk
      go_wp2_with fail
      go_ret
      exact ⟨⟨_, rfl, by rw [← HKf.out]; rfl⟩, HB.out⟩
theorem has_wrong (l : List Ins) (A : Option Addr) (cap : Nat) (w : World) (hR : Row w A (l.flatMap Ins.vals)) (hI : ∀ x ∈ l, x.In w) (hl : l.length ≤ 1000000) :
    Calls Tryd.prog 88 #[.slice A l.length cap, .func (.func 96) #[] #[]] w fun e w' => e = .returned (.bool (l.any Pl.wrong)) ∧ Below w.heap.size w w' := by
  have HP := hide (index_wrong l A cap w hR hI hl)
  obtain ⟨G, hG⟩ : ∃ G, Hid (l.any Pl.wrong = G) := ⟨_, hide rfl⟩
  rw [hG.out] at HP ⊢
  go_enter Tryd.func88, Tryd.ntmps88
  go_wp2_with fail
  refine HP.out.mono ?_
  rintro e w' ⟨⟨j, rfl, hj⟩, hb'⟩
  have HB := hide hb'
  clear HP hR hl hb' hG hI
  go_wp2_with fail
  go_ret
  exact ⟨rfl, HB.out⟩
theorem own_le2 {w : World} {base b n s : Nat} {e : TypeId} {v : Value} {xs : List Value} (h : w.ownsRow base e s v n xs) (hb : b ≤ base) : w.ownsRow b e s v n xs := by
  refine ⟨h.1, ?_⟩
  rcases h.2 with h1 | ⟨g, c, cur, h1, h2, h3⟩
  · exact .inl h1
  · exact .inr ⟨g, c, cur, h1, Nat.le_trans hb h2, h3⟩
/-- An append of a row that lies anywhere. -/
theorem run_append_any (w : World) (base : Nat) (t ty e : TypeId) (i : TypeInfo) (z : Value) (size bytes : Nat) (ht : Tryd.prog.underlying t = some (.slice e)) (hi : Tryd.prog.info? e = some i) (hz : i.zero = some z) (hsize : i.size = size) (hby : i.bytes = bytes) (hzs : z.cells.size = size) (hsz : 0 < size)
    (v : Value) (n : Nat) (xs : List Value) (hown : w.ownsRow base e size v n xs) (A : Option Addr) (m c : Nat) (news : List Value) (hl : news.length = m * size) (hR : Row w A news) (h1 : ∀ u ∈ news, u.oneCell' = true)
    (h63 : n + m ≤ maxLen) (hbytes : (n + m) * bytes ≤ 140737488355328) (hbase : base ≤ w.heap.size) :
    ∃ v' w', (Builtin.append_ #[t, t] ty #[v, .slice A m c]).run Tryd.prog w = .ok v' w' ∧ w'.ownsRow base e size v' (n + m) (xs ++ news) ∧ w.grownBy w' v.ownBlock := by
  by_cases hm : m = 0
  · subst hm
    have hn : news = [] := List.eq_nil_of_length_eq_zero (by rw [hl, Nat.zero_mul])
    subst hn
    refine ⟨v, w, ?_, by simpa using hown, World.grownBy.refl w _⟩
    rcases hown.2 with ⟨rfl, rfl⟩ | ⟨g, c2, cur, rfl, _, _, hnc, _⟩
    · cases A <;> simp [Builtin.append_, run_underlying ht, sizeOf, typeInfo, hi, Builtin.lenOf, Builtin.firstCells, loadCells, loadCellsFrom]
    · cases A <;> simp [Builtin.append_, run_underlying ht, sizeOf, typeInfo, hi, Builtin.lenOf, Builtin.firstCells, hnc, storeCells, loadCells, loadCellsFrom]
  · have hne : news ≠ [] := fun h => by
      rw [h] at hl
      have : 0 < m * size := Nat.mul_pos (by omega) hsz
      simp at hl
      omega
    obtain ⟨ad, rfl, -, hc⟩ := hR hne
    obtain ⟨v', w', a1, a2, a3, -, -⟩ := run_append_own_at (P := Tryd.prog) w base t ty e i z size bytes ht hi hz hsize hby hzs hsz v n xs hown ad m c news hl hc h1 h63 hbytes hbase
    exact ⟨v', w', a1, a2, a3⟩
/-- What a plan's views and weights look like. -/
def Pn.descs (p : Pn) : List Dsc := p.vs.map (·.d) ++ p.ls
set_option maxRecDepth 100000 in
set_option maxHeartbeats 4000000 in
theorem pdescs_c (p : Pn) (w : World) (hP : p.In w) :
    Calls Tryd.prog 91 #[.agg #[.int .i64 p.size, .slice p.V p.vs.length p.vc, .slice p.C p.cs.length p.cc, .slice p.L p.ls.length p.lc, .slice p.K p.is.length p.kc, .int .i64 p.inp, .int .i64 p.out]] w fun e w' =>
      (∃ A c, e = .returned (.slice A p.descs.length c) ∧ Row w' A (p.descs.flatMap Dsc.vals)) ∧ Below w.heap.size w w' := by
  have hb0 := (Below.refl w.heap.size w).alloc (Nat.le_refl _) (.cells #[.int .i64 p.size, .slice p.V p.vs.length p.vc, .slice p.C p.cs.length p.cc, .slice p.L p.ls.length p.lc, .slice p.K p.is.length p.kc, .int .i64 p.inp, .int .i64 p.out] 27)
  have HV := hide (hP.V)
  have HL := hide (hP.L)
  have HLL := hide (hP.ll)
  have hvl := hP.lv
  obtain ⟨n, hn⟩ : ∃ y, Hid (p.vs.length = y) := ⟨_, hide rfl⟩
  obtain ⟨m, hm⟩ : ∃ y, Hid (p.ls.length = y) := ⟨_, hide rfl⟩
  have hrow : Has (w.alloc (.cells #[.int .i64 p.size, .slice p.V p.vs.length p.vc, .slice p.C p.cs.length p.cc, .slice p.L p.ls.length p.lc, .slice p.K p.is.length p.kc, .int .i64 p.inp, .int .i64 p.out] 27)) w.heap.size 27 [.int .i64 p.size, .slice p.V p.vs.length p.vc, .slice p.C p.cs.length p.cc, .slice p.L p.ls.length p.lc, .slice p.K p.is.length p.kc, .int .i64 p.inp, .int .i64 p.out] := Has.new w _ _
  rw [hn.out, hm.out] at hrow hb0
  obtain ⟨w1, hw1⟩ : ∃ W, Hid (w.alloc (.cells #[.int .i64 p.size, .slice p.V n p.vc, .slice p.C p.cs.length p.cc, .slice p.L m p.lc, .slice p.K p.is.length p.kc, .int .i64 p.inp, .int .i64 p.out] 27) = W) := ⟨_, hide rfl⟩
  rw [hw1.out] at hrow hb0
  have hdl : p.descs.length = n + m := by unfold Pn.descs; rw [List.length_append, List.length_map, hn.out, hm.out]
  have hs1 : Hid (w1.heap.size = w.heap.size + 1) := hide (by rw [← hw1.out]; simp)
  have c1 : w1.cell? ⟨w.heap.size, 1, none⟩ = some (.slice p.V n p.vc) := hrow.cell 1
  have HRW := hide hrow
  have HB0 := hide hb0
  rw [hn.out] at hvl
  rw [hm.out] at HLL
  rw [hdl, hn.out, hm.out]
  obtain ⟨i0, hi0, hz0, hz1, hz2⟩ := descinfo
  have HI0 := hide hi0
  have HZ0 := hide hz0
  have HZ1 := hide hz1
  have HZ2 := hide hz2
  have HU := hide uds
  have HO0 := hide (World.ownsRow_nil w1 (w.heap.size + 1) 59 2)
  clear hrow hb0 hi0 hz0 hz1 hz2 hdl hP
  go_enter Tryd.func91, Tryd.ntmps91
  go_wp2_with fail
  rw [hw1.out]
  go_loopw [3, 9] (fun v k wr => ∃ (i : Nat) (u : Value), u = v ∧ i ≤ n ∧ k = .int .i64 i ∧ Hid (wr.ownsRow (w.heap.size + 1) 59 2 u i (((p.vs.take i).map (·.d)).flatMap Dsc.vals)) ∧ Hid (Has wr w.heap.size 27 [.int .i64 p.size, .slice p.V n p.vc, .slice p.C p.cs.length p.cc, .slice p.L m p.lc, .slice p.K p.is.length p.kc, .int .i64 p.inp, .int .i64 p.out]) ∧ Hid (Below w.heap.size w wr)) (fun _ k _ => n - (intOf k).toNat)
  case atStart => exact ⟨0, _, rfl, by omega, rfl, HO0, HRW, HB0⟩
  case round =>
    clear HO0 HRW HB0 hw1 c1
    obtain ⟨i, u, rfl, hi, rfl, HO, HRW, HB⟩ := hrel
    by_cases hlt : i < n
    · have hii : (i : Int) < (n : Int) := by omega
      obtain ⟨ad, x, hBad, had, hd, c0, c1, c2⟩ := row_vw (HV.out.below HB.out) i (by rw [hn.out]; exact hlt)
      rw [hBad]
      have hga := World.grownBy_alloc wr (.cells #[.int .i64 x.off, .slice x.d.P x.d.zs.length x.d.cap, .bool x.d.u] 61) none
      have hO1 := HO.out.alloc (.cells #[.int .i64 x.off, .slice x.d.P x.d.zs.length x.d.cap, .bool x.d.u] 61)
      have hR1 := HRW.out.alloc (.cells #[.int .i64 x.off, .slice x.d.P x.d.zs.length x.d.cap, .bool x.d.u] 61)
      have hB1 := HB.out.alloc HB.out.size (.cells #[.int .i64 x.off, .slice x.d.P x.d.zs.length x.d.cap, .bool x.d.u] 61)
      have hown2 := hide (hO1.alloc (.cells #[.slice x.d.P x.d.zs.length x.d.cap, .bool x.d.u] 59))
      have HR2 := hide (hR1.alloc (.cells #[.slice x.d.P x.d.zs.length x.d.cap, .bool x.d.u] 59))
      have HB2 := hide (hB1.alloc hB1.size (.cells #[.slice x.d.P x.d.zs.length x.d.cap, .bool x.d.u] 59))
      have hnw := hide (new_cells (wr.alloc (.cells #[.int .i64 x.off, .slice x.d.P x.d.zs.length x.d.cap, .bool x.d.u] 61)) 59 (Dsc.vals x.d))
      have hs2 := hide (show w.heap.size + 1 ≤ ((wr.alloc (.cells #[.int .i64 x.off, .slice x.d.P x.d.zs.length x.d.cap, .bool x.d.u] 61)).alloc (.cells #[.slice x.d.P x.d.zs.length x.d.cap, .bool x.d.u] 59)).heap.size by have := HRW.out.lt; simp; omega)
      have hsz : (wr.alloc (.cells #[.int .i64 x.off, .slice x.d.P x.d.zs.length x.d.cap, .bool x.d.u] 61)).heap.size = wr.heap.size + 1 := by simp
      rw [hsz] at hnw
      clear hga hO1 hR1 hB1 had hsz HO HRW HB
      go_wp2_with (at_builtin; refine wpList_append_own_at _ rfl _ _ 24 rfl (w.heap.size + 1) 59 i0 (.agg #[.slice none 0 0, .bool false]) 2 32 HU.out HI0.out HZ0.out HZ1.out HZ2.out rfl (by decide) _ i _ rfl hown2.out ⟨wr.heap.size + 1, 0, none⟩ 1 1 (Dsc.vals x.d) rfl rfl hnw.out (Dsc.one _) (by unfold maxLen; omega) (by omega) hs2.out ?_)
      intro s0 W0 hown' hgrow hnil hat
      have HB := hide (elm_grown (HB2.out) (own_le2 hown2.out (Nat.le_succ _)) HB2.out.size hgrow)
      have HRW := hide (HR2.out.grown hgrow (own_apart hown2.out (Nat.lt_succ_self _)))
      have HO : Hid (W0.ownsRow (w.heap.size + 1) 59 2 s0 (i + 1) (((p.vs.take (i + 1)).map (·.d)).flatMap Dsc.vals)) := hide (by
        rw [List.take_add_one, hd.out, Option.toList_some, List.map_append, List.flatMap_append]
        simpa using hown')
      clear HB2 hown2 hown' hgrow hnw hs2 hnil hat HR2 c0 c1 c2
      go_wp2_with fail
      go_roundw
      case rel => exact ⟨i + 1, _, rfl, by omega, by go_num, HO, by have h := HRW.out; rw [hBad] at h; exact hide h, HB⟩
      case measure => simp [intOf]; omega
    · obtain rfl : i = n := by omega
      have ho := HO.out
      rw [List.take_of_length_le (by rw [hn.out]; exact Nat.le_refl _)] at ho
      have c3 : wr.cell? ⟨w.heap.size, 3, none⟩ = some (.slice p.L m p.lc) := HRW.out.cell 3
      obtain ⟨v', W', hrun, h2, h3⟩ := run_append_any wr (w.heap.size + 1) 24 24 59 i0 (.agg #[.slice none 0 0, .bool false]) 2 32 HU.out HI0.out HZ0.out HZ1.out HZ2.out rfl (by decide) u i _ ho p.L m p.lc (p.ls.flatMap Dsc.vals) (by rw [flat_len Dsc.vals 2 p.ls (fun _ _ => rfl), hm.out]) (HL.out.below HB.out) (by
        intro y hy
        obtain ⟨d, _, hy⟩ := List.mem_flatMap.1 hy
        exact Dsc.one d y hy) (by have := HLL.out; unfold maxLen; omega) (by have := HLL.out; omega) (by have := HRW.out.lt; omega)
      obtain ⟨B, c, hv', hrw⟩ := own_row h2
      subst hv'
      have HW := hide hrw
      have HB2 := hide (elm_grown HB.out (own_le2 ho (Nat.le_succ _)) HB.out.size h3)
      clear ho h2 h3 hrw HO HRW
      go_wp2_with (at_builtin; refine Lib.wpList_append_run _ rfl _ _ _ _ rfl _ _ rfl rfl _ _ hrun ?_)
      go_ret
      refine ⟨⟨B, c, rfl, ?_⟩, HB2.out⟩
      unfold Pn.descs
      rw [List.flatMap_append]
      exact HW.out
end Go.Proofs.YthjnkaikjjjceaaDoor
