/-
  The law PlanNumbers, walked. By an AI agent. No person has read it.
-/
import Derived.Test.YthjnkaikjjjceaaDoorPnPlnV
import Derived.Test.YthjnkaikjjjceaaDoorPnErrC
namespace Go.Proofs.YthjnkaikjjjceaaDoor
open Go.RowKit
theorem flat_lt {α : Type} (f : α → List Nat) (l : List α) (h : ∀ x ∈ l, ∀ b ∈ f x, b < 256) : ∀ b ∈ l.flatMap f, b < 256 := by
  intro b hb
  obtain ⟨x, hx, hb⟩ := List.mem_flatMap.1 hb
  exact h x hx b hb
theorem app_lt {a b : List Nat} (ha : ∀ x ∈ a, x < 256) (hb : ∀ x ∈ b, x < 256) : ∀ x ∈ a ++ b, x < 256 := by
  intro x hx
  rcases List.mem_append.1 hx with h | h
  · exact ha x h
  · exact hb x h
theorem Pl.bytes_lt (p : PlP) : ∀ x ∈ Pl.bytes p, x < 256 := by
  unfold Pl.bytes Pl.body
  refine app_lt (by decide) (app_lt (app_lt (app_lt (app_lt (app_lt (app_lt (app_lt (app_lt (app_lt (app_lt (Pk.le_lt _ _) (Pk.le_lt _ _)) (flat_lt _ _ fun v _ => app_lt (Pk.le_lt _ _) (Pk.desc_lt _ _))) (Pk.le_lt _ _)) (flat_lt _ _ fun t _ => Tens.bytes_lt _ _ _)) (Pk.le_lt _ _)) (flat_lt _ _ fun d _ => Pk.desc_lt _ _)) (Pk.le_lt _ _)) (flat_lt _ _ fun n _ => ?_)) (Pk.le_lt _ _)) (Pk.le_lt _ _))
  unfold InP.bytes Pl.nb
  exact app_lt (app_lt (app_lt (app_lt (app_lt (Pk.le_lt _ _) (Pk.le_lt _ _)) (app_lt (Pk.le_lt _ _) (Pk.all_lt _ _))) (app_lt (Pk.le_lt _ _) (Pk.all_lt _ _))) (Pk.le_lt _ _)) (Pk.le_lt _ _)
set_option maxHeartbeats 1000000 in
/-- Bytes, Read, Same of such a plan. -/
theorem pn_rest (es : List Addr) (ah am ar ae ak : Addr) (hes : TErrs es ah am ar ae ak) {w Y : World} (hZ : Ez w es) {S : Nat} {z off dst a b to inp out : Int} (h : PN w Y S z off dst a b to inp out) (ha : (Lit.int .i64 a).wf = true) (hb : (Lit.int .i64 b).wf = true)
    (n : Int) (hall : (Pl.far z || Pl.far off || Pl.far dst || Pl.far a || Pl.far b || Pl.far to || Pl.far inp || Pl.far out) = Pl.far n) :
    Calls Tryd.prog 10 #[.agg #[.int .i64 z, .slice (some ⟨S, 0, none⟩) 1 1, .slice none 0 0, .slice none 0 0, .slice (some ⟨S + 3, 0, none⟩) 1 1, .int .i64 inp, .int .i64 out]] Y fun e w' => ∃ (B : Option Addr) (c m : Nat) (ev : Value), e = .returned (.tuple #[.slice B m c, ev]) ∧ Hid (Below w.heap.size w w') ∧
      Hid ((-2147483648 ≤ n ∧ n ≤ 2147483647) → ev = .nilIface ∧ Hid (Calls Tryd.prog 11 #[.slice B m c] w' fun e2 w2 => ∃ q : Pn, e2 = .returned (.tuple #[.agg #[.int .i64 q.size, .slice q.V q.vs.length q.vc, .slice q.C q.cs.length q.cc, .slice q.L q.ls.length q.lc, .slice q.K q.is.length q.kc, .int .i64 q.inp, .int .i64 q.out], .nilIface]) ∧ Hid (PN w w2 S z off dst a b to inp out) ∧
        Hid (∀ W, Below w2.heap.size w2 W → Calls Tryd.prog 14 #[.agg #[.int .i64 z, .slice (some ⟨S, 0, none⟩) 1 1, .slice none 0 0, .slice none 0 0, .slice (some ⟨S + 3, 0, none⟩) 1 1, .int .i64 inp, .int .i64 out], .agg #[.int .i64 q.size, .slice q.V q.vs.length q.vc, .slice q.C q.cs.length q.cc, .slice q.L q.ls.length q.lc, .slice q.K q.is.length q.kc, .int .i64 q.inp, .int .i64 q.out]] W fun e3 w3 => e3 = .returned (.bool true) ∧ Below w.heap.size w w3))) ∧
      Hid (¬ (-2147483648 ≤ n ∧ n ≤ 2147483647) → m = 0 ∧ ∃ x, ev = errv x ∧ Hid (Calls Tryd.prog 17 #[errv x, .int .i64 102] w' fun e w'' => e = .returned (.bool true) ∧ Below w.heap.size w w'')) := by
  have hfl := Pl.one_fault S z off dst a b to inp out
  rw [hall, Pl.far_iff] at hfl
  have hin := h.in_ ha hb
  refine (show Calls Tryd.prog 10 #[.agg #[.int .i64 z, .slice (some ⟨S, 0, none⟩) 1 1, .slice none 0 0, .slice none 0 0, .slice (some ⟨S + 3, 0, none⟩) 1 1, .int .i64 inp, .int .i64 out]] Y _ from pbytes_c es ah am ar ae ak hes (Pn.one S z off dst a b to inp out) Y hin (hes.e3y (hZ.below h.bl).ey)).mono ?_
  rintro e w' ⟨⟨bv, ev, rfl, hev, ho⟩, hlow⟩
  have h2 := h.low hlow
  by_cases hr : -2147483648 ≤ n ∧ n ≤ 2147483647
  · rw [decide_eq_true hr, Bool.not_true, if_neg (by decide)] at hfl
    rw [hfl] at hev
    obtain rfl : ev = .nilIface := hev
    have houts : Pl.outs (Pn.one S z off dst a b to inp out) = Pl.bytes (Pn.one S z off dst a b to inp out).pl := by unfold Pl.outs; rw [if_pos hfl]
    rw [houts] at ho
    have hlt : ∀ x ∈ Pl.bytes (Pn.one S z off dst a b to inp out).pl, x < 256 := Pl.bytes_lt _
    have hlen : (Pl.bytes (Pn.one S z off dst a b to inp out).pl).length = 50 := rfl
    obtain ⟨bk1, bk2⟩ := Pl.back _ hfl
    obtain ⟨B, c, rfl, -, hcc, -, hrb⟩ := own_rb ho hlt
    refine ⟨B, c, _, _, rfl, hide h2.bl, hide fun _ => ⟨rfl, hide ?_⟩, hide fun hno => absurd hr hno⟩
    have hey : Ey w' es := (hZ.below h2.bl).ey
    refine (read_m (W := w') (A := B) (bs := Pl.bytes (Pn.one S z off dst a b to inp out).pl) (cap := c) (es := es) (ae := ae) (am := am) (ak := ak) ⟨hrb, hey, hcc, by rw [hlen]; omega, hes.2.2.2.1, hes.2.1, hes.2.2.2.2⟩ ah ar hes).mono ?_
    rintro e2 w2 ⟨hri, hb2⟩
    obtain ⟨y, q, ev, hy, rfl, HPL, hpw, hev⟩ := ReadIs.open_ hri
    have hyn : y = none := hy.out.symm.trans bk1
    subst hyn
    obtain rfl : ev = .nilIface := hev
    have h3 := h2.low hb2
    refine ⟨q, rfl, hide h3, hide fun W hW => ?_⟩
    have hqin := (Pl.read_in hpw HPL.out).below hW
    have h4 := h3.low hW
    have hpl : (Pn.one S z off dst a b to inp out).pl = q.pl := by rw [HPL.out, bk2]
    refine (show Calls Tryd.prog 14 #[.agg #[.int .i64 z, .slice (some ⟨S, 0, none⟩) 1 1, .slice none 0 0, .slice none 0 0, .slice (some ⟨S + 3, 0, none⟩) 1 1, .int .i64 inp, .int .i64 out], .agg #[.int .i64 q.size, .slice q.V q.vs.length q.vc, .slice q.C q.cs.length q.cc, .slice q.L q.ls.length q.lc, .slice q.K q.is.length q.kc, .int .i64 q.inp, .int .i64 q.out]] W _ from psame_c (Pn.one S z off dst a b to inp out) q W (h4.in_ ha hb) hqin).mono ?_
    rintro e3 w3 ⟨rfl, hb3⟩
    rw [decide_eq_true hpl]
    exact ⟨rfl, h4.bl.trans (hb3.mono h4.bl.size)⟩
  · rw [decide_eq_false hr, Bool.not_false, if_pos rfl] at hfl
    rw [hfl] at hev
    obtain ⟨x, hx, rfl⟩ : ∃ x, es[1]? = some x ∧ ev = errv x := hev
    have houts : Pl.outs (Pn.one S z off dst a b to inp out) = [] := by unfold Pl.outs; rw [if_neg (by rw [hfl]; simp)]
    rw [houts] at ho
    obtain ⟨B, c, rfl, -⟩ := own_row ho
    refine ⟨B, c, _, _, rfl, hide h2.bl, hide fun hyes => absurd hyes hr, hide fun _ => ⟨rfl, x, rfl, hide ?_⟩⟩
    refine (is_c es 1 x hx 102 w' (hZ.below h2.bl)).mono ?_
    rintro e w'' ⟨rfl, hb3⟩
    exact ⟨rfl, h2.bl.trans (hb3.mono h2.bl.size)⟩
set_option maxRecDepth 100000 in
set_option maxHeartbeats 16000000 in
theorem plannumbers_c (n f : Int) (es : List Addr) (w : World) (hn : (Lit.int .i64 n).wf = true) (hZ : Ez w es) :
    Calls Tryd.prog 7 #[.int .i64 n, .int .i64 f] w fun e w' => e = .returned (.bool true) ∧ Below w.heap.size w w' := by
  obtain ⟨ah, am, ar, ae, ak, hes⟩ := terrs_of hZ
  have HF := hide (first14_c es ah am ar ae ak hes w (hes.e3y hZ.ey))
  have HZ := hide hZ
  have HES := hide hes
  have HW := hide hn
  have HNV := hide (fun W : World => number_v f 8 (by omega) (by omega) 8 rfl W)
  have hk8 : numv f 8 < 8 := numv_lt f 8 (by omega)
  obtain ⟨k, hk⟩ : ∃ k, Hid (numv f 8 = k) := ⟨_, hide rfl⟩
  rw [hk.out] at HNV hk8
  have f1 : Pl.far 1 = false := by decide
  have f2 : Pl.far 2 = false := by decide
  have f0 : Pl.far 0 = false := by decide
  have HF0 := hide f0
  have HF1 := hide f1
  have HF2 := hide f2
  clear hZ hes hn f0 f1 f2 hk
  go_enter Tryd.func7, Tryd.ntmps7
  go_wp2_with fail
  refine HF.out.mono ?_
  rintro e w1 ⟨rfl, hb⟩
  have HB1 := hide hb
  clear hb HF
  obtain ⟨S, hS⟩ : ∃ S, Hid (w1.heap.size = S) := ⟨_, hide rfl⟩
  obtain ⟨X, hX⟩ : ∃ X, Hid (((((w1.alloc (.cells #[.int .i64 0, .slice none 0 0, .bool false] 61)).alloc (.cells #[.int .i64 1] 3)).alloc (.cells #[.int .i64 2] 3)).alloc (.cells #[.int .i64 22, .int .i64 0, .slice (some ⟨S + 2, 0, none⟩) 1 1, .slice (some ⟨S + 1, 0, none⟩) 1 1, .int .i64 0, .int .i64 0] 48)).alloc (.cells #[.int .i64 0, .slice (some ⟨S, 0, none⟩) 1 1, .slice none 0 0, .slice none 0 0, .slice (some ⟨S + 3, 0, none⟩) 1 1, .int .i64 0, .int .i64 0] 27) = X) := ⟨_, hide rfl⟩
  have HPN : Hid (PN w X S 0 0 0 1 2 0 0 0) := hide (by
    rw [← hX.out]
    have hs := hS.out
    have n1 := Has.new w1 61 [.int .i64 0, .slice none 0 0, .bool false]
    have n2 := Has.new (w1.alloc (.cells #[.int .i64 0, .slice none 0 0, .bool false] 61)) 3 [.int .i64 1]
    have n3 := Has.new ((w1.alloc (.cells #[.int .i64 0, .slice none 0 0, .bool false] 61)).alloc (.cells #[.int .i64 1] 3)) 3 [.int .i64 2]
    have n4 := Has.new (((w1.alloc (.cells #[.int .i64 0, .slice none 0 0, .bool false] 61)).alloc (.cells #[.int .i64 1] 3)).alloc (.cells #[.int .i64 2] 3)) 48 [.int .i64 22, .int .i64 0, .slice (some ⟨S + 2, 0, none⟩) 1 1, .slice (some ⟨S + 1, 0, none⟩) 1 1, .int .i64 0, .int .i64 0]
    have n5 := Has.new ((((w1.alloc (.cells #[.int .i64 0, .slice none 0 0, .bool false] 61)).alloc (.cells #[.int .i64 1] 3)).alloc (.cells #[.int .i64 2] 3)).alloc (.cells #[.int .i64 22, .int .i64 0, .slice (some ⟨S + 2, 0, none⟩) 1 1, .slice (some ⟨S + 1, 0, none⟩) 1 1, .int .i64 0, .int .i64 0] 48)) 27 [.int .i64 0, .slice (some ⟨S, 0, none⟩) 1 1, .slice none 0 0, .slice none 0 0, .slice (some ⟨S + 3, 0, none⟩) 1 1, .int .i64 0, .int .i64 0]
    have s2 : (w1.alloc (.cells #[.int .i64 0, .slice none 0 0, .bool false] 61)).heap.size = S + 1 := by simp [hs]
    have s3 : ((w1.alloc (.cells #[.int .i64 0, .slice none 0 0, .bool false] 61)).alloc (.cells #[.int .i64 1] 3)).heap.size = S + 2 := by simp [hs]
    have s4 : (((w1.alloc (.cells #[.int .i64 0, .slice none 0 0, .bool false] 61)).alloc (.cells #[.int .i64 1] 3)).alloc (.cells #[.int .i64 2] 3)).heap.size = S + 3 := by simp [hs]
    have s5 : ((((w1.alloc (.cells #[.int .i64 0, .slice none 0 0, .bool false] 61)).alloc (.cells #[.int .i64 1] 3)).alloc (.cells #[.int .i64 2] 3)).alloc (.cells #[.int .i64 22, .int .i64 0, .slice (some ⟨S + 2, 0, none⟩) 1 1, .slice (some ⟨S + 1, 0, none⟩) 1 1, .int .i64 0, .int .i64 0] 48)).heap.size = S + 4 := by simp [hs]
    rw [hs] at n1
    rw [s2] at n2
    rw [s3] at n3
    rw [s4] at n4
    rw [s5] at n5
    have hle := HB1.out.size
    refine ⟨(((n1.alloc _).alloc _).alloc _).alloc _, ((n2.alloc _).alloc _).alloc _, (n3.alloc _).alloc _, n4.alloc _, n5, ?_, by omega⟩
    exact ((((HB1.out.alloc hle _).alloc (by simp; omega) _).alloc (by simp; omega) _).alloc (by simp; omega) _).alloc (by simp; omega) _)
  go_wp2_with fail
  rw [hS.out]
  rw [show S + 1 + 1 = S + 2 from rfl, show S + 1 + 1 + 1 = S + 3 from rfl, show S + 1 + 1 + 1 + 1 = S + 4 from rfl]
  rw [hX.out]
  refine (HNV.out X).mono ?_
  rintro e w2 ⟨rfl, rfl⟩
  have p0 := HPN.out.p.cell 0
  have p1 := HPN.out.p.cell 1
  have p4 := HPN.out.p.cell 4
  have p5 := HPN.out.p.cell 5
  have p6 := HPN.out.p.cell 6
  have v0 := HPN.out.v.cell 0
  have a0 := HPN.out.a.cell 0
  have b0 := HPN.out.b.cell 0
  have k1 := HPN.out.k.cell 1
  have k2 := HPN.out.k.cell 2
  have k3 := HPN.out.k.cell 3
  have k5 := HPN.out.k.cell 5
  simp only [List.getElem?_cons_zero, List.getElem?_cons_succ] at p0 p1 p4 p5 p6 v0 a0 b0 k1 k2 k3 k5
  have q0 := HPN.out.p.frozen 0
  have q5 := HPN.out.p.frozen 5
  have q6 := HPN.out.p.frozen 6
  have vf := HPN.out.v.frozen 0
  have af := HPN.out.a.frozen 0
  have bf := HPN.out.b.frozen 0
  have kf1 := HPN.out.k.frozen 1
  have kf5 := HPN.out.k.frozen 5
  have l0 := HPN.out.v.lt
  have l1 := HPN.out.a.lt
  have l2 := HPN.out.b.lt
  have l3 := HPN.out.k.lt
  have l4 := HPN.out.p.lt
  clear hX HNV hS
  have hcase : k = 0 ∨ k = 1 ∨ k = 2 ∨ k = 3 ∨ k = 4 ∨ k = 5 ∨ k = 6 ∨ k = 7 := by omega
  clear hk8
  rcases hcase with rfl | rfl | rfl | rfl | rfl | rfl | rfl | rfl
  · have HY := hide (HPN.out.setp 0 (.int .i64 n) n 0 0 rfl)
    have HR := hide (pn_rest es ah am ar ae ak HES.out HZ.out HY.out rfl rfl n (by simp only [HF0.out, HF1.out, HF2.out, Bool.or_false]))
    have y0 := HY.out.p.cell 0
    have y1 := HY.out.p.cell 1
    have y2 := HY.out.p.cell 2
    have y3 := HY.out.p.cell 3
    have y4 := HY.out.p.cell 4
    have y5 := HY.out.p.cell 5
    have y6 := HY.out.p.cell 6
    simp only [List.getElem?_cons_zero, List.getElem?_cons_succ] at y0 y1 y2 y3 y4 y5 y6
    clear HPN HY
    go_wp2_with fail
    refine HR.out.mono ?_
    clear y0 y1 y2 y3 y4 y5 y6 p0 p1 p4 p5 p6 v0 a0 b0 k1 k2 k3 k5 q0 q5 q6 vf af bf kf1 kf5 l0 l1 l2 l3 l4
    rintro e w3 ⟨B, c, m, ev, rfl, hb3, hyes, hno⟩
    clear HR
    by_cases hr : -2147483648 ≤ n ∧ n ≤ 2147483647
    · obtain ⟨rfl, HRD⟩ := hyes.out hr
      obtain ⟨r1, r2⟩ := hr
      have r1' : ¬ n < -2147483648 := by omega
      have r2' : ¬ 2147483647 < n := by omega
      clear hyes hno
      go_wp2_with fail
      refine HRD.out.mono ?_
      rintro e w4 ⟨q, rfl, HP4, HSM⟩
      have hb4 := (Below.refl w4.heap.size w4).alloc (Nat.le_refl _) (.cells #[.int .i64 q.size, .slice q.V q.vs.length q.vc, .slice q.C q.cs.length q.cc, .slice q.L q.ls.length q.lc, .slice q.K q.is.length q.kc, .int .i64 q.inp, .int .i64 q.out] 27)
      have HS4 := hide (HSM.out _ hb4)
      have h5 := HP4.out.low hb4
      have z0 := h5.p.cell 0
      have z1 := h5.p.cell 1
      have z2 := h5.p.cell 2
      have z3 := h5.p.cell 3
      have z4 := h5.p.cell 4
      have z5 := h5.p.cell 5
      have z6 := h5.p.cell 6
      simp only [List.getElem?_cons_zero, List.getElem?_cons_succ] at z0 z1 z2 z3 z4 z5 z6
      clear hb4 h5 HSM HP4 HRD
      go_wp2_with fail
      refine HS4.out.mono ?_
      rintro e w5 ⟨rfl, hb5⟩
      have HB5 := hide hb5
      clear hb5 HS4
      go_wp2_with fail
      go_ret
      exact ⟨rfl, HB5.out⟩
    · obtain ⟨rfl, x, rfl, HIS⟩ := hno.out hr
      clear hyes hno
      rcases Int.lt_or_le n (-2147483648) with r1 | r1
      · clear hr
        go_wp2_with fail
        refine HIS.out.mono ?_
        rintro e w5 ⟨rfl, hb5⟩
        have HB5 := hide hb5
        clear hb5 HIS
        go_wp2_with fail
        go_ret
        exact ⟨rfl, HB5.out⟩
      · have r2 : 2147483647 < n := by omega
        have r1' : ¬ n < -2147483648 := by omega
        clear hr
        go_wp2_with fail
        refine HIS.out.mono ?_
        rintro e w5 ⟨rfl, hb5⟩
        have HB5 := hide hb5
        clear hb5 HIS
        go_wp2_with fail
        go_ret
        exact ⟨rfl, HB5.out⟩
  · have HY := hide (HPN.out.setp 5 (.int .i64 n) 0 n 0 rfl)
    have HR := hide (pn_rest es ah am ar ae ak HES.out HZ.out HY.out rfl rfl n (by simp only [HF0.out, HF1.out, HF2.out, Bool.false_or, Bool.or_false]))
    have y0 := HY.out.p.cell 0
    have y1 := HY.out.p.cell 1
    have y2 := HY.out.p.cell 2
    have y3 := HY.out.p.cell 3
    have y4 := HY.out.p.cell 4
    have y5 := HY.out.p.cell 5
    have y6 := HY.out.p.cell 6
    simp only [List.getElem?_cons_zero, List.getElem?_cons_succ] at y0 y1 y2 y3 y4 y5 y6
    clear HPN HY
    go_wp2_with fail
    refine HR.out.mono ?_
    clear y0 y1 y2 y3 y4 y5 y6 p0 p1 p4 p5 p6 v0 a0 b0 k1 k2 k3 k5 q0 q5 q6 vf af bf kf1 kf5 l0 l1 l2 l3 l4
    rintro e w3 ⟨B, c, m, ev, rfl, hb3, hyes, hno⟩
    clear HR
    by_cases hr : -2147483648 ≤ n ∧ n ≤ 2147483647
    · obtain ⟨rfl, HRD⟩ := hyes.out hr
      obtain ⟨r1, r2⟩ := hr
      have r1' : ¬ n < -2147483648 := by omega
      have r2' : ¬ 2147483647 < n := by omega
      clear hyes hno
      go_wp2_with fail
      refine HRD.out.mono ?_
      rintro e w4 ⟨q, rfl, HP4, HSM⟩
      have hb4 := (Below.refl w4.heap.size w4).alloc (Nat.le_refl _) (.cells #[.int .i64 q.size, .slice q.V q.vs.length q.vc, .slice q.C q.cs.length q.cc, .slice q.L q.ls.length q.lc, .slice q.K q.is.length q.kc, .int .i64 q.inp, .int .i64 q.out] 27)
      have HS4 := hide (HSM.out _ hb4)
      have h5 := HP4.out.low hb4
      have z0 := h5.p.cell 0
      have z1 := h5.p.cell 1
      have z2 := h5.p.cell 2
      have z3 := h5.p.cell 3
      have z4 := h5.p.cell 4
      have z5 := h5.p.cell 5
      have z6 := h5.p.cell 6
      simp only [List.getElem?_cons_zero, List.getElem?_cons_succ] at z0 z1 z2 z3 z4 z5 z6
      clear hb4 h5 HSM HP4 HRD
      go_wp2_with fail
      refine HS4.out.mono ?_
      rintro e w5 ⟨rfl, hb5⟩
      have HB5 := hide hb5
      clear hb5 HS4
      go_wp2_with fail
      go_ret
      exact ⟨rfl, HB5.out⟩
    · obtain ⟨rfl, x, rfl, HIS⟩ := hno.out hr
      clear hyes hno
      rcases Int.lt_or_le n (-2147483648) with r1 | r1
      · clear hr
        go_wp2_with fail
        refine HIS.out.mono ?_
        rintro e w5 ⟨rfl, hb5⟩
        have HB5 := hide hb5
        clear hb5 HIS
        go_wp2_with fail
        go_ret
        exact ⟨rfl, HB5.out⟩
      · have r2 : 2147483647 < n := by omega
        have r1' : ¬ n < -2147483648 := by omega
        clear hr
        go_wp2_with fail
        refine HIS.out.mono ?_
        rintro e w5 ⟨rfl, hb5⟩
        have HB5 := hide hb5
        clear hb5 HIS
        go_wp2_with fail
        go_ret
        exact ⟨rfl, HB5.out⟩
  · have HY := hide (HPN.out.setp 6 (.int .i64 n) 0 0 n rfl)
    have HR := hide (pn_rest es ah am ar ae ak HES.out HZ.out HY.out rfl rfl n (by simp only [HF0.out, HF1.out, HF2.out, Bool.false_or, Bool.or_false]))
    have y0 := HY.out.p.cell 0
    have y1 := HY.out.p.cell 1
    have y2 := HY.out.p.cell 2
    have y3 := HY.out.p.cell 3
    have y4 := HY.out.p.cell 4
    have y5 := HY.out.p.cell 5
    have y6 := HY.out.p.cell 6
    simp only [List.getElem?_cons_zero, List.getElem?_cons_succ] at y0 y1 y2 y3 y4 y5 y6
    clear HPN HY
    go_wp2_with fail
    refine HR.out.mono ?_
    clear y0 y1 y2 y3 y4 y5 y6 p0 p1 p4 p5 p6 v0 a0 b0 k1 k2 k3 k5 q0 q5 q6 vf af bf kf1 kf5 l0 l1 l2 l3 l4
    rintro e w3 ⟨B, c, m, ev, rfl, hb3, hyes, hno⟩
    clear HR
    by_cases hr : -2147483648 ≤ n ∧ n ≤ 2147483647
    · obtain ⟨rfl, HRD⟩ := hyes.out hr
      obtain ⟨r1, r2⟩ := hr
      have r1' : ¬ n < -2147483648 := by omega
      have r2' : ¬ 2147483647 < n := by omega
      clear hyes hno
      go_wp2_with fail
      refine HRD.out.mono ?_
      rintro e w4 ⟨q, rfl, HP4, HSM⟩
      have hb4 := (Below.refl w4.heap.size w4).alloc (Nat.le_refl _) (.cells #[.int .i64 q.size, .slice q.V q.vs.length q.vc, .slice q.C q.cs.length q.cc, .slice q.L q.ls.length q.lc, .slice q.K q.is.length q.kc, .int .i64 q.inp, .int .i64 q.out] 27)
      have HS4 := hide (HSM.out _ hb4)
      have h5 := HP4.out.low hb4
      have z0 := h5.p.cell 0
      have z1 := h5.p.cell 1
      have z2 := h5.p.cell 2
      have z3 := h5.p.cell 3
      have z4 := h5.p.cell 4
      have z5 := h5.p.cell 5
      have z6 := h5.p.cell 6
      simp only [List.getElem?_cons_zero, List.getElem?_cons_succ] at z0 z1 z2 z3 z4 z5 z6
      clear hb4 h5 HSM HP4 HRD
      go_wp2_with fail
      refine HS4.out.mono ?_
      rintro e w5 ⟨rfl, hb5⟩
      have HB5 := hide hb5
      clear hb5 HS4
      go_wp2_with fail
      go_ret
      exact ⟨rfl, HB5.out⟩
    · obtain ⟨rfl, x, rfl, HIS⟩ := hno.out hr
      clear hyes hno
      rcases Int.lt_or_le n (-2147483648) with r1 | r1
      · clear hr
        go_wp2_with fail
        refine HIS.out.mono ?_
        rintro e w5 ⟨rfl, hb5⟩
        have HB5 := hide hb5
        clear hb5 HIS
        go_wp2_with fail
        go_ret
        exact ⟨rfl, HB5.out⟩
      · have r2 : 2147483647 < n := by omega
        have r1' : ¬ n < -2147483648 := by omega
        clear hr
        go_wp2_with fail
        refine HIS.out.mono ?_
        rintro e w5 ⟨rfl, hb5⟩
        have HB5 := hide hb5
        clear hb5 HIS
        go_wp2_with fail
        go_ret
        exact ⟨rfl, HB5.out⟩
  · have HY := hide (HPN.out.setv n)
    have HR := hide (pn_rest es ah am ar ae ak HES.out HZ.out HY.out rfl rfl n (by simp only [HF0.out, HF1.out, HF2.out, Bool.false_or, Bool.or_false]))
    have y0 := HY.out.p.cell 0
    have y1 := HY.out.p.cell 1
    have y2 := HY.out.p.cell 2
    have y3 := HY.out.p.cell 3
    have y4 := HY.out.p.cell 4
    have y5 := HY.out.p.cell 5
    have y6 := HY.out.p.cell 6
    simp only [List.getElem?_cons_zero, List.getElem?_cons_succ] at y0 y1 y2 y3 y4 y5 y6
    clear HPN HY
    go_wp2_with fail
    refine HR.out.mono ?_
    clear y0 y1 y2 y3 y4 y5 y6 p0 p1 p4 p5 p6 v0 a0 b0 k1 k2 k3 k5 q0 q5 q6 vf af bf kf1 kf5 l0 l1 l2 l3 l4
    rintro e w3 ⟨B, c, m, ev, rfl, hb3, hyes, hno⟩
    clear HR
    by_cases hr : -2147483648 ≤ n ∧ n ≤ 2147483647
    · obtain ⟨rfl, HRD⟩ := hyes.out hr
      obtain ⟨r1, r2⟩ := hr
      have r1' : ¬ n < -2147483648 := by omega
      have r2' : ¬ 2147483647 < n := by omega
      clear hyes hno
      go_wp2_with fail
      refine HRD.out.mono ?_
      rintro e w4 ⟨q, rfl, HP4, HSM⟩
      have hb4 := (Below.refl w4.heap.size w4).alloc (Nat.le_refl _) (.cells #[.int .i64 q.size, .slice q.V q.vs.length q.vc, .slice q.C q.cs.length q.cc, .slice q.L q.ls.length q.lc, .slice q.K q.is.length q.kc, .int .i64 q.inp, .int .i64 q.out] 27)
      have HS4 := hide (HSM.out _ hb4)
      have h5 := HP4.out.low hb4
      have z0 := h5.p.cell 0
      have z1 := h5.p.cell 1
      have z2 := h5.p.cell 2
      have z3 := h5.p.cell 3
      have z4 := h5.p.cell 4
      have z5 := h5.p.cell 5
      have z6 := h5.p.cell 6
      simp only [List.getElem?_cons_zero, List.getElem?_cons_succ] at z0 z1 z2 z3 z4 z5 z6
      clear hb4 h5 HSM HP4 HRD
      go_wp2_with fail
      refine HS4.out.mono ?_
      rintro e w5 ⟨rfl, hb5⟩
      have HB5 := hide hb5
      clear hb5 HS4
      go_wp2_with fail
      go_ret
      exact ⟨rfl, HB5.out⟩
    · obtain ⟨rfl, x, rfl, HIS⟩ := hno.out hr
      clear hyes hno
      rcases Int.lt_or_le n (-2147483648) with r1 | r1
      · clear hr
        go_wp2_with fail
        refine HIS.out.mono ?_
        rintro e w5 ⟨rfl, hb5⟩
        have HB5 := hide hb5
        clear hb5 HIS
        go_wp2_with fail
        go_ret
        exact ⟨rfl, HB5.out⟩
      · have r2 : 2147483647 < n := by omega
        have r1' : ¬ n < -2147483648 := by omega
        clear hr
        go_wp2_with fail
        refine HIS.out.mono ?_
        rintro e w5 ⟨rfl, hb5⟩
        have HB5 := hide hb5
        clear hb5 HIS
        go_wp2_with fail
        go_ret
        exact ⟨rfl, HB5.out⟩
  · have HY := hide (HPN.out.setd n)
    have HR := hide (pn_rest es ah am ar ae ak HES.out HZ.out HY.out rfl rfl n (by simp only [HF0.out, HF1.out, HF2.out, Bool.false_or, Bool.or_false]))
    have y0 := HY.out.p.cell 0
    have y1 := HY.out.p.cell 1
    have y2 := HY.out.p.cell 2
    have y3 := HY.out.p.cell 3
    have y4 := HY.out.p.cell 4
    have y5 := HY.out.p.cell 5
    have y6 := HY.out.p.cell 6
    simp only [List.getElem?_cons_zero, List.getElem?_cons_succ] at y0 y1 y2 y3 y4 y5 y6
    clear HPN HY
    go_wp2_with fail
    refine HR.out.mono ?_
    clear y0 y1 y2 y3 y4 y5 y6 p0 p1 p4 p5 p6 v0 a0 b0 k1 k2 k3 k5 q0 q5 q6 vf af bf kf1 kf5 l0 l1 l2 l3 l4
    rintro e w3 ⟨B, c, m, ev, rfl, hb3, hyes, hno⟩
    clear HR
    by_cases hr : -2147483648 ≤ n ∧ n ≤ 2147483647
    · obtain ⟨rfl, HRD⟩ := hyes.out hr
      obtain ⟨r1, r2⟩ := hr
      have r1' : ¬ n < -2147483648 := by omega
      have r2' : ¬ 2147483647 < n := by omega
      clear hyes hno
      go_wp2_with fail
      refine HRD.out.mono ?_
      rintro e w4 ⟨q, rfl, HP4, HSM⟩
      have hb4 := (Below.refl w4.heap.size w4).alloc (Nat.le_refl _) (.cells #[.int .i64 q.size, .slice q.V q.vs.length q.vc, .slice q.C q.cs.length q.cc, .slice q.L q.ls.length q.lc, .slice q.K q.is.length q.kc, .int .i64 q.inp, .int .i64 q.out] 27)
      have HS4 := hide (HSM.out _ hb4)
      have h5 := HP4.out.low hb4
      have z0 := h5.p.cell 0
      have z1 := h5.p.cell 1
      have z2 := h5.p.cell 2
      have z3 := h5.p.cell 3
      have z4 := h5.p.cell 4
      have z5 := h5.p.cell 5
      have z6 := h5.p.cell 6
      simp only [List.getElem?_cons_zero, List.getElem?_cons_succ] at z0 z1 z2 z3 z4 z5 z6
      clear hb4 h5 HSM HP4 HRD
      go_wp2_with fail
      refine HS4.out.mono ?_
      rintro e w5 ⟨rfl, hb5⟩
      have HB5 := hide hb5
      clear hb5 HS4
      go_wp2_with fail
      go_ret
      exact ⟨rfl, HB5.out⟩
    · obtain ⟨rfl, x, rfl, HIS⟩ := hno.out hr
      clear hyes hno
      rcases Int.lt_or_le n (-2147483648) with r1 | r1
      · clear hr
        go_wp2_with fail
        refine HIS.out.mono ?_
        rintro e w5 ⟨rfl, hb5⟩
        have HB5 := hide hb5
        clear hb5 HIS
        go_wp2_with fail
        go_ret
        exact ⟨rfl, HB5.out⟩
      · have r2 : 2147483647 < n := by omega
        have r1' : ¬ n < -2147483648 := by omega
        clear hr
        go_wp2_with fail
        refine HIS.out.mono ?_
        rintro e w5 ⟨rfl, hb5⟩
        have HB5 := hide hb5
        clear hb5 HIS
        go_wp2_with fail
        go_ret
        exact ⟨rfl, HB5.out⟩
  · have HY := hide (HPN.out.seta n)
    have HR := hide (pn_rest es ah am ar ae ak HES.out HZ.out HY.out HW.out rfl n (by simp only [HF0.out, HF2.out, Bool.false_or, Bool.or_false]))
    have y0 := HY.out.p.cell 0
    have y1 := HY.out.p.cell 1
    have y2 := HY.out.p.cell 2
    have y3 := HY.out.p.cell 3
    have y4 := HY.out.p.cell 4
    have y5 := HY.out.p.cell 5
    have y6 := HY.out.p.cell 6
    simp only [List.getElem?_cons_zero, List.getElem?_cons_succ] at y0 y1 y2 y3 y4 y5 y6
    clear HPN HY
    go_wp2_with fail
    refine HR.out.mono ?_
    clear y0 y1 y2 y3 y4 y5 y6 p0 p1 p4 p5 p6 v0 a0 b0 k1 k2 k3 k5 q0 q5 q6 vf af bf kf1 kf5 l0 l1 l2 l3 l4
    rintro e w3 ⟨B, c, m, ev, rfl, hb3, hyes, hno⟩
    clear HR
    by_cases hr : -2147483648 ≤ n ∧ n ≤ 2147483647
    · obtain ⟨rfl, HRD⟩ := hyes.out hr
      obtain ⟨r1, r2⟩ := hr
      have r1' : ¬ n < -2147483648 := by omega
      have r2' : ¬ 2147483647 < n := by omega
      clear hyes hno
      go_wp2_with fail
      refine HRD.out.mono ?_
      rintro e w4 ⟨q, rfl, HP4, HSM⟩
      have hb4 := (Below.refl w4.heap.size w4).alloc (Nat.le_refl _) (.cells #[.int .i64 q.size, .slice q.V q.vs.length q.vc, .slice q.C q.cs.length q.cc, .slice q.L q.ls.length q.lc, .slice q.K q.is.length q.kc, .int .i64 q.inp, .int .i64 q.out] 27)
      have HS4 := hide (HSM.out _ hb4)
      have h5 := HP4.out.low hb4
      have z0 := h5.p.cell 0
      have z1 := h5.p.cell 1
      have z2 := h5.p.cell 2
      have z3 := h5.p.cell 3
      have z4 := h5.p.cell 4
      have z5 := h5.p.cell 5
      have z6 := h5.p.cell 6
      simp only [List.getElem?_cons_zero, List.getElem?_cons_succ] at z0 z1 z2 z3 z4 z5 z6
      clear hb4 h5 HSM HP4 HRD
      go_wp2_with fail
      refine HS4.out.mono ?_
      rintro e w5 ⟨rfl, hb5⟩
      have HB5 := hide hb5
      clear hb5 HS4
      go_wp2_with fail
      go_ret
      exact ⟨rfl, HB5.out⟩
    · obtain ⟨rfl, x, rfl, HIS⟩ := hno.out hr
      clear hyes hno
      rcases Int.lt_or_le n (-2147483648) with r1 | r1
      · clear hr
        go_wp2_with fail
        refine HIS.out.mono ?_
        rintro e w5 ⟨rfl, hb5⟩
        have HB5 := hide hb5
        clear hb5 HIS
        go_wp2_with fail
        go_ret
        exact ⟨rfl, HB5.out⟩
      · have r2 : 2147483647 < n := by omega
        have r1' : ¬ n < -2147483648 := by omega
        clear hr
        go_wp2_with fail
        refine HIS.out.mono ?_
        rintro e w5 ⟨rfl, hb5⟩
        have HB5 := hide hb5
        clear hb5 HIS
        go_wp2_with fail
        go_ret
        exact ⟨rfl, HB5.out⟩
  · have HY := hide (HPN.out.setb n)
    have HR := hide (pn_rest es ah am ar ae ak HES.out HZ.out HY.out rfl HW.out n (by simp only [HF0.out, HF1.out, Bool.false_or, Bool.or_false]))
    have y0 := HY.out.p.cell 0
    have y1 := HY.out.p.cell 1
    have y2 := HY.out.p.cell 2
    have y3 := HY.out.p.cell 3
    have y4 := HY.out.p.cell 4
    have y5 := HY.out.p.cell 5
    have y6 := HY.out.p.cell 6
    simp only [List.getElem?_cons_zero, List.getElem?_cons_succ] at y0 y1 y2 y3 y4 y5 y6
    clear HPN HY
    go_wp2_with fail
    refine HR.out.mono ?_
    clear y0 y1 y2 y3 y4 y5 y6 p0 p1 p4 p5 p6 v0 a0 b0 k1 k2 k3 k5 q0 q5 q6 vf af bf kf1 kf5 l0 l1 l2 l3 l4
    rintro e w3 ⟨B, c, m, ev, rfl, hb3, hyes, hno⟩
    clear HR
    by_cases hr : -2147483648 ≤ n ∧ n ≤ 2147483647
    · obtain ⟨rfl, HRD⟩ := hyes.out hr
      obtain ⟨r1, r2⟩ := hr
      have r1' : ¬ n < -2147483648 := by omega
      have r2' : ¬ 2147483647 < n := by omega
      clear hyes hno
      go_wp2_with fail
      refine HRD.out.mono ?_
      rintro e w4 ⟨q, rfl, HP4, HSM⟩
      have hb4 := (Below.refl w4.heap.size w4).alloc (Nat.le_refl _) (.cells #[.int .i64 q.size, .slice q.V q.vs.length q.vc, .slice q.C q.cs.length q.cc, .slice q.L q.ls.length q.lc, .slice q.K q.is.length q.kc, .int .i64 q.inp, .int .i64 q.out] 27)
      have HS4 := hide (HSM.out _ hb4)
      have h5 := HP4.out.low hb4
      have z0 := h5.p.cell 0
      have z1 := h5.p.cell 1
      have z2 := h5.p.cell 2
      have z3 := h5.p.cell 3
      have z4 := h5.p.cell 4
      have z5 := h5.p.cell 5
      have z6 := h5.p.cell 6
      simp only [List.getElem?_cons_zero, List.getElem?_cons_succ] at z0 z1 z2 z3 z4 z5 z6
      clear hb4 h5 HSM HP4 HRD
      go_wp2_with fail
      refine HS4.out.mono ?_
      rintro e w5 ⟨rfl, hb5⟩
      have HB5 := hide hb5
      clear hb5 HS4
      go_wp2_with fail
      go_ret
      exact ⟨rfl, HB5.out⟩
    · obtain ⟨rfl, x, rfl, HIS⟩ := hno.out hr
      clear hyes hno
      rcases Int.lt_or_le n (-2147483648) with r1 | r1
      · clear hr
        go_wp2_with fail
        refine HIS.out.mono ?_
        rintro e w5 ⟨rfl, hb5⟩
        have HB5 := hide hb5
        clear hb5 HIS
        go_wp2_with fail
        go_ret
        exact ⟨rfl, HB5.out⟩
      · have r2 : 2147483647 < n := by omega
        have r1' : ¬ n < -2147483648 := by omega
        clear hr
        go_wp2_with fail
        refine HIS.out.mono ?_
        rintro e w5 ⟨rfl, hb5⟩
        have HB5 := hide hb5
        clear hb5 HIS
        go_wp2_with fail
        go_ret
        exact ⟨rfl, HB5.out⟩
  · have HY := hide (HPN.out.sett n)
    have HR := hide (pn_rest es ah am ar ae ak HES.out HZ.out HY.out rfl rfl n (by simp only [HF0.out, HF1.out, HF2.out, Bool.false_or, Bool.or_false]))
    have y0 := HY.out.p.cell 0
    have y1 := HY.out.p.cell 1
    have y2 := HY.out.p.cell 2
    have y3 := HY.out.p.cell 3
    have y4 := HY.out.p.cell 4
    have y5 := HY.out.p.cell 5
    have y6 := HY.out.p.cell 6
    simp only [List.getElem?_cons_zero, List.getElem?_cons_succ] at y0 y1 y2 y3 y4 y5 y6
    clear HPN HY
    go_wp2_with fail
    refine HR.out.mono ?_
    clear y0 y1 y2 y3 y4 y5 y6 p0 p1 p4 p5 p6 v0 a0 b0 k1 k2 k3 k5 q0 q5 q6 vf af bf kf1 kf5 l0 l1 l2 l3 l4
    rintro e w3 ⟨B, c, m, ev, rfl, hb3, hyes, hno⟩
    clear HR
    by_cases hr : -2147483648 ≤ n ∧ n ≤ 2147483647
    · obtain ⟨rfl, HRD⟩ := hyes.out hr
      obtain ⟨r1, r2⟩ := hr
      have r1' : ¬ n < -2147483648 := by omega
      have r2' : ¬ 2147483647 < n := by omega
      clear hyes hno
      go_wp2_with fail
      refine HRD.out.mono ?_
      rintro e w4 ⟨q, rfl, HP4, HSM⟩
      have hb4 := (Below.refl w4.heap.size w4).alloc (Nat.le_refl _) (.cells #[.int .i64 q.size, .slice q.V q.vs.length q.vc, .slice q.C q.cs.length q.cc, .slice q.L q.ls.length q.lc, .slice q.K q.is.length q.kc, .int .i64 q.inp, .int .i64 q.out] 27)
      have HS4 := hide (HSM.out _ hb4)
      have h5 := HP4.out.low hb4
      have z0 := h5.p.cell 0
      have z1 := h5.p.cell 1
      have z2 := h5.p.cell 2
      have z3 := h5.p.cell 3
      have z4 := h5.p.cell 4
      have z5 := h5.p.cell 5
      have z6 := h5.p.cell 6
      simp only [List.getElem?_cons_zero, List.getElem?_cons_succ] at z0 z1 z2 z3 z4 z5 z6
      clear hb4 h5 HSM HP4 HRD
      go_wp2_with fail
      refine HS4.out.mono ?_
      rintro e w5 ⟨rfl, hb5⟩
      have HB5 := hide hb5
      clear hb5 HS4
      go_wp2_with fail
      go_ret
      exact ⟨rfl, HB5.out⟩
    · obtain ⟨rfl, x, rfl, HIS⟩ := hno.out hr
      clear hyes hno
      rcases Int.lt_or_le n (-2147483648) with r1 | r1
      · clear hr
        go_wp2_with fail
        refine HIS.out.mono ?_
        rintro e w5 ⟨rfl, hb5⟩
        have HB5 := hide hb5
        clear hb5 HIS
        go_wp2_with fail
        go_ret
        exact ⟨rfl, HB5.out⟩
      · have r2 : 2147483647 < n := by omega
        have r1' : ¬ n < -2147483648 := by omega
        clear hr
        go_wp2_with fail
        refine HIS.out.mono ?_
        rintro e w5 ⟨rfl, hb5⟩
        have HB5 := hide hb5
        clear hb5 HIS
        go_wp2_with fail
        go_ret
        exact ⟨rfl, HB5.out⟩
end Go.Proofs.YthjnkaikjjjceaaDoor
