/-
  plan.Clone, walked. By an AI agent. No person has read it.
-/
import Derived.Test.YthjnkaikjjjceaaDoorPkPlnQ
import Derived.Test.YthjnkaikjjjceaaDoorPkBasA
namespace Go.Proofs.YthjnkaikjjjceaaDoor
open Go.RowKit
/-- A plan that was cloned: all its blocks are its own. -/
structure Pn.Cl (base : Nat) (w : World) (q : Pn) : Prop where
  V : ∃ g, q.V = some ⟨g, 0, none⟩ ∧ base ≤ g ∧ Has w g 61 (q.vs.flatMap Vw.vals)
  vs : ∀ y ∈ q.vs, Vw.Io base w y
  vc : q.vc = q.vs.length
  C : ∃ g, q.C = some ⟨g, 0, none⟩ ∧ base ≤ g ∧ Has w g 70 (q.cs.flatMap Ten.vals)
  cs : ∀ y ∈ q.cs, Ten.Io base w y
  cc : q.cc = q.cs.length
  L : ∃ g, q.L = some ⟨g, 0, none⟩ ∧ base ≤ g ∧ Has w g 59 (q.ls.flatMap Dsc.vals)
  ls : ∀ y ∈ q.ls, Dsc.Io base w y
  lc : q.lc = q.ls.length
  K : ∃ g, q.K = some ⟨g, 0, none⟩ ∧ base ≤ g ∧ Has w g 48 (q.is.flatMap Ins.vals)
  is : ∀ y ∈ q.is, Ins.Ck base w y
  kc : q.kc = q.is.length
  ap : InsApart q.is
  off : ∀ y ∈ q.is, (∀ v ∈ q.vs, RowOff (.slice y.G y.gs.length y.gc) v.d.P v.d.zs) ∧ (∀ t ∈ q.cs, RowOff (.slice y.G y.gs.length y.gc) t.P t.zs ∧ RowOff (.slice y.G y.gs.length y.gc) t.D t.ds) ∧ (∀ d ∈ q.ls, RowOff (.slice y.G y.gs.length y.gc) d.P d.zs)
theorem Pn.Cl.grown {base : Nat} {w w' : World} {row : Option Nat} {q : Pn} (h : q.Cl base w) (hg : w.grownBy w' row) (hr : NotP w row) : q.Cl base w' :=
  ⟨by obtain ⟨g, e, h1, h2⟩ := h.V; exact ⟨g, e, h1, h2.grown hg fun e => hr.v g e.symm _ h2⟩, fun y hy => Vw.Io.grown (h.vs y hy) hg hr.i, h.vc, by obtain ⟨g, e, h1, h2⟩ := h.C; exact ⟨g, e, h1, h2.grown hg fun e => hr.t g e.symm _ h2⟩, fun y hy => Ten.Io.grown (h.cs y hy) hg hr.i, h.cc, by obtain ⟨g, e, h1, h2⟩ := h.L; exact ⟨g, e, h1, h2.grown hg fun e => hr.d g e.symm _ h2⟩, fun y hy => Dsc.Io.grown (h.ls y hy) hg hr.i, h.lc, by obtain ⟨g, e, h1, h2⟩ := h.K; exact ⟨g, e, h1, h2.grown hg fun e => hr.n g e.symm _ h2⟩, fun y hy => Ins.Ck.grown (h.is y hy) hg hr.i, h.kc, h.ap, h.off⟩
theorem Pn.Cl.in_ {base : Nat} {w : World} {q : Pn} (h : q.Cl base w) (h1 : q.vs.length ≤ 1000000) (h2 : q.cs.length ≤ 1000000) (h3 : q.ls.length ≤ 1000000) (h4 : q.is.length ≤ 1000000) : q.In w := by
  obtain ⟨g1, e1, -, r1⟩ := h.V
  obtain ⟨g2, e2, -, r2⟩ := h.C
  obtain ⟨g3, e3, -, r3⟩ := h.L
  obtain ⟨g4, e4, -, r4⟩ := h.K
  exact ⟨by rw [e1]; exact r1.row, fun v hv => (h.vs v hv).in_, by rw [e2]; exact r2.row, fun v hv => (h.cs v hv).in_, by rw [e3]; exact r3.row, fun v hv => (h.ls v hv).in_, by rw [e4]; exact r4.row, fun v hv => (h.is v hv).io.in_, h1, h2, h3, h4⟩
theorem len_of_map {α β γ : Type} {f : α → γ} {g : β → γ} {l : List α} {m : List β} (h : l.map f = m.map g) : l.length = m.length := by
  have := congrArg List.length h
  rwa [List.length_map, List.length_map] at this
end Go.Proofs.YthjnkaikjjjceaaDoor
namespace Go.Proofs.YthjnkaikjjjceaaDoor
open Go.RowKit
set_option maxRecDepth 100000 in
set_option maxHeartbeats 4000000 in
theorem rsameins_c (x y : Ins) (w : World) (hx : x.In w) (hy : y.In w) (he : y.pl = x.pl) :
    Calls Tryd.prog 20 #[.agg #[.int .i64 x.op, .int .i64 x.dst, .slice x.I x.is.length x.ic, .slice x.G x.gs.length x.gc, .int .i64 x.fr, .int .i64 x.to], .agg #[.int .i64 y.op, .int .i64 y.dst, .slice y.I y.is.length y.ic, .slice y.G y.gs.length y.gc, .int .i64 y.fr, .int .i64 y.to]] w fun e w' => e = .returned (.bool true) ∧ Below w.heap.size w w' := by
  have e1 : y.op = x.op := congrArg InP.op he
  have e2 : y.dst = x.dst := congrArg InP.dst he
  have e3 : y.is = x.is := congrArg InP.is he
  have e4 : y.gs = x.gs := congrArg InP.gs he
  have e5 : y.fr = x.fr := congrArg InP.fr he
  have e6 : y.to = x.to := congrArg InP.to he
  have HI : Hid (∀ W, Below w.heap.size w W → Calls Tryd.prog 57 #[.slice x.I x.is.length x.ic, .slice y.I x.is.length y.ic] W fun e w' => e = .returned (.bool true) ∧ Below W.heap.size W w') := hide (fun W hW => by
    have hry := hy.is.below hW
    rw [e3] at hry
    have h := sameints_c x.is x.is x.I y.I x.ic y.ic W (hx.is.below hW) hry hx.li hx.li
    rw [decide_eq_true rfl] at h
    exact h)
  have HG : Hid (∀ W, Below w.heap.size w W → Calls Tryd.prog 57 #[.slice x.G x.gs.length x.gc, .slice y.G x.gs.length y.gc] W fun e w' => e = .returned (.bool true) ∧ Below W.heap.size W w') := hide (fun W hW => by
    have hry := hy.gs.below hW
    rw [e4] at hry
    have h := sameints_c x.gs x.gs x.G y.G x.gc y.gc W (hx.gs.below hW) hry hx.lg hx.lg
    rw [decide_eq_true rfl] at h
    exact h)
  rw [e1, e2, e3, e4, e5, e6]
  obtain ⟨W0, hW0⟩ : ∃ W0, Hid ((w.alloc (.cells #[.int .i64 x.op, .int .i64 x.dst, .slice x.I x.is.length x.ic, .slice x.G x.gs.length x.gc, .int .i64 x.fr, .int .i64 x.to] 48)).alloc (.cells #[.int .i64 x.op, .int .i64 x.dst, .slice y.I x.is.length y.ic, .slice y.G x.gs.length y.gc, .int .i64 x.fr, .int .i64 x.to] 48) = W0) := ⟨_, hide rfl⟩
  have hb0 : Below w.heap.size w W0 := by
    rw [← hW0.out]
    exact ((Below.refl w.heap.size w).alloc (Nat.le_refl _) _).alloc (by simp) _
  have hr1 : Has W0 w.heap.size 48 [.int .i64 x.op, .int .i64 x.dst, .slice x.I x.is.length x.ic, .slice x.G x.gs.length x.gc, .int .i64 x.fr, .int .i64 x.to] := by
    rw [← hW0.out]
    exact (Has.new w 48 [.int .i64 x.op, .int .i64 x.dst, .slice x.I x.is.length x.ic, .slice x.G x.gs.length x.gc, .int .i64 x.fr, .int .i64 x.to]).alloc _
  have hr2 : Has W0 (w.heap.size + 1) 48 [.int .i64 x.op, .int .i64 x.dst, .slice y.I x.is.length y.ic, .slice y.G x.gs.length y.gc, .int .i64 x.fr, .int .i64 x.to] := by
    rw [← hW0.out]
    have h := Has.new (w.alloc (.cells #[.int .i64 x.op, .int .i64 x.dst, .slice x.I x.is.length x.ic, .slice x.G x.gs.length x.gc, .int .i64 x.fr, .int .i64 x.to] 48)) 48 [.int .i64 x.op, .int .i64 x.dst, .slice y.I x.is.length y.ic, .slice y.G x.gs.length y.gc, .int .i64 x.fr, .int .i64 x.to]
    simpa using h
  obtain ⟨n, hn⟩ : ∃ n, Hid (x.is.length = n) := ⟨_, hide rfl⟩
  obtain ⟨m, hm⟩ : ∃ n, Hid (x.gs.length = n) := ⟨_, hide rfl⟩
  rw [hn.out] at HI
  rw [hm.out] at HG
  rw [hn.out, hm.out] at hW0 hr1 hr2 ⊢
  have HB0 := hide hb0
  have HR1 := hide hr1
  have HR2 := hide hr2
  have HC1 := hide (HI.out _ hb0)
  clear hb0 hr1 hr2 hx hy he e1 e2 e3 e4 e5 e6 HI
  go_enter Tryd.func20, Tryd.ntmps20
  go_wp2_with fail
  rw [hW0.out]
  refine HC1.out.mono ?_
  rintro e w1 ⟨rfl, hb⟩
  have HB1 := hide (HB0.out.trans (hb.mono HB0.out.size))
  have HS1 := hide (HR1.out.below hb HR1.out.lt)
  have HS2 := hide (HR2.out.below hb HR2.out.lt)
  have HC2 := hide (HG.out _ HB1.out)
  have c3 : w1.cell? ⟨w.heap.size, 3, none⟩ = some (.slice x.G m x.gc) := HS1.out.cell 3
  have d3 : w1.cell? ⟨w.heap.size + 1, 3, none⟩ = some (.slice y.G m y.gc) := HS2.out.cell 3
  clear HC1 HG HB0 HR1 HR2 hb
  go_wp2_with fail
  clear c3 d3
  refine HC2.out.mono ?_
  rintro e w2 ⟨rfl, hb⟩
  have HB2 := hide (HB1.out.trans (hb.mono HB1.out.size))
  have hs1 := HS1.out.below hb HS1.out.lt
  have hs2 := HS2.out.below hb HS2.out.lt
  have c0 : w2.cell? ⟨w.heap.size, 0, none⟩ = some (.int .i64 x.op) := hs1.cell 0
  have c1 : w2.cell? ⟨w.heap.size, 1, none⟩ = some (.int .i64 x.dst) := hs1.cell 1
  have c4 : w2.cell? ⟨w.heap.size, 4, none⟩ = some (.int .i64 x.fr) := hs1.cell 4
  have c5 : w2.cell? ⟨w.heap.size, 5, none⟩ = some (.int .i64 x.to) := hs1.cell 5
  have d0 : w2.cell? ⟨w.heap.size + 1, 0, none⟩ = some (.int .i64 x.op) := hs2.cell 0
  have d1 : w2.cell? ⟨w.heap.size + 1, 1, none⟩ = some (.int .i64 x.dst) := hs2.cell 1
  have d4 : w2.cell? ⟨w.heap.size + 1, 4, none⟩ = some (.int .i64 x.fr) := hs2.cell 4
  have d5 : w2.cell? ⟨w.heap.size + 1, 5, none⟩ = some (.int .i64 x.to) := hs2.cell 5
  clear HC2 HB1 HS1 HS2 hb hs1 hs2
  go_wp2_with fail
  go_ret
  exact ⟨rfl, HB2.out⟩
end Go.Proofs.YthjnkaikjjjceaaDoor
namespace Go.Proofs.YthjnkaikjjjceaaDoor
open Go.RowKit
theorem nv_tmod (n : Int) (m : Nat) : n.tmod (m : Int) % (m : Int) = n % (m : Int) := by
  have h := Int.mul_tdiv_add_tmod n (m : Int)
  have h2 : ((m : Int) * n.tdiv m + n.tmod m) % (m : Int) = n.tmod m % (m : Int) := by rw [Int.add_comm, Int.add_mul_emod_self_left]
  rw [h] at h2
  exact h2.symm
set_option maxRecDepth 100000 in
theorem number_v0 (n : Int) (m : Nat) (h0 : 0 < m) (hm : m ≤ 4611686018427387904) (M : Int) (hM : M = (m : Int)) (w : World) :
    Calls Tryd.prog 13 #[.int .i64 n, .int .i64 M] w fun e w' => e = .returned (.int .i64 (n % M)) ∧ w' = w := by
  subst hM
  have e1 : n.tmod (m : Int) < m := Int.tmod_lt_of_pos n (by omega)
  have e2 : -(m : Int) < n.tmod (m : Int) := by
    have := Int.tmod_lt_of_pos (-n) (b := (m : Int)) (by omega)
    rw [Int.neg_tmod] at this
    omega
  have e9 : n % (m : Int) = (n.tmod (m : Int) + m) % (m : Int) := by rw [Int.add_emod_right, nv_tmod]
  obtain ⟨a, ha⟩ : ∃ a, Hid (n.tmod (m : Int) + m = a) := ⟨_, hide rfl⟩
  have ha0 : 0 < a := by have := ha.out; omega
  have ha1 : a ≤ 9223372036854775807 := by have := ha.out; omega
  have e3 : a.tmod (m : Int) = a % m := Int.tmod_eq_emod_of_nonneg (by omega)
  have e4 : 0 ≤ a % (m : Int) := Int.emod_nonneg _ (by omega)
  have e5 : a % (m : Int) < m := Int.emod_lt_of_pos _ (by omega)
  rw [e9, ha.out]
  clear e9
  obtain ⟨k, hk⟩ : ∃ k : Int, a % (m : Int) = k := ⟨_, rfl⟩
  rw [hk] at e3 e4 e5 ⊢
  have hx := ha.out
  have h0' : (m : Int) ≠ 0 := by omega
  clear hk
  go_enter Tryd.func13, Tryd.ntmps13
  go_wp2_with fail
  go_ret
  exact ⟨rfl, rfl⟩
/-- The number below m that stands for z. -/
def numv (z : Int) (m : Nat) : Nat := (z % (m : Int)).toNat
theorem numv_lt (z : Int) (m : Nat) (h0 : 0 < m) : numv z m < m := by
  have e4 : 0 ≤ z % (m : Int) := Int.emod_nonneg _ (by omega)
  have e5 : z % (m : Int) < m := Int.emod_lt_of_pos _ (by omega)
  unfold numv
  omega
theorem number_v (n : Int) (m : Nat) (h0 : 0 < m) (hm : m ≤ 4611686018427387904) (M : Int) (hM : M = (m : Int)) (w : World) :
    Calls Tryd.prog 13 #[.int .i64 n, .int .i64 M] w fun e w' => e = .returned (.int .i64 (numv n m : Nat)) ∧ w' = w := by
  have h := number_v0 n m h0 hm M hM w
  rw [hM] at h ⊢
  have e : n % (m : Int) = ((numv n m : Nat) : Int) := by
    unfold numv
    rw [Int.toNat_of_nonneg (Int.emod_nonneg _ (by omega))]
  rw [e] at h
  exact h
end Go.Proofs.YthjnkaikjjjceaaDoor
