/-
  A cloned plan that is turned at one place: what it then is. By an AI agent. No person has read it.
-/
import Derived.Test.YthjnkaikjjjceaaDoorPcPlnWd
namespace Go.Proofs.YthjnkaikjjjceaaDoor
open Go.RowKit
theorem own_full {w : World} {g base n k : Nat} {e : TypeId} {xs : List Value} (h : Has w g e xs) (hb : base ≤ g) (hl : xs.length = n * k) (hn : n ≤ maxLen) : w.ownsRow base e k (.slice (some ⟨g, 0, none⟩) n n) n xs :=
  ⟨hl, .inr ⟨g, n, xs.toArray, rfl, hb, h, Nat.le_refl _, hn, by simpa using hl, by rw [← hl]; simp⟩⟩
structure Pn.Lens (q : Pn) : Prop where
  v : q.vs.length ≤ 1000000
  c : q.cs.length ≤ 1000000
  l : q.ls.length ≤ 1000000
  k : q.is.length ≤ 1000000
theorem max_of {n : Nat} (h : n ≤ 1000000) : n ≤ maxLen := by unfold maxLen; omega
theorem Pn.Cl.pw {base : Nat} {w : World} {q : Pn} (h : q.Cl base w) (hl : q.Lens) : Pw base base w q := by
  obtain ⟨g1, e1, b1, r1⟩ := h.V
  obtain ⟨g2, e2, b2, r2⟩ := h.C
  obtain ⟨g3, e3, b3, r3⟩ := h.L
  obtain ⟨g4, e4, b4, r4⟩ := h.K
  exact ⟨by rw [e1, h.vc]; exact own_full r1 b1 (flat_len _ 3 _ (fun _ _ => rfl)) (max_of hl.v), h.vs, by rw [e2, h.cc]; exact own_full r2 b2 (flat_len _ 3 _ (fun _ _ => rfl)) (max_of hl.c), h.cs, by rw [e3, h.lc]; exact own_full r3 b3 (flat_len _ 2 _ (fun _ _ => rfl)) (max_of hl.l), h.ls, by rw [e4, h.kc]; exact own_full r4 b4 (flat_len _ 6 _ (fun _ _ => rfl)) (max_of hl.k), fun y hy => (h.is y hy).io⟩
/-- A view's kind is turned. -/
theorem Pn.Cl.turned {base : Nat} {w : World} {q : Pn} (h : q.Cl base w) (hl : q.Lens) {g k : Nat} {v : Vw} (hg : q.V = some ⟨g, 0, none⟩) (hk : q.vs[k]? = some v) (u : Bool) :
    Pw base base (w.setCell ⟨g, k * 3 + 2, none⟩ (.bool u)) { q with vs := q.vs.set k ⟨v.off, ⟨v.d.P, v.d.zs, v.d.cap, u⟩⟩ } := by
  obtain ⟨g1, e1, b1, r1⟩ := h.V
  obtain rfl : g1 = g := by rw [e1] at hg; injection hg with hg; injection hg
  have hp := h.pw hl
  have hgr := grown_cell w ⟨g1, k * 3 + 2, none⟩ (.bool u)
  have n1 : NotT w (some g1) 3 := NotT.has r1 (by decide)
  have r2 := r1.set_ (k * 3 + 2) (.bool u)
  rw [flat_one Vw.vals 3 (by decide) (fun _ => rfl) q.vs k 2 ⟨v.off, ⟨v.d.P, v.d.zs, v.d.cap, u⟩⟩ v (.bool u) hk (by decide) rfl] at r2
  refine ⟨?_, ?_, own_not hp.C hgr (NotT.has r1 (by decide)), fun t ht => (hp.cs t ht).grown hgr n1, own_not hp.L hgr (NotT.has r1 (by decide)), fun t ht => (hp.ls t ht).grown hgr n1, own_not hp.K hgr (NotT.has r1 (by decide)), fun t ht => (hp.is t ht).grown hgr n1⟩
  · show World.ownsRow _ base _ 3 (.slice q.V (q.vs.set k _).length q.vc) (q.vs.set k _).length _
    rw [List.length_set, hg, h.vc]
    exact own_full r2 b1 (by rw [flat_len _ 3 _ (fun _ _ => rfl), List.length_set]) (max_of hl.v)
  · intro x hx
    rcases List.mem_or_eq_of_mem_set hx with hx | rfl
    · exact (hp.vs x hx).grown hgr n1
    · have h2 := (hp.vs v (List.mem_of_getElem? hk)).grown hgr n1
      exact h2
/-- An instruction's args have grown. -/
theorem Pn.Cl.more {base : Nat} {w W : World} {q : Pn} (h : q.Cl base w) (hl : q.Lens) {g k : Nat} {y : Ins} (hg : q.K = some ⟨g, 0, none⟩) (hk : q.is[k]? = some y) {v : Value} (hgr : w.grownBy W (Value.slice y.G y.gs.length y.gc).ownBlock) (ho : W.ownsRow base 3 1 v (y.gs.length + 1) (i64s (y.gs ++ [1]))) (hly : y.gs.length ≤ 10) :
    ∃ (G : Option Addr) (c : Nat), v = .slice G (y.gs.length + 1) c ∧ Pw base base (W.setCell ⟨g, k * 6 + 3, none⟩ v) { q with is := q.is.set k ⟨y.op, y.dst, y.I, y.is, y.ic, G, y.gs ++ [1], c, y.fr, y.to⟩ } := by
  obtain ⟨g1, e1, b1, r1⟩ := h.K
  obtain rfl : g1 = g := by rw [e1] at hg; injection hg with hg; injection hg
  have hp := h.pw hl
  have hym := List.mem_of_getElem? hk
  have hyo := (h.is y hym).own
  have hyw : ∀ z ∈ y.gs ++ [1], (Lit.int .i64 z).wf = true := by
    intro z hz
    rcases List.mem_append.1 hz with hz | hz
    · exact (h.is y hym).io.2.1.1 z hz
    · rw [List.mem_singleton.1 hz]
      rfl
  have hlen : (y.gs ++ [(1 : Int)]).length = y.gs.length + 1 := by simp
  obtain ⟨G, c, e, hio⟩ := Io.of_own ho hyw
  rw [hlen] at e
  refine ⟨G, c, e, ?_⟩
  have rK := r1.grown hgr fun e => NotT.own hyo (by decide) _ e.symm _ r1
  have hg2 := grown_cell W ⟨g1, k * 6 + 3, none⟩ v
  have n1 : NotT W (some g1) 3 := NotT.has rK (by decide)
  have r2 := rK.set_ (k * 6 + 3) v
  rw [e] at r2
  rw [flat_one Ins.vals 6 (by decide) (fun _ => rfl) q.is k 3 ⟨y.op, y.dst, y.I, y.is, y.ic, G, y.gs ++ [1], c, y.fr, y.to⟩ y (.slice G (y.gs.length + 1) c) hk (by decide) (by unfold Ins.vals; dsimp only; rw [hlen]; rfl)] at r2
  refine ⟨own_not (own_not hp.V hgr (NotT.own hyo (by decide))) hg2 (NotT.has rK (by decide)), fun x hx => ?_, own_not (own_not hp.C hgr (NotT.own hyo (by decide))) hg2 (NotT.has rK (by decide)), fun x hx => ?_, own_not (own_not hp.L hgr (NotT.own hyo (by decide))) hg2 (NotT.has rK (by decide)), fun x hx => ?_, ?_, fun x hx => ?_⟩
  · have hx2 := h.vs x hx
    exact Vw.Io.grown (w := W) ⟨hx2.1.off hgr ((h.off y hym).1 x hx), hx2.2⟩ hg2 n1
  · have hx2 := h.cs x hx
    exact Ten.Io.grown ⟨hx2.1.off hgr ((h.off y hym).2.1 x hx).1, hx2.2.1.off hgr ((h.off y hym).2.1 x hx).2, hx2.2.2⟩ hg2 n1
  · have hx2 := h.ls x hx
    exact Dsc.Io.grown ⟨hx2.1.off hgr ((h.off y hym).2.2 x hx), hx2.2⟩ hg2 n1
  · show World.ownsRow _ base _ 6 (.slice q.K (q.is.set k _).length q.kc) (q.is.set k _).length _
    rw [List.length_set, hg, h.kc, e]
    exact own_full r2 b1 (by rw [flat_len _ 6 _ (fun _ _ => rfl), List.length_set]) (max_of hl.k)
  · obtain ⟨j, hj⟩ := List.mem_iff_getElem?.1 hx
    rw [List.getElem?_set] at hj
    by_cases hjk : k = j
    · subst hjk
      have hkl := (List.getElem?_eq_some_iff.1 hk).1
      rw [if_pos rfl, if_pos hkl] at hj
      obtain rfl := Option.some.inj hj
      have hy2 := (h.is y hym).io
      refine Ins.Io.grown (w := W) ⟨hy2.1.off hgr (h.ap k k y y hk hk).2, hio, hy2.2.2.1, ?_⟩ hg2 n1
      rw [hlen]
      omega
    · rw [if_neg hjk] at hj
      have hx2 := (h.is x (List.mem_of_getElem? hj)).io
      have hap := (h.ap k j y x hk hj).1 hjk
      exact Ins.Io.grown ⟨hx2.1.off hgr hap.1, hx2.2.1.off hgr hap.2, hx2.2.2⟩ hg2 n1
/-- A weight more. -/
theorem Pn.Cl.weight {base : Nat} {w W : World} {q : Pn} (h : q.Cl base w) (hl : q.Lens) {v : Value} (hgr : w.grownBy W (Value.slice q.L q.ls.length q.lc).ownBlock) (ho : W.ownsRow base 59 2 v (q.ls.length + 1) (q.ls.flatMap Dsc.vals ++ Dsc.zero.vals)) :
    ∃ (L : Option Addr) (c : Nat), v = .slice L (q.ls.length + 1) c ∧ Pw base base W { q with L := L, ls := q.ls ++ [Dsc.zero], lc := c } := by
  have hp := h.pw hl
  obtain ⟨L, c, rfl, -⟩ := own_row ho
  have n1 : NotT w (Value.slice q.L q.ls.length q.lc).ownBlock 3 := NotT.own hp.L (by decide)
  refine ⟨L, c, rfl, own_not hp.V hgr (NotT.own hp.L (by decide)), fun x hx => (hp.vs x hx).grown hgr n1, own_not hp.C hgr (NotT.own hp.L (by decide)), fun x hx => (hp.cs x hx).grown hgr n1, ?_, fun x hx => ?_, own_not hp.K hgr (NotT.own hp.L (by decide)), fun x hx => (hp.is x hx).grown hgr n1⟩
  · show World.ownsRow _ base _ 2 (.slice L (q.ls ++ [Dsc.zero]).length c) (q.ls ++ [Dsc.zero]).length ((q.ls ++ [Dsc.zero]).flatMap Dsc.vals)
    rw [List.length_append, List.length_singleton, List.flatMap_append, List.flatMap_singleton]
    exact ho
  · rcases List.mem_append.1 hx with hx | hx
    · exact (hp.ls x hx).grown hgr n1
    · rw [List.mem_singleton.1 hx]
      exact ⟨Io.nil _ _ _, Nat.zero_le _⟩
/-- What it then is, is another one. -/
theorem pl_size {p q : Pn} (z : Int) (hz : z ≠ p.size) : ¬ p.pl = ({ q with size := z } : Pn).pl := fun h => hz (congrArg PlP.size h).symm
theorem pl_view {p q : Pn} (he : q.pl = p.pl) {k : Nat} {v : Vw} (hk : q.vs[k]? = some v) : ¬ p.pl = ({ q with vs := q.vs.set k ⟨v.off, ⟨v.d.P, v.d.zs, v.d.cap, !v.d.u⟩⟩ } : Pn).pl := fun h => by
  rw [← he] at h
  have h1 : q.vs.map Vw.pl = (q.vs.set k ⟨v.off, ⟨v.d.P, v.d.zs, v.d.cap, !v.d.u⟩⟩).map Vw.pl := congrArg PlP.vs h
  have h2 := congrArg (fun l => l[k]?) h1
  have hkl := (List.getElem?_eq_some_iff.1 hk).1
  simp only [List.getElem?_map, hk, List.getElem?_set_self hkl, Option.map_some, Option.some.injEq] at h2
  have h3 : v.d.u = !v.d.u := congrArg (fun p => p.2.2) h2
  revert h3
  cases v.d.u <;> decide
theorem pl_arg {p q : Pn} (he : q.pl = p.pl) {k : Nat} {y : Ins} (hk : q.is[k]? = some y) (G : Option Addr) (c : Nat) : ¬ p.pl = ({ q with is := q.is.set k ⟨y.op, y.dst, y.I, y.is, y.ic, G, y.gs ++ [1], c, y.fr, y.to⟩ } : Pn).pl := fun h => by
  rw [← he] at h
  have h1 : q.is.map Ins.pl = (q.is.set k ⟨y.op, y.dst, y.I, y.is, y.ic, G, y.gs ++ [1], c, y.fr, y.to⟩).map Ins.pl := congrArg PlP.is h
  have h2 := congrArg (fun l => l[k]?) h1
  have hkl := (List.getElem?_eq_some_iff.1 hk).1
  simp only [List.getElem?_map, hk, List.getElem?_set_self hkl, Option.map_some, Option.some.injEq] at h2
  have h3 : y.gs = y.gs ++ [1] := congrArg InP.gs h2
  have h4 := congrArg List.length h3
  rw [List.length_append, List.length_singleton] at h4
  omega
theorem pl_weight {p q : Pn} (he : q.pl = p.pl) (L : Option Addr) (c : Nat) : ¬ p.pl = ({ q with L := L, ls := q.ls ++ [Dsc.zero], lc := c } : Pn).pl := fun h => by
  rw [← he] at h
  have h1 : q.ls.map Dsc.pl = (q.ls ++ [Dsc.zero]).map Dsc.pl := congrArg PlP.ls h
  have h4 := congrArg List.length h1
  rw [List.length_map, List.length_map, List.length_append, List.length_singleton] at h4
  omega
end Go.Proofs.YthjnkaikjjjceaaDoor
