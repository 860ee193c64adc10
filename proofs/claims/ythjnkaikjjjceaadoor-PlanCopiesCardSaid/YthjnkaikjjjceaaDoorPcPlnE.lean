/-
  Plans and their parts: as they lie in memory, and by plain values; plan.numbers, walked. By an AI agent. No person has read it.
-/
import Derived.Test.YthjnkaikjjjceaaDoorPcPlnC
import Derived.Test.YthjnkaikjjjceaaDoorPcTenR
namespace Go.Proofs.YthjnkaikjjjceaaDoor
open Go.RowKit
/-- A view: where it begins, what it looks like. -/
structure Vw where
  off : Int
  d : Dsc
/-- An instruction. -/
structure Ins where
  op : Int
  dst : Int
  I : Option Addr
  is : List Int
  ic : Nat
  G : Option Addr
  gs : List Int
  gc : Nat
  fr : Int
  to : Int
def Vw.vals (v : Vw) : List Value := [.int .i64 v.off, .slice v.d.P v.d.zs.length v.d.cap, .bool v.d.u]
def Ins.vals (n : Ins) : List Value := [.int .i64 n.op, .int .i64 n.dst, .slice n.I n.is.length n.ic, .slice n.G n.gs.length n.gc, .int .i64 n.fr, .int .i64 n.to]
/-- What they are, without where they lie. -/
structure InP where
  op : Int
  dst : Int
  is : List Int
  gs : List Int
  fr : Int
  to : Int
deriving DecidableEq
abbrev DsP := List Int × Bool
abbrev TnP := List Int × Bool × List Int
abbrev VwP := Int × List Int × Bool
def Dsc.pl (d : Dsc) : DsP := (d.zs, d.u)
def Ten.pl (t : Ten) : TnP := (t.zs, t.u, t.ds)
def Vw.pl (v : Vw) : VwP := (v.off, v.d.zs, v.d.u)
def Ins.pl (n : Ins) : InP := ⟨n.op, n.dst, n.is, n.gs, n.fr, n.to⟩
/-- A plan, by plain values. -/
structure PlP where
  size : Int
  vs : List VwP
  cs : List TnP
  ls : List DsP
  is : List InP
  inp : Int
  out : Int
deriving DecidableEq
/-- A plan as it lies. -/
structure Pn where
  size : Int
  V : Option Addr
  vs : List Vw
  vc : Nat
  C : Option Addr
  cs : List Ten
  cc : Nat
  L : Option Addr
  ls : List Dsc
  lc : Nat
  K : Option Addr
  is : List Ins
  kc : Nat
  inp : Int
  out : Int
def Pn.vals (p : Pn) : List Value := [.int .i64 p.size, .slice p.V p.vs.length p.vc, .slice p.C p.cs.length p.cc, .slice p.L p.ls.length p.lc, .slice p.K p.is.length p.kc, .int .i64 p.inp, .int .i64 p.out]
def Pn.pl (p : Pn) : PlP := ⟨p.size, p.vs.map Vw.pl, p.cs.map Ten.pl, p.ls.map Dsc.pl, p.is.map Ins.pl, p.inp, p.out⟩
/-- What is read from there on. -/
structure Vw.In (w : World) (v : Vw) : Prop where
  d : v.d.In w
structure Ins.In (w : World) (n : Ins) : Prop where
  is : Ri w n.I n.is
  gs : Ri w n.G n.gs
  li : n.is.length ≤ 1000000
  lg : n.gs.length ≤ 1000000
structure Pn.In (w : World) (p : Pn) : Prop where
  V : Row w p.V (p.vs.flatMap Vw.vals)
  vs : ∀ v ∈ p.vs, v.In w
  C : Row w p.C (p.cs.flatMap Ten.vals)
  cs : ∀ v ∈ p.cs, v.In w
  L : Row w p.L (p.ls.flatMap Dsc.vals)
  ls : ∀ v ∈ p.ls, v.In w
  K : Row w p.K (p.is.flatMap Ins.vals)
  is : ∀ v ∈ p.is, v.In w
  lv : p.vs.length ≤ 1000000
  lc : p.cs.length ≤ 1000000
  ll : p.ls.length ≤ 1000000
  li : p.is.length ≤ 1000000
theorem Vw.In.below {w w' : World} {v : Vw} (h : v.In w) (hb : Below w.heap.size w w') : v.In w' := ⟨h.d.below hb⟩
theorem Ins.In.below {w w' : World} {n : Ins} (h : n.In w) (hb : Below w.heap.size w w') : n.In w' := ⟨h.is.below hb, h.gs.below hb, h.li, h.lg⟩
theorem Pn.In.below {w w' : World} {p : Pn} (h : p.In w) (hb : Below w.heap.size w w') : p.In w' :=
  ⟨h.V.below hb, fun v hv => (h.vs v hv).below hb, h.C.below hb, fun v hv => (h.cs v hv).below hb, h.L.below hb, fun v hv => (h.ls v hv).below hb, h.K.below hb, fun v hv => (h.is v hv).below hb, h.lv, h.lc, h.ll, h.li⟩
/-- What lies in blocks of ints of its own. -/
def Dsc.Io (base : Nat) (w : World) (d : Dsc) : Prop := Go.Proofs.YthjnkaikjjjceaaDoor.Io base w d.P d.zs ∧ d.zs.length ≤ 1000000
def Vw.Io (base : Nat) (w : World) (v : Vw) : Prop := v.d.Io base w
def Ten.Io (base : Nat) (w : World) (t : Ten) : Prop := Go.Proofs.YthjnkaikjjjceaaDoor.Io base w t.P t.zs ∧ Go.Proofs.YthjnkaikjjjceaaDoor.Io base w t.D t.ds ∧ t.zs.length ≤ 1000000 ∧ t.ds.length ≤ 1000000
def Ins.Io (base : Nat) (w : World) (n : Ins) : Prop := Go.Proofs.YthjnkaikjjjceaaDoor.Io base w n.I n.is ∧ Go.Proofs.YthjnkaikjjjceaaDoor.Io base w n.G n.gs ∧ n.is.length ≤ 1000000 ∧ n.gs.length ≤ 1000000
section
variable {base : Nat} {w w' : World} {row : Option Nat}
theorem Dsc.Io.grown {d : Dsc} (h : d.Io base w) (hg : w.grownBy w' row) (hr : NotT w row 3) : d.Io base w' := ⟨h.1.grown hg hr, h.2⟩
theorem Vw.Io.grown {v : Vw} (h : v.Io base w) (hg : w.grownBy w' row) (hr : NotT w row 3) : v.Io base w' := Dsc.Io.grown h hg hr
theorem Ten.Io.grown {t : Ten} (h : t.Io base w) (hg : w.grownBy w' row) (hr : NotT w row 3) : t.Io base w' := ⟨h.1.grown hg hr, h.2.1.grown hg hr, h.2.2⟩
theorem Ins.Io.grown {n : Ins} (h : n.Io base w) (hg : w.grownBy w' row) (hr : NotT w row 3) : n.Io base w' := ⟨h.1.grown hg hr, h.2.1.grown hg hr, h.2.2⟩
theorem Dsc.Io.less {b2 : Nat} {d : Dsc} (h : d.Io base w) (hb : b2 ≤ base) : d.Io b2 w := ⟨h.1.less hb, h.2⟩
theorem Vw.Io.less {b2 : Nat} {v : Vw} (h : v.Io base w) (hb : b2 ≤ base) : v.Io b2 w := Dsc.Io.less h hb
theorem Ten.Io.less {b2 : Nat} {t : Ten} (h : t.Io base w) (hb : b2 ≤ base) : t.Io b2 w := ⟨h.1.less hb, h.2.1.less hb, h.2.2⟩
theorem Ins.Io.less {b2 : Nat} {n : Ins} (h : n.Io base w) (hb : b2 ≤ base) : n.Io b2 w := ⟨h.1.less hb, h.2.1.less hb, h.2.2⟩
theorem Dsc.Io.in_ {d : Dsc} (h : d.Io base w) : d.In w := ⟨h.1.ri, h.2⟩
theorem Vw.Io.in_ {v : Vw} (h : v.Io base w) : v.In w := ⟨Dsc.Io.in_ h⟩
theorem Ten.Io.in_ {t : Ten} (h : t.Io base w) : t.In w := ⟨h.1.ri, h.2.1.ri, h.2.2.1, h.2.2.2⟩
theorem Ins.Io.in_ {n : Ins} (h : n.Io base w) : n.In w := ⟨h.1.ri, h.2.1.ri, h.2.2.1, h.2.2.2⟩
theorem own_not {e : TypeId} {k n : Nat} {v : Value} {xs : List Value} (h : w.ownsRow base e k v n xs) (hg : w.grownBy w' row) (hr : NotT w row e) : w'.ownsRow base e k v n xs := by
  refine ⟨h.1, ?_⟩
  rcases h.2 with h1 | ⟨g, c, cur, h1, h2, h3, h4, h5, h6, h7⟩
  · exact .inl h1
  · have hl : g < w.heap.size := by
      rcases Nat.lt_or_ge g w.heap.size with hlt | hge
      · exact hlt
      · rw [Array.getElem?_eq_none hge] at h3; cases h3
    exact .inr ⟨g, c, cur, h1, h2, (hg.block g hl fun e => hr g e.symm cur.toList (by unfold Has; simpa using h3)).trans h3, h4, h5, h6, h7⟩
end
/-- A plan that is being made: its rows are of its own, from some place on. -/
structure Pw (base eb : Nat) (w : World) (p : Pn) : Prop where
  V : w.ownsRow base 61 3 (.slice p.V p.vs.length p.vc) p.vs.length (p.vs.flatMap Vw.vals)
  vs : ∀ v ∈ p.vs, v.Io eb w
  C : w.ownsRow base 70 3 (.slice p.C p.cs.length p.cc) p.cs.length (p.cs.flatMap Ten.vals)
  cs : ∀ v ∈ p.cs, v.Io eb w
  L : w.ownsRow base 59 2 (.slice p.L p.ls.length p.lc) p.ls.length (p.ls.flatMap Dsc.vals)
  ls : ∀ v ∈ p.ls, v.Io eb w
  K : w.ownsRow base 48 6 (.slice p.K p.is.length p.kc) p.is.length (p.is.flatMap Ins.vals)
  is : ∀ v ∈ p.is, v.Io eb w
/-- A row of none of a plan's types. -/
structure NotP (w : World) (row : Option Nat) : Prop where
  v : NotT w row 61
  t : NotT w row 70
  d : NotT w row 59
  n : NotT w row 48
  i : NotT w row 3
theorem NotP.none (w : World) : NotP w none := ⟨NotT.none _ _, NotT.none _ _, NotT.none _ _, NotT.none _ _, NotT.none _ _⟩
theorem NotP.rdr {w : World} {g : Nat} {cs : List Value} (h : Has w g 118 cs) : NotP w (some g) := ⟨NotT.has h (by decide), NotT.has h (by decide), NotT.has h (by decide), NotT.has h (by decide), NotT.has h (by decide)⟩
theorem NotP.plan {w : World} {g : Nat} {cs : List Value} (h : Has w g 27 cs) : NotP w (some g) := ⟨NotT.has h (by decide), NotT.has h (by decide), NotT.has h (by decide), NotT.has h (by decide), NotT.has h (by decide)⟩
theorem Pw.grown {base eb : Nat} {w w' : World} {p : Pn} {row : Option Nat} (h : Pw base eb w p) (hg : w.grownBy w' row) (hr : NotP w row) : Pw base eb w' p :=
  ⟨own_not h.V hg hr.v, fun v hv => (h.vs v hv).grown hg hr.i, own_not h.C hg hr.t, fun v hv => (h.cs v hv).grown hg hr.i, own_not h.L hg hr.d, fun v hv => (h.ls v hv).grown hg hr.i, own_not h.K hg hr.n, fun v hv => (h.is v hv).grown hg hr.i⟩
theorem own_low {w : World} {base n s : Nat} {e : TypeId} {v : Value} {xs : List Value} (h : w.ownsRow base e s v n xs) (k : Nat) (hk : v.ownBlock = some k) : base ≤ k := by
  rcases h.2 with ⟨rfl, -⟩ | ⟨g, c, cur, rfl, h2, -⟩
  · cases hk
  · have : g = k := Option.some.inj hk
    omega
theorem own_rw {w : World} {base n s : Nat} {e : TypeId} {P : Option Addr} {m c : Nat} {xs : List Value} (h : w.ownsRow base e s (.slice P m c) n xs) : Row w P xs := by
  obtain ⟨B, c2, e2, hr⟩ := own_row h
  injection e2 with e3
  subst e3
  exact hr
theorem Pw.in_ {base eb : Nat} {w : World} {p : Pn} (h : Pw base eb w p) (h1 : p.vs.length ≤ 1000000) (h2 : p.cs.length ≤ 1000000) (h3 : p.ls.length ≤ 1000000) (h4 : p.is.length ≤ 1000000) : p.In w :=
  ⟨own_rw h.V, fun v hv => (h.vs v hv).in_, own_rw h.C, fun v hv => (h.cs v hv).in_, own_rw h.L, fun v hv => (h.ls v hv).in_, own_rw h.K, fun v hv => (h.is v hv).in_, h1, h2, h3, h4⟩

/-- What plan.numbers reads. -/
def Rs.num (bs : List Nat) (_ : Nat) (s : Rs) : Int × Rs := s.signed bs
section
variable {w0 : World} {A : Option Addr} {bs : List Nat} {cap : Nat} {es : List Addr} {ae am ak : Addr}
end
end Go.Proofs.YthjnkaikjjjceaaDoor
