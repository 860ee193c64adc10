/-
  Bytes that are read as a plan are just its bytes. By an AI agent. No person has read it.
-/
import Derived.Test.YthjnkaikjjjceaaDoorPcPlnO
import Derived.Test.YthjnkaikjjjceaaDoorPcTenW
import Derived.Test.YthjnkaikjjjceaaDoorPcPlnF
namespace Go.Proofs.YthjnkaikjjjceaaDoor
open Go.RowKit
/-- Behind a step without an error: just these bytes were read. -/
def Rs.Ok (bs : List Nat) (s s' : Rs) (ys : List Nat) : Prop := s'.e = none → s.e = none ∧ bs.take s'.at_ = bs.take s.at_ ++ ys
theorem Rs.Ok.refl (bs : List Nat) (s : Rs) : Rs.Ok bs s s [] := fun h => ⟨h, by simp⟩
theorem Rs.Ok.then_ {bs : List Nat} {s t u : Rs} {ys zs : List Nat} (h : Rs.Ok bs s t ys) (k : Rs.Ok bs t u zs) : Rs.Ok bs s u (ys ++ zs) := fun hu => by
  obtain ⟨h1, h2⟩ := k hu
  obtain ⟨h3, h4⟩ := h h1
  exact ⟨h3, by rw [h2, h4, List.append_assoc]⟩
end Go.Proofs.YthjnkaikjjjceaaDoor
namespace Go.Proofs.YthjnkaikjjjceaaDoor
open Go.RowKit
section
variable {W : World} {A : Option Addr} {bs : List Nat} {cap : Nat} {es : List Addr} {ae am ak : Addr}
/-- What the methods leave of a plan in the making. -/
theorem PS.count (hX : Rx W A bs cap es ae am ak) {X : World} {b : Nat} {p : Pn} {s : Rs} (h : PS W X b A bs cap es p s) (most : Nat) :
    X.cell? ⟨1, 0, none⟩ = some (errv am) ∧ Calls Tryd.prog 36 #[.pointer (some ⟨W.heap.size + 1, 0, none⟩), .int .i64 2, .int .i64 (most : Int), errv am] X fun e w' => e = .returned (.int .i64 (((s.count bs 2 most 3).1 : Nat) : Int)) ∧ PS W w' b A bs cap es p (s.count bs 2 most 3).2 := by
  refine ⟨((hX.at_ h.bl).2.2.2 3 _ am rfl hX.im).1, (count_m hX (W.heap.size + 1) 2 most 3 s am hX.im X (by omega) (by omega) (Nat.le_succ _) h.bl h.rd).mono ?_⟩
  rintro e w' ⟨h1, h2, h3⟩
  exact ⟨h1, h.call h2 h3⟩
theorem PS.signed (hX : Rx W A bs cap es ae am ak) {X : World} {b : Nat} {p : Pn} {s : Rs} (h : PS W X b A bs cap es p s) :
    Calls Tryd.prog 35 #[.pointer (some ⟨W.heap.size + 1, 0, none⟩)] X fun e w' => e = .returned (.int .i64 (s.signed bs).1) ∧ PS W w' b A bs cap es p (s.signed bs).2 := by
  refine (signed_m hX _ (W.heap.size + 1) s X (Nat.le_succ _) h.bl h.rd).mono ?_
  rintro e w' ⟨h1, h2, h3⟩
  exact ⟨h1, h.call h2.tight h3⟩
theorem PS.desc (hX : Rx W A bs cap es ae am ak) {X : World} {b : Nat} {p : Pn} {s : Rs} (h : PS W X b A bs cap es p s) :
    Calls Tryd.prog 37 #[.pointer (some ⟨W.heap.size + 1, 0, none⟩)] X fun e w' => (∃ d : Dsc, e = .returned (.agg d.vals.toArray) ∧ d.pl = (s.desc bs).1 ∧ d.Io 0 w') ∧ PS W w' b A bs cap es p (s.desc bs).2 := by
  refine (desc_m hX (W.heap.size + 1) s X (Nat.le_succ _) h.bl h.rd).mono ?_
  rintro e w' ⟨⟨d, h1, h2, h3⟩, h4, h5⟩
  refine ⟨⟨d, h1, h2, h3.less (Nat.zero_le _), ?_⟩, h.call h4 h5⟩
  have e1 : d.zs = (s.desc bs).1.1 := congrArg Prod.fst h2
  rw [e1]
  unfold Rs.desc
  dsimp only
  rw [Rs.rep_len]
  omega
/-- The plan while its views, .. come. -/
def Pn.p1 (z : Int) (V : Option Addr) (vs : List Vw) (vc : Nat) : Pn := ⟨z, V, vs, vc, none, [], 0, none, [], 0, none, [], 0, 0, 0⟩
def Pn.p2 (z : Int) (V : Option Addr) (vs : List Vw) (vc : Nat) (C : Option Addr) (cs : List Ten) (cc : Nat) : Pn := ⟨z, V, vs, vc, C, cs, cc, none, [], 0, none, [], 0, 0, 0⟩
def Pn.p3 (z : Int) (V : Option Addr) (vs : List Vw) (vc : Nat) (C : Option Addr) (cs : List Ten) (cc : Nat) (L : Option Addr) (ls : List Dsc) (lc : Nat) : Pn := ⟨z, V, vs, vc, C, cs, cc, L, ls, lc, none, [], 0, 0, 0⟩
def Pn.p4 (z : Int) (V : Option Addr) (vs : List Vw) (vc : Nat) (C : Option Addr) (cs : List Ten) (cc : Nat) (L : Option Addr) (ls : List Dsc) (lc : Nat) (K : Option Addr) (is : List Ins) (kc : Nat) : Pn := ⟨z, V, vs, vc, C, cs, cc, L, ls, lc, K, is, kc, 0, 0⟩
theorem PS.below {X Y : World} {b : Nat} {p : Pn} {s : Rs} (h : PS W X b A bs cap es p s) (hb : Below X.heap.size X Y) : PS W Y b A bs cap es p s := h.same ⟨hb.os, hb.tape, hb.output, hb.size, fun k hk _ => hb.block k hk⟩
/-- The empty plan with a size. -/
def Pn.of (z : Int) : Pn := ⟨z, none, [], 0, none, [], 0, none, [], 0, none, [], 0, 0, 0⟩
theorem Pw.of (base eb : Nat) (w : World) (z : Int) : Pw base eb w (Pn.of z) :=
  ⟨World.ownsRow_nil _ _ _ _, fun v hv => by simp [Pn.of] at hv, World.ownsRow_nil _ _ _ _, fun v hv => by simp [Pn.of] at hv, World.ownsRow_nil _ _ _ _, fun v hv => by simp [Pn.of] at hv, World.ownsRow_nil _ _ _ _, fun v hv => by simp [Pn.of] at hv⟩
theorem Pw.with_ {base eb : Nat} {w : World} {p q : Pn} (h : Pw base eb w p) (e : q = { p with size := q.size, inp := q.inp, out := q.out }) : Pw base eb w q := by
  rw [e]
  exact ⟨h.V, h.vs, h.C, h.cs, h.L, h.ls, h.K, h.is⟩
/-- A store into the plan's own number. -/
theorem PS.num {X : World} {b : Nat} {p q : Pn} {s : Rs} (h : PS W X b A bs cap es p s) (j : Nat) (v : Value) (hq : p.vals.set j v = q.vals) (e : q = { p with size := q.size, inp := q.inp, out := q.out }) : PS W (X.setCell ⟨b, j, none⟩ v) b A bs cap es q s := h.store j v hq (h.pw.with_ e)
end
end Go.Proofs.YthjnkaikjjjceaaDoor
