/-
  plan.instr, walked. By an AI agent. No person has read it.
-/
import Derived.Test.YthjnkaikjjjceaaDoorPcPlnE
import Derived.Deep.RegionLaw
namespace Go.Proofs.YthjnkaikjjjceaaDoor
open Go.RowKit
/-- The two boxes of an instruction, and the Reader. -/
structure InS (w0 W X : World) (g : Nat) (A : Option Addr) (bs : List Nat) (cap : Nat) (es : List Addr) (cs : List Value) (s : Rs) : Prop where
  r : Has X W.heap.size 48 [.int .i64 0, .int .i64 0, .slice none 0 0, .slice none 0 0, .int .i64 0, .int .i64 0]
  n : Has X (W.heap.size + 1) 48 cs
  rd : RdB X.heap.size X g A bs cap es s
  gr : W.grownBy X (some g)
  b : Below w0.heap.size w0 X
theorem InS.call {w0 W X Y : World} {g : Nat} {A : Option Addr} {bs : List Nat} {cap : Nat} {es : List Addr} {cs : List Value} {s s2 : Rs} (h : InS w0 W X g A bs cap es cs s) (hg0 : w0.heap.size ≤ g) (hgW : g < W.heap.size) (hr : RdB Y.heap.size Y g A bs cap es s2) (hg : X.grownBy Y (some g)) : InS w0 W Y g A bs cap es cs s2 :=
  ⟨h.r.grown hg (by intro e; injection e; omega), h.n.grown hg (by intro e; injection e; omega), hr, h.gr.trans hg, h.b.grown hg h.b.size (fun k e => by cases e; exact hg0)⟩
theorem InS.store {w0 W X : World} {g : Nat} {A : Option Addr} {bs : List Nat} {cap : Nat} {es : List Addr} {cs : List Value} {s : Rs} (h : InS w0 W X g A bs cap es cs s) (hW : w0.heap.size ≤ W.heap.size) (j : Nat) (v : Value) : InS w0 W (X.setCell ⟨W.heap.size + 1, j, none⟩ v) g A bs cap es (cs.set j v) s := by
  have hG := grown_one X ⟨W.heap.size + 1, j, none⟩ v
  refine ⟨h.r.far (by simp) v, h.n.set_ j v, (h.rd.not_at hG (NotT.has h.n (by decide)) (NotT.has h.n (by decide))).tight, grown_setnew h.gr _ (Nat.le_succ _) v, h.b.grown hG h.b.size (fun k e => by cases e; show w0.heap.size ≤ W.heap.size + 1; omega)⟩
theorem InS.far {w0 W X : World} {g : Nat} {A : Option Addr} {bs : List Nat} {cap : Nat} {es : List Addr} {cs : List Value} {s : Rs} (h : InS w0 W X g A bs cap es cs s) {base : Nat} {P : Option Addr} {zs : List Int} (hio : Io base X P zs) (j : Nat) (v : Value) : Io base (X.setCell ⟨W.heap.size + 1, j, none⟩ v) P zs :=
  hio.grown (grown_one X ⟨W.heap.size + 1, j, none⟩ v) (NotT.has h.n (by decide))
section
variable {w0 : World} {A : Option Addr} {bs : List Nat} {cap : Nat} {es : List Addr} {ae am ak : Addr}
end
end Go.Proofs.YthjnkaikjjjceaaDoor
namespace Go.Proofs.YthjnkaikjjjceaaDoor
open Go.RowKit
def Pl.head (bs : List Nat) : Rs := if (Rs.piece bs 2 ⟨0, none⟩).1 = [76, 80] then (Rs.piece bs 2 ⟨0, none⟩).2 else (Rs.piece bs 2 ⟨0, none⟩).2.fail (some 0, 2)
def PlP.zero : PlP := ⟨0, [], [], [], [], 0, 0⟩
theorem tnsinfo : ∃ i : TypeInfo, Tryd.prog.info? 70 = some i ∧ i.zero = some (.agg #[.slice none 0 0, .bool false, .slice none 0 0]) ∧ i.size = 3 ∧ i.bytes = 56 := by
  obtain ⟨i, hi⟩ : ∃ i, Tryd.prog.info? 70 = some i := by
    refine Option.isSome_iff_exists.1 ?_
    kernel_rfl
  have h1 : (Tryd.prog.info? 70).bind (·.zero) = some (.agg #[.slice none 0 0, .bool false, .slice none 0 0]) := by kernel_rfl
  have h2 : (Tryd.prog.info? 70).map (·.size) = some 3 := by kernel_rfl
  have h3 : (Tryd.prog.info? 70).map (·.bytes) = some 56 := by kernel_rfl
  rw [hi] at h1 h2 h3
  exact ⟨i, hi, by simpa using h1, by simpa using h2, by simpa using h3⟩
theorem utens : Tryd.prog.underlying 23 = some (.slice 70) := by kernel_rfl
theorem insinfo : ∃ i : TypeInfo, Tryd.prog.info? 48 = some i ∧ i.zero = some (.agg #[.int .i64 0, .int .i64 0, .slice none 0 0, .slice none 0 0, .int .i64 0, .int .i64 0]) ∧ i.size = 6 ∧ i.bytes = 80 := by
  obtain ⟨i, hi⟩ : ∃ i, Tryd.prog.info? 48 = some i := by
    refine Option.isSome_iff_exists.1 ?_
    kernel_rfl
  have h1 : (Tryd.prog.info? 48).bind (·.zero) = some (.agg #[.int .i64 0, .int .i64 0, .slice none 0 0, .slice none 0 0, .int .i64 0, .int .i64 0]) := by kernel_rfl
  have h2 : (Tryd.prog.info? 48).map (·.size) = some 6 := by kernel_rfl
  have h3 : (Tryd.prog.info? 48).map (·.bytes) = some 80 := by kernel_rfl
  rw [hi] at h1 h2 h3
  exact ⟨i, hi, by simpa using h1, by simpa using h2, by simpa using h3⟩
theorem uins : Tryd.prog.underlying 25 = some (.slice 48) := by kernel_rfl

theorem Dsc.one (d : Dsc) : ∀ y ∈ d.vals, y.oneCell' = true := by intro y hy; simp [Dsc.vals] at hy; rcases hy with rfl | rfl; all_goals rfl
def PlP.zeros : List Value := [.int .i64 0, .slice none 0 0, .slice none 0 0, .slice none 0 0, .slice none 0 0, .int .i64 0, .int .i64 0]
/-- The Reader, the plan's box and the answer's box while a plan is read. -/
structure PS (W X : World) (b : Nat) (A : Option Addr) (bs : List Nat) (cap : Nat) (es : List Addr) (p : Pn) (s : Rs) : Prop where
  r : Has X W.heap.size 27 PlP.zeros
  bx : Has X b 27 p.vals
  rd : RdB X.heap.size X (W.heap.size + 1) A bs cap es s
  pw : Pw W.heap.size 0 X p
  bl : Below W.heap.size W X
  hb : W.heap.size + 1 < b
theorem PS.call {W X Y : World} {b : Nat} {A : Option Addr} {bs : List Nat} {cap : Nat} {es : List Addr} {p : Pn} {s s2 : Rs} (h : PS W X b A bs cap es p s) (hr : RdB Y.heap.size Y (W.heap.size + 1) A bs cap es s2) (hg : X.grownBy Y (some (W.heap.size + 1))) : PS W Y b A bs cap es p s2 := by
  obtain ⟨cs, hc⟩ := h.rd.has
  have := h.hb
  exact ⟨h.r.grown hg (by intro e; injection e; omega), h.bx.grown hg (by intro e; injection e; omega), hr, h.pw.grown hg (NotP.rdr hc), h.bl.grown hg h.bl.size (fun k e => by cases e; omega), h.hb⟩
/-- .. with nothing but what is new. -/
theorem PS.same {W X Y : World} {b : Nat} {A : Option Addr} {bs : List Nat} {cap : Nat} {es : List Addr} {p : Pn} {s : Rs} (h : PS W X b A bs cap es p s) (hg : X.grownBy Y none) : PS W Y b A bs cap es p s :=
  ⟨h.r.grown hg (by simp), h.bx.grown hg (by simp), (h.rd.grown hg (fun k e => by cases e)).tight, h.pw.grown hg (NotP.none _), h.bl.grown hg h.bl.size (fun k e => by cases e), h.hb⟩
theorem PS.store {W X : World} {b : Nat} {A : Option Addr} {bs : List Nat} {cap : Nat} {es : List Addr} {p q : Pn} {s : Rs} (h : PS W X b A bs cap es p s) (j : Nat) (v : Value) (hq : p.vals.set j v = q.vals) (hw : Pw W.heap.size 0 X q) : PS W (X.setCell ⟨b, j, none⟩ v) b A bs cap es q s := by
  have hG := grown_one X ⟨b, j, none⟩ v
  have := h.hb
  refine ⟨h.r.far (by simp; omega) v, hq ▸ h.bx.set_ j v, (h.rd.not_at hG (NotT.has h.bx (by decide)) (NotT.has h.bx (by decide))).tight, hw.grown hG (NotP.plan h.bx), h.bl.grown hG h.bl.size (fun k e => by cases e; show W.heap.size ≤ b; omega), h.hb⟩
theorem PS.c {W X : World} {b : Nat} {A : Option Addr} {bs : List Nat} {cap : Nat} {es : List Addr} {p : Pn} {s : Rs} (h : PS W X b A bs cap es p s) (j : Nat) : X.cell? ⟨b, j, none⟩ = p.vals[j]? := h.bx.cell j
/-- A row of a plan's own grows: all but that row stays. -/
theorem PS.row {W X Y : World} {b n k base : Nat} {A : Option Addr} {bs : List Nat} {cap : Nat} {es : List Addr} {p : Pn} {s : Rs} {e : TypeId} {v : Value} {xs : List Value} (h : PS W X b A bs cap es p s) (ho : X.ownsRow base e k v n xs) (hbs : W.heap.size + 1 < base ∨ W.heap.size ≤ base) (hg : X.grownBy Y v.ownBlock)
    (h1 : 27 ≠ e) (h2 : 118 ≠ e) (h3 : 122 ≠ e) : Has Y W.heap.size 27 PlP.zeros ∧ Has Y b 27 p.vals ∧ RdB Y.heap.size Y (W.heap.size + 1) A bs cap es s ∧ Below W.heap.size W Y := by
  refine ⟨h.r.grown hg fun e => NotT.own ho h1 _ e.symm _ h.r, h.bx.grown hg fun e => NotT.own ho h1 _ e.symm _ h.bx, (h.rd.not_at hg (NotT.own ho h2) (NotT.own ho h3)).tight, h.bl.grown hg h.bl.size fun k hk => ?_⟩
  have := own_low ho k hk
  omega
end Go.Proofs.YthjnkaikjjjceaaDoor
