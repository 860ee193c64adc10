/-
  plan.instr, walked. By an AI agent. No person has read it.
-/
import Derived.Test.YthjnkaikjjjceaaDoorPkPlnE
namespace Go.Proofs.YthjnkaikjjjceaaDoor
open Go.RowKit
def Rs.i1 (bs : List Nat) (s : Rs) : Rs := (s.number bs 1).2
def Rs.i2 (bs : List Nat) (s : Rs) : Rs := ((s.i1 bs).signed bs).2
def Rs.i3 (bs : List Nat) (s : Rs) : Rs := ((s.i2 bs).numbers bs).2
def Rs.i4 (bs : List Nat) (s : Rs) : Rs := ((s.i3 bs).numbers bs).2
def Rs.i5 (bs : List Nat) (s : Rs) : Rs := ((s.i4 bs).signed bs).2
def Rs.i6 (bs : List Nat) (s : Rs) : Rs := ((s.i5 bs).signed bs).2
def Rs.instr (bs : List Nat) (s : Rs) : InP × Rs :=
  (⟨((s.number bs 1).1 : Nat), ((s.i1 bs).signed bs).1, ((s.i2 bs).numbers bs).1, ((s.i3 bs).numbers bs).1, ((s.i4 bs).signed bs).1, ((s.i5 bs).signed bs).1⟩, s.i6 bs)
theorem Rs.numbers_le (bs : List Nat) (s : Rs) : (s.numbers bs).1.length ≤ 8 := by
  unfold Rs.numbers
  rw [Rs.rep_len]
  exact Rs.count_le _ _ _ _ _
/-- The two boxes of an instruction, and the Reader. -/
structure InS (w0 W X : World) (g : Nat) (A : Option Addr) (bs : List Nat) (cap : Nat) (es : List Addr) (cs : List Value) (s : Rs) : Prop where
  r : Has X W.heap.size 48 [.int .i64 0, .int .i64 0, .slice none 0 0, .slice none 0 0, .int .i64 0, .int .i64 0]
  n : Has X (W.heap.size + 1) 48 cs
  rd : RdB X.heap.size X g A bs cap es s
  gr : W.grownBy X (some g)
  b : Below w0.heap.size w0 X
theorem InS.call {w0 W X Y : World} {g : Nat} {A : Option Addr} {bs : List Nat} {cap : Nat} {es : List Addr} {cs : List Value} {s s2 : Rs} (h : InS w0 W X g A bs cap es cs s) (hg0 : w0.heap.size ≤ g) (hgW : g < W.heap.size) (hr : RdB Y.heap.size Y g A bs cap es s2) (hg : X.grownBy Y (some g)) : InS w0 W Y g A bs cap es cs s2 :=
  ⟨h.r.grown hg (by intro e; injection e; omega), h.n.grown hg (by intro e; injection e; omega), hr, h.gr.trans hg, h.b.grown hg h.b.size (fun k e => by cases e; exact hg0)⟩
theorem InS.store {w0 W X : World} {g : Nat} {A : Option Addr} {bs : List Nat} {cap : Nat} {es : List Addr} {cs : List Value} {s : Rs} (h : InS w0 W X g A bs cap es cs s) (hW : w0.heap.size ≤ W.heap.size) (j : Nat) (v : Value) : InS w0 W (X.setCell ⟨W.heap.size + 1, j, none⟩ v) g A bs cap es (cs.set j v) s := by
  have hG := grown_one X ⟨W.heap.size + 1, j, none⟩ v
  refine ⟨h.r.far (by simp) v, h.n.set_ j v, (h.rd.not_at hG (NotT.has h.n (by decide)) (NotT.has h.n (by decide))).tight, grown_setnew h.gr _ (Nat.le_succ _) v, h.b.grown hG h.b.size (fun k e => by cases e; show w0.heap.size ≤ W.heap.size + 1; omega)⟩
theorem InS.far {w0 W X : World} {g : Nat} {A : Option Addr} {bs : List Nat} {cap : Nat} {es : List Addr} {cs : List Value} {s : Rs} (h : InS w0 W X g A bs cap es cs s) {base : Nat} {P : Option Addr} {zs : List Int} (hio : Io base X P zs) (j : Nat) (v : Value) : Io base (X.setCell ⟨W.heap.size + 1, j, none⟩ v) P zs :=
  hio.grown (grown_one X ⟨W.heap.size + 1, j, none⟩ v) (NotT.has h.n (by decide))
theorem io_call {X Y : World} {g : Nat} {A : Option Addr} {bs : List Nat} {cap : Nat} {es : List Addr} {s : Rs} {base B : Nat} {P : Option Addr} {zs : List Int} (hio : Io base X P zs) (hr : RdB B X g A bs cap es s) (hg : X.grownBy Y (some g)) : Io base Y P zs := by
  obtain ⟨cs, hH⟩ := hr.has
  exact hio.grown hg (NotT.has hH (by decide))
theorem InS.fin {w0 W X : World} {g : Nat} {A : Option Addr} {bs : List Nat} {cap : Nat} {es : List Addr} {v0 v1 v2 v3 v4 v5 : Value} {s : Rs} (h : InS w0 W X g A bs cap es [v0, v1, v2, v3, v4, v5] s) (_hW : w0.heap.size ≤ W.heap.size) :
    Has ((((((X.setCell ⟨W.heap.size, 0, none⟩ v0).setCell ⟨W.heap.size, 1, none⟩ v1).setCell ⟨W.heap.size, 2, none⟩ v2).setCell ⟨W.heap.size, 3, none⟩ v3).setCell ⟨W.heap.size, 4, none⟩ v4).setCell ⟨W.heap.size, 5, none⟩ v5) W.heap.size 48 [v0, v1, v2, v3, v4, v5] ∧
    RdB ((((((X.setCell ⟨W.heap.size, 0, none⟩ v0).setCell ⟨W.heap.size, 1, none⟩ v1).setCell ⟨W.heap.size, 2, none⟩ v2).setCell ⟨W.heap.size, 3, none⟩ v3).setCell ⟨W.heap.size, 4, none⟩ v4).setCell ⟨W.heap.size, 5, none⟩ v5).heap.size ((((((X.setCell ⟨W.heap.size, 0, none⟩ v0).setCell ⟨W.heap.size, 1, none⟩ v1).setCell ⟨W.heap.size, 2, none⟩ v2).setCell ⟨W.heap.size, 3, none⟩ v3).setCell ⟨W.heap.size, 4, none⟩ v4).setCell ⟨W.heap.size, 5, none⟩ v5) g A bs cap es s ∧
    W.grownBy ((((((X.setCell ⟨W.heap.size, 0, none⟩ v0).setCell ⟨W.heap.size, 1, none⟩ v1).setCell ⟨W.heap.size, 2, none⟩ v2).setCell ⟨W.heap.size, 3, none⟩ v3).setCell ⟨W.heap.size, 4, none⟩ v4).setCell ⟨W.heap.size, 5, none⟩ v5) (some g) := by
  have hG := grown_set (grown_set (grown_set (grown_set (grown_set (grown_one X ⟨W.heap.size, 0, none⟩ v0) ⟨W.heap.size, 1, none⟩ rfl v1) ⟨W.heap.size, 2, none⟩ rfl v2) ⟨W.heap.size, 3, none⟩ rfl v3) ⟨W.heap.size, 4, none⟩ rfl v4) ⟨W.heap.size, 5, none⟩ rfl v5
  exact ⟨(((((h.r.set_ 0 v0).set_ 1 v1).set_ 2 v2).set_ 3 v3).set_ 4 v4).set_ 5 v5, (h.rd.not_at hG (NotT.has h.r (by decide)) (NotT.has h.r (by decide))).tight,
    grown_setnew (grown_setnew (grown_setnew (grown_setnew (grown_setnew (grown_setnew h.gr _ (Nat.le_refl _) v0) _ (Nat.le_refl _) v1) _ (Nat.le_refl _) v2) _ (Nat.le_refl _) v3) _ (Nat.le_refl _) v4) _ (Nat.le_refl _) v5⟩
theorem InS.fio {w0 W X : World} {g : Nat} {A : Option Addr} {bs : List Nat} {cap : Nat} {es : List Addr} {cs : List Value} {s : Rs} (h : InS w0 W X g A bs cap es cs s) {base : Nat} {P : Option Addr} {zs : List Int} (hio : Io base X P zs) (v0 v1 v2 v3 v4 v5 : Value) :
    Io base ((((((X.setCell ⟨W.heap.size, 0, none⟩ v0).setCell ⟨W.heap.size, 1, none⟩ v1).setCell ⟨W.heap.size, 2, none⟩ v2).setCell ⟨W.heap.size, 3, none⟩ v3).setCell ⟨W.heap.size, 4, none⟩ v4).setCell ⟨W.heap.size, 5, none⟩ v5) P zs :=
  hio.grown (grown_set (grown_set (grown_set (grown_set (grown_set (grown_one X ⟨W.heap.size, 0, none⟩ v0) ⟨W.heap.size, 1, none⟩ rfl v1) ⟨W.heap.size, 2, none⟩ rfl v2) ⟨W.heap.size, 3, none⟩ rfl v3) ⟨W.heap.size, 4, none⟩ rfl v4) ⟨W.heap.size, 5, none⟩ rfl v5) (NotT.has h.r (by decide))
section
variable {w0 : World} {A : Option Addr} {bs : List Nat} {cap : Nat} {es : List Addr} {ae am ak : Addr}
set_option maxRecDepth 100000 in
set_option maxHeartbeats 4000000 in
theorem instr_m (hX : Rx w0 A bs cap es ae am ak) (g : Nat) (s : Rs) (W : World) (hg : w0.heap.size ≤ g) (hW : Below w0.heap.size w0 W) (h : RdB W.heap.size W g A bs cap es s) :
    Calls Tryd.prog 41 #[.pointer (some ⟨g, 0, none⟩)] W fun e w' => (∃ n : Ins, e = .returned (.agg n.vals.toArray) ∧ n.pl = (s.instr bs).1 ∧ n.Io W.heap.size w') ∧ RdB w'.heap.size w' g A bs cap es (s.instr bs).2 ∧ W.grownBy w' (some g) := by
  have hsz := hW.size
  have hlt := h.lt
  have HSZ := hide hsz
  have HLT := hide hlt
  have HGG := hide hg
  obtain ⟨X0, hX0⟩ : ∃ X0, Hid ((W.alloc (Obj.cells #[.int .i64 0, .int .i64 0, .slice none 0 0, .slice none 0 0, .int .i64 0, .int .i64 0] 48)).alloc (Obj.cells #[.int .i64 0, .int .i64 0, .slice none 0 0, .slice none 0 0, .int .i64 0, .int .i64 0] 48) = X0) := ⟨_, hide rfl⟩
  have S0 : Hid (InS w0 W X0 g A bs cap es [.int .i64 0, .int .i64 0, .slice none 0 0, .slice none 0 0, .int .i64 0, .int .i64 0] s) := hide (by
    rw [← hX0.out]
    have G1 := World.grownBy_alloc W (Obj.cells #[.int .i64 0, .int .i64 0, .slice none 0 0, .slice none 0 0, .int .i64 0, .int .i64 0] 48)
    have G2 := World.grownBy_alloc (W.alloc (Obj.cells #[.int .i64 0, .int .i64 0, .slice none 0 0, .slice none 0 0, .int .i64 0, .int .i64 0] 48)) (Obj.cells #[.int .i64 0, .int .i64 0, .slice none 0 0, .slice none 0 0, .int .i64 0, .int .i64 0] 48)
    refine ⟨(Has.new W 48 [.int .i64 0, .int .i64 0, .slice none 0 0, .slice none 0 0, .int .i64 0, .int .i64 0]).alloc _, ?_, ?_, (G1 (some g)).trans (G2 (some g)), (hW.alloc hW.size _).alloc (by have := hW.size; simp; omega) _⟩
    · have h := Has.new (W.alloc (Obj.cells #[.int .i64 0, .int .i64 0, .slice none 0 0, .slice none 0 0, .int .i64 0, .int .i64 0] 48)) 48 [.int .i64 0, .int .i64 0, .slice none 0 0, .slice none 0 0, .int .i64 0, .int .i64 0]
      have e : (W.alloc (Obj.cells #[.int .i64 0, .int .i64 0, .slice none 0 0, .slice none 0 0, .int .i64 0, .int .i64 0] 48)).heap.size = W.heap.size + 1 := by simp
      rw [e] at h
      exact h
    · exact (h.grown ((G1 none).trans (G2 none)) (fun k e => by cases e)).tight)
  clear h hW hsz hlt hg
  go_enter Tryd.func41, Tryd.ntmps41
  go_wp2_with fail
  rw [hX0.out]
  clear hX0
  have C0 := hide (number_m hX _ g 1 _ _ (by omega) (by omega) HGG.out S0.out.b S0.out.rd)
  refine C0.out.mono ?_
  rintro e w1 ⟨rfl, hr, hgr⟩
  obtain ⟨z0, hz0⟩ : ∃ z : Int, Hid ((((s.number bs 1).1 : Nat) : Int) = z) := ⟨_, hide rfl⟩
  rw [show ((Rs.number bs 1 s).1 : Int) = z0 from hz0.out]
  have T1 := hide (show InS w0 W w1 g A bs cap es _ (s.i1 bs) from S0.out.call HGG.out HLT.out hr.tight hgr)
  clear S0 C0 hr hgr
  have S1 := hide (T1.out.store HSZ.out 0 (.int .i64 z0))
  have f1 := T1.out.n.frozen 0
  have nl1 := T1.out.n.lt
  have o1 : w1.cell? ⟨W.heap.size + 1, 0, none⟩ = some (.int .i64 0) := T1.out.n.cell 0
  clear T1
  have C1 := hide (signed_m hX _ g _ _ HGG.out S1.out.b S1.out.rd)
  go_wp2_with fail
  clear f1 nl1 o1
  refine C1.out.mono ?_
  rintro e w2 ⟨rfl, hr, hgr⟩
  obtain ⟨z1, hz1⟩ : ∃ z : Int, Hid (((s.i1 bs).signed bs).1 = z) := ⟨_, hide rfl⟩
  rw [show (Rs.signed bs _).1 = z1 from hz1.out]
  have T2 := hide (show InS w0 W w2 g A bs cap es _ (s.i2 bs) from S1.out.call HGG.out HLT.out hr.tight hgr)
  clear S1 C1 hr hgr
  have S2 := hide (T2.out.store HSZ.out 1 (.int .i64 z1))
  have f2 := T2.out.n.frozen 1
  have nl2 := T2.out.n.lt
  have o2 : w2.cell? ⟨W.heap.size + 1, 1, none⟩ = some (.int .i64 0) := T2.out.n.cell 1
  clear T2
  have C2 := hide (numbers_m hX g _ _ HGG.out S2.out.b S2.out.rd)
  go_wp2_with fail
  clear f2 nl2 o2
  refine C2.out.mono ?_
  rintro e w3 ⟨⟨P2, c2, rfl, io2⟩, hr, hgr⟩
  obtain ⟨n2, hn2⟩ : ∃ n, Hid (((s.i2 bs).numbers bs).1.length = n) := ⟨_, hide rfl⟩
  rw [show (Rs.numbers bs _).1.length = n2 from hn2.out]
  have IO2_ := hide (io2.less (b2 := W.heap.size) S2.out.gr.size)
  have T3 := hide (show InS w0 W w3 g A bs cap es _ (s.i3 bs) from S2.out.call HGG.out HLT.out hr hgr)
  clear S2 C2 hr hgr io2
  have S3 := hide (T3.out.store HSZ.out 2 (.slice P2 n2 c2))
  have IO2 := hide (T3.out.far IO2_.out 2 (.slice P2 n2 c2))
  have f3 := T3.out.n.frozen 2
  have nl3 := T3.out.n.lt
  have o3 : w3.cell? ⟨W.heap.size + 1, 2, none⟩ = some (.slice none 0 0) := T3.out.n.cell 2
  clear T3 IO2_
  have C3 := hide (numbers_m hX g _ _ HGG.out S3.out.b S3.out.rd)
  go_wp2_with fail
  clear f3 nl3 o3
  refine C3.out.mono ?_
  rintro e w4 ⟨⟨P3, c3, rfl, io3⟩, hr, hgr⟩
  obtain ⟨n3, hn3⟩ : ∃ n, Hid (((s.i3 bs).numbers bs).1.length = n) := ⟨_, hide rfl⟩
  rw [show (Rs.numbers bs _).1.length = n3 from hn3.out]
  have IO3_ := hide (io3.less (b2 := W.heap.size) S3.out.gr.size)
  have IO2_ := hide (io_call IO2.out S3.out.rd hgr)
  have T4 := hide (show InS w0 W w4 g A bs cap es _ (s.i4 bs) from S3.out.call HGG.out HLT.out hr hgr)
  clear S3 C3 hr hgr IO2 io3
  have S4 := hide (T4.out.store HSZ.out 3 (.slice P3 n3 c3))
  have IO2 := hide (T4.out.far IO2_.out 3 (.slice P3 n3 c3))
  have IO3 := hide (T4.out.far IO3_.out 3 (.slice P3 n3 c3))
  have f4 := T4.out.n.frozen 3
  have nl4 := T4.out.n.lt
  have o4 : w4.cell? ⟨W.heap.size + 1, 3, none⟩ = some (.slice none 0 0) := T4.out.n.cell 3
  clear T4 IO2_ IO3_
  have C4 := hide (signed_m hX _ g _ _ HGG.out S4.out.b S4.out.rd)
  go_wp2_with fail
  clear f4 nl4 o4
  refine C4.out.mono ?_
  rintro e w5 ⟨rfl, hr, hgr⟩
  obtain ⟨z4, hz4⟩ : ∃ z : Int, Hid (((s.i4 bs).signed bs).1 = z) := ⟨_, hide rfl⟩
  rw [show (Rs.signed bs _).1 = z4 from hz4.out]
  have IO2_ := hide (io_call IO2.out S4.out.rd hgr)
  have IO3_ := hide (io_call IO3.out S4.out.rd hgr)
  have T5 := hide (show InS w0 W w5 g A bs cap es _ (s.i5 bs) from S4.out.call HGG.out HLT.out hr.tight hgr)
  clear S4 C4 hr hgr IO2 IO3
  have S5 := hide (T5.out.store HSZ.out 4 (.int .i64 z4))
  have IO2 := hide (T5.out.far IO2_.out 4 (.int .i64 z4))
  have IO3 := hide (T5.out.far IO3_.out 4 (.int .i64 z4))
  have f5 := T5.out.n.frozen 4
  have nl5 := T5.out.n.lt
  have o5 : w5.cell? ⟨W.heap.size + 1, 4, none⟩ = some (.int .i64 0) := T5.out.n.cell 4
  clear T5 IO2_ IO3_
  have C5 := hide (signed_m hX _ g _ _ HGG.out S5.out.b S5.out.rd)
  go_wp2_with fail
  clear f5 nl5 o5
  refine C5.out.mono ?_
  rintro e w6 ⟨rfl, hr, hgr⟩
  obtain ⟨z5, hz5⟩ : ∃ z : Int, Hid (((s.i5 bs).signed bs).1 = z) := ⟨_, hide rfl⟩
  rw [show (Rs.signed bs _).1 = z5 from hz5.out]
  have IO2_ := hide (io_call IO2.out S5.out.rd hgr)
  have IO3_ := hide (io_call IO3.out S5.out.rd hgr)
  have T6 := hide (show InS w0 W w6 g A bs cap es _ (s.i6 bs) from S5.out.call HGG.out HLT.out hr.tight hgr)
  clear S5 C5 hr hgr IO2 IO3
  have S6 := hide (T6.out.store HSZ.out 5 (.int .i64 z5))
  have IO2 := hide (T6.out.far IO2_.out 5 (.int .i64 z5))
  have IO3 := hide (T6.out.far IO3_.out 5 (.int .i64 z5))
  have f6 := T6.out.n.frozen 5
  have nl6 := T6.out.n.lt
  have o6 : w6.cell? ⟨W.heap.size + 1, 5, none⟩ = some (.int .i64 0) := T6.out.n.cell 5
  have d0 : w6.cell? ⟨W.heap.size + 1, 0, none⟩ = some (.int .i64 z0) := T6.out.n.cell 0
  have d1 : w6.cell? ⟨W.heap.size + 1, 1, none⟩ = some (.int .i64 z1) := T6.out.n.cell 1
  have d2 : w6.cell? ⟨W.heap.size + 1, 2, none⟩ = some (.slice P2 n2 c2) := T6.out.n.cell 2
  have d3 : w6.cell? ⟨W.heap.size + 1, 3, none⟩ = some (.slice P3 n3 c3) := T6.out.n.cell 3
  have d4 : w6.cell? ⟨W.heap.size + 1, 4, none⟩ = some (.int .i64 z4) := T6.out.n.cell 4
  have e0 : (w6.setCell ⟨W.heap.size + 1, 5, none⟩ (.int .i64 z5)).cell? ⟨W.heap.size + 1, 0, none⟩ = some (.int .i64 z0) := S6.out.n.cell 0
  have e1 : (w6.setCell ⟨W.heap.size + 1, 5, none⟩ (.int .i64 z5)).cell? ⟨W.heap.size + 1, 1, none⟩ = some (.int .i64 z1) := S6.out.n.cell 1
  have e2 : (w6.setCell ⟨W.heap.size + 1, 5, none⟩ (.int .i64 z5)).cell? ⟨W.heap.size + 1, 2, none⟩ = some (.slice P2 n2 c2) := S6.out.n.cell 2
  have e3 : (w6.setCell ⟨W.heap.size + 1, 5, none⟩ (.int .i64 z5)).cell? ⟨W.heap.size + 1, 3, none⟩ = some (.slice P3 n3 c3) := S6.out.n.cell 3
  have e4 : (w6.setCell ⟨W.heap.size + 1, 5, none⟩ (.int .i64 z5)).cell? ⟨W.heap.size + 1, 4, none⟩ = some (.int .i64 z4) := S6.out.n.cell 4
  have e5 : (w6.setCell ⟨W.heap.size + 1, 5, none⟩ (.int .i64 z5)).cell? ⟨W.heap.size + 1, 5, none⟩ = some (.int .i64 z5) := S6.out.n.cell 5
  have q0 := S6.out.r.frozen 0
  have p0 := T6.out.r.frozen 0
  have q1 := S6.out.r.frozen 1
  have p1 := T6.out.r.frozen 1
  have q2 := S6.out.r.frozen 2
  have p2 := T6.out.r.frozen 2
  have q3 := S6.out.r.frozen 3
  have p3 := T6.out.r.frozen 3
  have q4 := S6.out.r.frozen 4
  have p4 := T6.out.r.frozen 4
  have q5 := S6.out.r.frozen 5
  have p5 := T6.out.r.frozen 5
  have b0 : w6.cell? ⟨W.heap.size, 0, none⟩ = some (.int .i64 0) := T6.out.r.cell 0
  have b1 : w6.cell? ⟨W.heap.size, 1, none⟩ = some (.int .i64 0) := T6.out.r.cell 1
  have b2 : w6.cell? ⟨W.heap.size, 2, none⟩ = some (.slice none 0 0) := T6.out.r.cell 2
  have b3 : w6.cell? ⟨W.heap.size, 3, none⟩ = some (.slice none 0 0) := T6.out.r.cell 3
  have b4 : w6.cell? ⟨W.heap.size, 4, none⟩ = some (.int .i64 0) := T6.out.r.cell 4
  have b5 : w6.cell? ⟨W.heap.size, 5, none⟩ = some (.int .i64 0) := T6.out.r.cell 5
  have FIN := hide (S6.out.fin HSZ.out)
  have FO2 := hide (S6.out.fio IO2.out (.int .i64 z0) (.int .i64 z1) (.slice P2 n2 c2) (.slice P3 n3 c3) (.int .i64 z4) (.int .i64 z5))
  have FO3 := hide (S6.out.fio IO3.out (.int .i64 z0) (.int .i64 z1) (.slice P2 n2 c2) (.slice P3 n3 c3) (.int .i64 z4) (.int .i64 z5))
  clear T6 IO2_ IO3_
  clear S6 IO2 IO3
  go_wp2_with fail
  refine bodyPost_ret (results_cell_row rfl _ _ W.heap.size 48 #[.int .i64 z0, .int .i64 z1, .slice P2 n2 c2, .slice P3 n3 c3, .int .i64 z4, .int .i64 z5] (0, 0) _ rfl FIN.out.1 Tryd.underlying48 rfl (by kernel_rfl)) rfl ?_
  refine ⟨⟨⟨z0, z1, P2, ((s.i2 bs).numbers bs).1, c2, P3, ((s.i3 bs).numbers bs).1, c3, z4, z5⟩, ?_, ?_, FO2.out, FO3.out, ?_, ?_⟩, FIN.out.2.1, FIN.out.2.2⟩
  · unfold Ins.vals
    dsimp only
    rw [hn2.out, hn3.out]
  · show InP.mk z0 z1 _ _ z4 z5 = _
    rw [← hz0.out, ← hz1.out, ← hz4.out, ← hz5.out]
    rfl
  · exact Nat.le_trans (Rs.numbers_le _ _) (by omega)
  · exact Nat.le_trans (Rs.numbers_le _ _) (by omega)
end
end Go.Proofs.YthjnkaikjjjceaaDoor
