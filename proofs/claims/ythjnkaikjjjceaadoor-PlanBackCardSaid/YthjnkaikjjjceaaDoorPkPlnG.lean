/-
  What plan.Read says of bytes, by plain values; a plan in the making. By an AI agent. No person has read it.
-/
import Derived.Test.YthjnkaikjjjceaaDoorPkPlnF
import Derived.Deep.RegionLaw
namespace Go.Proofs.YthjnkaikjjjceaaDoor
open Go.RowKit
def Rs.view (bs : List Nat) (_ : Nat) (s : Rs) : VwP × Rs := (((s.signed bs).1, ((s.signed bs).2.desc bs).1), ((s.signed bs).2.desc bs).2)
def Rs.tens (bs : List Nat) (i : Nat) (s : Rs) : TnP × Rs := ((Tens.rez (s.rest bs), Tens.reu (s.rest bs), Tens.red (s.rest bs)), s.took bs (Tens.ren (s.rest bs)) (Tens.rcode (s.rest bs)) i)
def Rs.dsc (bs : List Nat) (_ : Nat) (s : Rs) : DsP × Rs := s.desc bs
def Rs.ins (bs : List Nat) (_ : Nat) (s : Rs) : InP × Rs := s.instr bs
def Pl.head (bs : List Nat) : Rs := if (Rs.piece bs 2 ⟨0, none⟩).1 = [76, 80] then (Rs.piece bs 2 ⟨0, none⟩).2 else (Rs.piece bs 2 ⟨0, none⟩).2.fail (some 0, 2)
def Pl.p1 (bs : List Nat) : Int × Rs := (Pl.head bs).signed bs
def Pl.p2 (bs : List Nat) : Nat × Rs := (Pl.p1 bs).2.count bs 2 128 3
def Pl.p3 (bs : List Nat) : List VwP × Rs := Rs.rep (Rs.view bs) (Pl.p2 bs).1 (Pl.p2 bs).2
def Pl.p4 (bs : List Nat) : Nat × Rs := (Pl.p3 bs).2.count bs 2 64 3
def Pl.p5 (bs : List Nat) : List TnP × Rs := Rs.rep (Rs.tens bs) (Pl.p4 bs).1 (Pl.p4 bs).2
def Pl.p6 (bs : List Nat) : Nat × Rs := (Pl.p5 bs).2.count bs 2 8 3
def Pl.p7 (bs : List Nat) : List DsP × Rs := Rs.rep (Rs.dsc bs) (Pl.p6 bs).1 (Pl.p6 bs).2
def Pl.p8 (bs : List Nat) : Nat × Rs := (Pl.p7 bs).2.count bs 2 2048 3
def Pl.p9 (bs : List Nat) : List InP × Rs := Rs.rep (Rs.ins bs) (Pl.p8 bs).1 (Pl.p8 bs).2
def Pl.p10 (bs : List Nat) : Int × Rs := (Pl.p9 bs).2.signed bs
def Pl.p11 (bs : List Nat) : Int × Rs := (Pl.p10 bs).2.signed bs
def Pl.p12 (bs : List Nat) : Rs := (Pl.p11 bs).2.end_ bs
def PlP.zero : PlP := ⟨0, [], [], [], [], 0, 0⟩
def Pl.read (bs : List Nat) : PlP := if (Pl.p12 bs).e = none then ⟨(Pl.p1 bs).1, (Pl.p3 bs).1, (Pl.p5 bs).1, (Pl.p7 bs).1, (Pl.p9 bs).1, (Pl.p10 bs).1, (Pl.p11 bs).1⟩ else PlP.zero

theorem viewinfo : ∃ i : TypeInfo, Tryd.prog.info? 61 = some i ∧ i.zero = some (.agg #[.int .i64 0, .slice none 0 0, .bool false]) ∧ i.size = 3 ∧ i.bytes = 40 := by
  obtain ⟨i, hi⟩ : ∃ i, Tryd.prog.info? 61 = some i := by
    refine Option.isSome_iff_exists.1 ?_
    kernel_rfl
  have h1 : (Tryd.prog.info? 61).bind (·.zero) = some (.agg #[.int .i64 0, .slice none 0 0, .bool false]) := by kernel_rfl
  have h2 : (Tryd.prog.info? 61).map (·.size) = some 3 := by kernel_rfl
  have h3 : (Tryd.prog.info? 61).map (·.bytes) = some 40 := by kernel_rfl
  rw [hi] at h1 h2 h3
  exact ⟨i, hi, by simpa using h1, by simpa using h2, by simpa using h3⟩
theorem uvs : Tryd.prog.underlying 22 = some (.slice 61) := by kernel_rfl
theorem tnsinfo : ∃ i : TypeInfo, Tryd.prog.info? 70 = some i ∧ i.zero = some (.agg #[.slice none 0 0, .bool false, .slice none 0 0]) ∧ i.size = 3 ∧ i.bytes = 56 := by
  obtain ⟨i, hi⟩ : ∃ i, Tryd.prog.info? 70 = some i := by
    refine Option.isSome_iff_exists.1 ?_
    kernel_rfl
  have h1 : (Tryd.prog.info? 70).bind (·.zero) = some (.agg #[.slice none 0 0, .bool false, .slice none 0 0]) := by kernel_rfl
  have h2 : (Tryd.prog.info? 70).map (·.size) = some 3 := by kernel_rfl
  have h3 : (Tryd.prog.info? 70).map (·.bytes) = some 56 := by kernel_rfl
  rw [hi] at h1 h2 h3
  exact ⟨i, hi, by simpa using h1, by simpa using h2, by simpa using h3⟩
theorem utens : Tryd.prog.underlying 23 = some (.slice 70) := by kernel_rfl
theorem insinfo : ∃ i : TypeInfo, Tryd.prog.info? 48 = some i ∧ i.zero = some (.agg #[.int .i64 0, .int .i64 0, .slice none 0 0, .slice none 0 0, .int .i64 0, .int .i64 0]) ∧ i.size = 6 ∧ i.bytes = 80 := by
  obtain ⟨i, hi⟩ : ∃ i, Tryd.prog.info? 48 = some i := by
    refine Option.isSome_iff_exists.1 ?_
    kernel_rfl
  have h1 : (Tryd.prog.info? 48).bind (·.zero) = some (.agg #[.int .i64 0, .int .i64 0, .slice none 0 0, .slice none 0 0, .int .i64 0, .int .i64 0]) := by kernel_rfl
  have h2 : (Tryd.prog.info? 48).map (·.size) = some 6 := by kernel_rfl
  have h3 : (Tryd.prog.info? 48).map (·.bytes) = some 80 := by kernel_rfl
  rw [hi] at h1 h2 h3
  exact ⟨i, hi, by simpa using h1, by simpa using h2, by simpa using h3⟩
theorem uins : Tryd.prog.underlying 25 = some (.slice 48) := by kernel_rfl

theorem Dsc.one (d : Dsc) : ∀ y ∈ d.vals, y.oneCell' = true := by intro y hy; simp [Dsc.vals] at hy; rcases hy with rfl | rfl; all_goals rfl
theorem Ten.one (d : Ten) : ∀ y ∈ d.vals, y.oneCell' = true := by intro y hy; simp [Ten.vals] at hy; rcases hy with rfl | rfl | rfl; all_goals rfl
theorem Vw.one (d : Vw) : ∀ y ∈ d.vals, y.oneCell' = true := by intro y hy; simp [Vw.vals] at hy; rcases hy with rfl | rfl | rfl; all_goals rfl
theorem Ins.one (d : Ins) : ∀ y ∈ d.vals, y.oneCell' = true := by intro y hy; simp [Ins.vals] at hy; rcases hy with rfl | rfl | rfl | rfl | rfl | rfl; all_goals rfl
/-- An append as a step of a region that draws its order. -/
theorem step_append_at {w : World} {ops : Array Oper} {o : Oper} {a : Act} {K : Act → World → Prop} {Q : Exit → Act → World → Prop} {E : Prop} (hgd : o.guard = none) (s x : Operand) (t : TypeId)
    (ho : o.op = .call { callee := .builtin .append, args := #[s, x], argTypes := #[t, t] })
    (base : Nat) (e : TypeId) (i : TypeInfo) (z : Value) (size bytes : Nat) (ht : Tryd.prog.underlying t = some (.slice e)) (hi : Tryd.prog.info? e = some i) (hz : i.zero = some z) (hsize : i.size = size) (hby : i.bytes = bytes) (hzs : z.cells.size = size) (hsz : 0 < size)
    (v : Value) (n : Nat) (xs : List Value) (hs : a.eval s = v) (hown : w.ownsRow base e size v n xs) (ad : Addr) (m c : Nat) (news : List Value) (hx : a.eval x = .slice (some ad) m c) (hl : news.length = m * size) (hnews : ∀ j u, news[j]? = some u → w.cell? (ad.add j) = some u) (h1 : ∀ u ∈ news, u.oneCell' = true)
    (h63 : n + m ≤ maxLen) (hbytes : (n + m) * bytes ≤ 140737488355328) (hbase : base ≤ w.heap.size)
    (h : ∀ v' w', w'.ownsRow base e size v' (n + m) (xs ++ news) → w.grownBy w' v.ownBlock → (v'.ownBlock = v.ownBlock ∨ v'.ownBlock = some w.heap.size) → K (a.put o.dst v') w') :
    if Region.wanted o (yielded ops a.tmps) = true then Oper.wp Tryd.prog o a w K Q else E := by
  have hw : Region.wanted o (yielded ops a.tmps) = true := by simp [Region.wanted, hgd]
  rw [if_pos hw]
  obtain ⟨v', w', hrun, h2, h3, _, h5⟩ := run_append_own_at (P := Tryd.prog) w base t o.type e i z size bytes ht hi hz hsize hby hzs hsz v n xs hown ad m c news hl hnews h1 h63 hbytes hbase
  unfold Oper.wp
  simp only [execOp, ho, resolve, invoke, builtin, Sem.run_bind, Sem.run_pure, Result.andThen_ok, List.map_toArray, List.map_cons, List.map_nil, hs, hx, hrun]
  exact h v' w' h2 h3 h5

/-- Bytes as a string: 'string(b) != "LP"'. -/
theorem text_of {w : World} {A : Option Addr} {bs : List Nat} (h : Rb w A bs) (cap : Nat) : (convert 30 9 (.slice A bs.length cap)).run Tryd.prog w = .ok (.string ⟨(bs.map UInt8.ofNat).toArray⟩) w := by
  cases A with
  | none =>
    have hn : bs = [] := by
      rcases bs with _ | ⟨b, l⟩
      · rfl
      · obtain ⟨ad, e, _⟩ := h.2 (by simp)
        cases e
    subst hn
    exact run_convert_bytes_nil (P := Tryd.prog) w 30 5 (by kernel_rfl) (by kernel_rfl) _ _ _ (by kernel_rfl)
  | some ad =>
    have hc := run_convert_bytes_back (P := Tryd.prog) w 30 9 5 ad cap (bs.map UInt8.ofNat) (by kernel_rfl) (by kernel_rfl) (by kernel_rfl) (fun j hj => by
      have hj' : j < bs.length := by simpa using hj
      obtain ⟨ad', e, _, hcell⟩ := h.2 (by rintro rfl; simp at hj')
      cases e
      rw [hcell j bs[j] (List.getElem?_eq_getElem hj')]
      have := h.1 bs[j] (List.getElem_mem _)
      simp
      omega)
    rw [List.length_map] at hc
    exact hc
theorem text_inj (a b : List Nat) (ha : ∀ x ∈ a, x < 256) (hb : ∀ x ∈ b, x < 256) (h : (ByteArray.mk (a.map UInt8.ofNat).toArray) = ⟨(b.map UInt8.ofNat).toArray⟩) : a = b := by
  have h1 : a.map UInt8.ofNat = b.map UInt8.ofNat := by
    injection h with h
    simpa using h
  have h2 : ∀ (l : List Nat), (∀ x ∈ l, x < 256) → (l.map UInt8.ofNat).map UInt8.toNat = l := by
    intro l
    induction l with
    | nil => intro _; rfl
    | cons x l ih =>
      intro hl
      have h3 := hl x (List.mem_cons_self ..)
      rw [List.map_cons, List.map_cons, ih fun y hy => hl y (List.mem_cons_of_mem _ hy)]
      congr 1
      simp
      omega
  rw [← h2 a ha, ← h2 b hb, h1]
def PlP.zeros : List Value := [.int .i64 0, .slice none 0 0, .slice none 0 0, .slice none 0 0, .slice none 0 0, .int .i64 0, .int .i64 0]
/-- The Reader, the plan's box and the answer's box while a plan is read. -/
structure PS (W X : World) (b : Nat) (A : Option Addr) (bs : List Nat) (cap : Nat) (es : List Addr) (p : Pn) (s : Rs) : Prop where
  r : Has X W.heap.size 27 PlP.zeros
  bx : Has X b 27 p.vals
  rd : RdB X.heap.size X (W.heap.size + 1) A bs cap es s
  pw : Pw W.heap.size 0 X p
  bl : Below W.heap.size W X
  hb : W.heap.size + 1 < b
theorem PS.call {W X Y : World} {b : Nat} {A : Option Addr} {bs : List Nat} {cap : Nat} {es : List Addr} {p : Pn} {s s2 : Rs} (h : PS W X b A bs cap es p s) (hr : RdB Y.heap.size Y (W.heap.size + 1) A bs cap es s2) (hg : X.grownBy Y (some (W.heap.size + 1))) : PS W Y b A bs cap es p s2 := by
  obtain ⟨cs, hc⟩ := h.rd.has
  have := h.hb
  exact ⟨h.r.grown hg (by intro e; injection e; omega), h.bx.grown hg (by intro e; injection e; omega), hr, h.pw.grown hg (NotP.rdr hc), h.bl.grown hg h.bl.size (fun k e => by cases e; omega), h.hb⟩
/-- .. with nothing but what is new. -/
theorem PS.same {W X Y : World} {b : Nat} {A : Option Addr} {bs : List Nat} {cap : Nat} {es : List Addr} {p : Pn} {s : Rs} (h : PS W X b A bs cap es p s) (hg : X.grownBy Y none) : PS W Y b A bs cap es p s :=
  ⟨h.r.grown hg (by simp), h.bx.grown hg (by simp), (h.rd.grown hg (fun k e => by cases e)).tight, h.pw.grown hg (NotP.none _), h.bl.grown hg h.bl.size (fun k e => by cases e), h.hb⟩
theorem PS.store {W X : World} {b : Nat} {A : Option Addr} {bs : List Nat} {cap : Nat} {es : List Addr} {p q : Pn} {s : Rs} (h : PS W X b A bs cap es p s) (j : Nat) (v : Value) (hq : p.vals.set j v = q.vals) (hw : Pw W.heap.size 0 X q) : PS W (X.setCell ⟨b, j, none⟩ v) b A bs cap es q s := by
  have hG := grown_one X ⟨b, j, none⟩ v
  have := h.hb
  refine ⟨h.r.far (by simp; omega) v, hq ▸ h.bx.set_ j v, (h.rd.not_at hG (NotT.has h.bx (by decide)) (NotT.has h.bx (by decide))).tight, hw.grown hG (NotP.plan h.bx), h.bl.grown hG h.bl.size (fun k e => by cases e; show W.heap.size ≤ b; omega), h.hb⟩
theorem PS.store2 {W Y : World} {b : Nat} {A : Option Addr} {bs : List Nat} {cap : Nat} {es : List Addr} {p q : Pn} {s : Rs} (h1 : Has Y W.heap.size 27 PlP.zeros) (h2 : Has Y b 27 p.vals) (h3 : RdB Y.heap.size Y (W.heap.size + 1) A bs cap es s) (h4 : Below W.heap.size W Y) (h5 : W.heap.size + 1 < b)
    (j : Nat) (v : Value) (hq : p.vals.set j v = q.vals) (hw : Pw W.heap.size 0 Y q) : PS W (Y.setCell ⟨b, j, none⟩ v) b A bs cap es q s := by
  have hG := grown_one Y ⟨b, j, none⟩ v
  exact ⟨h1.far (by simp; omega) v, hq ▸ h2.set_ j v, (h3.not_at hG (NotT.has h2 (by decide)) (NotT.has h2 (by decide))).tight, hw.grown hG (NotP.plan h2), h4.grown hG h4.size (fun k e => by cases e; show W.heap.size ≤ b; omega), h5⟩
theorem PS.c {W X : World} {b : Nat} {A : Option Addr} {bs : List Nat} {cap : Nat} {es : List Addr} {p : Pn} {s : Rs} (h : PS W X b A bs cap es p s) (j : Nat) : X.cell? ⟨b, j, none⟩ = p.vals[j]? := h.bx.cell j
/-- A row of a plan's own grows: all but that row stays. -/
theorem PS.row {W X Y : World} {b n k base : Nat} {A : Option Addr} {bs : List Nat} {cap : Nat} {es : List Addr} {p : Pn} {s : Rs} {e : TypeId} {v : Value} {xs : List Value} (h : PS W X b A bs cap es p s) (ho : X.ownsRow base e k v n xs) (hbs : W.heap.size + 1 < base ∨ W.heap.size ≤ base) (hg : X.grownBy Y v.ownBlock)
    (h1 : 27 ≠ e) (h2 : 118 ≠ e) (h3 : 122 ≠ e) : Has Y W.heap.size 27 PlP.zeros ∧ Has Y b 27 p.vals ∧ RdB Y.heap.size Y (W.heap.size + 1) A bs cap es s ∧ Below W.heap.size W Y := by
  refine ⟨h.r.grown hg fun e => NotT.own ho h1 _ e.symm _ h.r, h.bx.grown hg fun e => NotT.own ho h1 _ e.symm _ h.bx, (h.rd.not_at hg (NotT.own ho h2) (NotT.own ho h3)).tight, h.bl.grown hg h.bl.size fun k hk => ?_⟩
  have := own_low ho k hk
  omega
end Go.Proofs.YthjnkaikjjjceaaDoor
