/-
  Plans and their parts: as they lie in memory, and by plain values; plan.numbers, walked. By an AI agent. No person has read it.
-/
import Derived.Test.YthjnkaikjjjceaaDoorPkPlnD
import Derived.Test.YthjnkaikjjjceaaDoorPkTenQ
namespace Go.Proofs.YthjnkaikjjjceaaDoor
open Go.RowKit
/-- A view: where it begins, what it looks like. -/
structure Vw where
  off : Int
  d : Dsc
/-- An instruction. -/
structure Ins where
  op : Int
  dst : Int
  I : Option Addr
  is : List Int
  ic : Nat
  G : Option Addr
  gs : List Int
  gc : Nat
  fr : Int
  to : Int
def Vw.vals (v : Vw) : List Value := [.int .i64 v.off, .slice v.d.P v.d.zs.length v.d.cap, .bool v.d.u]
def Ins.vals (n : Ins) : List Value := [.int .i64 n.op, .int .i64 n.dst, .slice n.I n.is.length n.ic, .slice n.G n.gs.length n.gc, .int .i64 n.fr, .int .i64 n.to]
/-- What they are, without where they lie. -/
structure InP where
  op : Int
  dst : Int
  is : List Int
  gs : List Int
  fr : Int
  to : Int
deriving DecidableEq
abbrev DsP := List Int × Bool
abbrev TnP := List Int × Bool × List Int
abbrev VwP := Int × List Int × Bool
def Dsc.pl (d : Dsc) : DsP := (d.zs, d.u)
def Ten.pl (t : Ten) : TnP := (t.zs, t.u, t.ds)
def Vw.pl (v : Vw) : VwP := (v.off, v.d.zs, v.d.u)
def Ins.pl (n : Ins) : InP := ⟨n.op, n.dst, n.is, n.gs, n.fr, n.to⟩
/-- A plan, by plain values. -/
structure PlP where
  size : Int
  vs : List VwP
  cs : List TnP
  ls : List DsP
  is : List InP
  inp : Int
  out : Int
deriving DecidableEq
/-- A plan as it lies. -/
structure Pn where
  size : Int
  V : Option Addr
  vs : List Vw
  vc : Nat
  C : Option Addr
  cs : List Ten
  cc : Nat
  L : Option Addr
  ls : List Dsc
  lc : Nat
  K : Option Addr
  is : List Ins
  kc : Nat
  inp : Int
  out : Int
def Pn.vals (p : Pn) : List Value := [.int .i64 p.size, .slice p.V p.vs.length p.vc, .slice p.C p.cs.length p.cc, .slice p.L p.ls.length p.lc, .slice p.K p.is.length p.kc, .int .i64 p.inp, .int .i64 p.out]
def Pn.pl (p : Pn) : PlP := ⟨p.size, p.vs.map Vw.pl, p.cs.map Ten.pl, p.ls.map Dsc.pl, p.is.map Ins.pl, p.inp, p.out⟩
/-- What is read from there on. -/
structure Vw.In (w : World) (v : Vw) : Prop where
  d : v.d.In w
structure Ins.In (w : World) (n : Ins) : Prop where
  is : Ri w n.I n.is
  gs : Ri w n.G n.gs
  li : n.is.length ≤ 1000000
  lg : n.gs.length ≤ 1000000
structure Pn.In (w : World) (p : Pn) : Prop where
  V : Row w p.V (p.vs.flatMap Vw.vals)
  vs : ∀ v ∈ p.vs, v.In w
  C : Row w p.C (p.cs.flatMap Ten.vals)
  cs : ∀ v ∈ p.cs, v.In w
  L : Row w p.L (p.ls.flatMap Dsc.vals)
  ls : ∀ v ∈ p.ls, v.In w
  K : Row w p.K (p.is.flatMap Ins.vals)
  is : ∀ v ∈ p.is, v.In w
  lv : p.vs.length ≤ 1000000
  lc : p.cs.length ≤ 1000000
  ll : p.ls.length ≤ 1000000
  li : p.is.length ≤ 1000000
theorem Vw.In.below {w w' : World} {v : Vw} (h : v.In w) (hb : Below w.heap.size w w') : v.In w' := ⟨h.d.below hb⟩
theorem Ins.In.below {w w' : World} {n : Ins} (h : n.In w) (hb : Below w.heap.size w w') : n.In w' := ⟨h.is.below hb, h.gs.below hb, h.li, h.lg⟩
theorem Pn.In.below {w w' : World} {p : Pn} (h : p.In w) (hb : Below w.heap.size w w') : p.In w' :=
  ⟨h.V.below hb, fun v hv => (h.vs v hv).below hb, h.C.below hb, fun v hv => (h.cs v hv).below hb, h.L.below hb, fun v hv => (h.ls v hv).below hb, h.K.below hb, fun v hv => (h.is v hv).below hb, h.lv, h.lc, h.ll, h.li⟩
/-- What lies in blocks of ints of its own. -/
def Dsc.Io (base : Nat) (w : World) (d : Dsc) : Prop := Go.Proofs.YthjnkaikjjjceaaDoor.Io base w d.P d.zs ∧ d.zs.length ≤ 1000000
def Vw.Io (base : Nat) (w : World) (v : Vw) : Prop := v.d.Io base w
def Ten.Io (base : Nat) (w : World) (t : Ten) : Prop := Go.Proofs.YthjnkaikjjjceaaDoor.Io base w t.P t.zs ∧ Go.Proofs.YthjnkaikjjjceaaDoor.Io base w t.D t.ds ∧ t.zs.length ≤ 1000000 ∧ t.ds.length ≤ 1000000
def Ins.Io (base : Nat) (w : World) (n : Ins) : Prop := Go.Proofs.YthjnkaikjjjceaaDoor.Io base w n.I n.is ∧ Go.Proofs.YthjnkaikjjjceaaDoor.Io base w n.G n.gs ∧ n.is.length ≤ 1000000 ∧ n.gs.length ≤ 1000000
section
variable {base : Nat} {w w' : World} {row : Option Nat}
theorem Dsc.Io.grown {d : Dsc} (h : d.Io base w) (hg : w.grownBy w' row) (hr : NotT w row 3) : d.Io base w' := ⟨h.1.grown hg hr, h.2⟩
theorem Vw.Io.grown {v : Vw} (h : v.Io base w) (hg : w.grownBy w' row) (hr : NotT w row 3) : v.Io base w' := Dsc.Io.grown h hg hr
theorem Ten.Io.grown {t : Ten} (h : t.Io base w) (hg : w.grownBy w' row) (hr : NotT w row 3) : t.Io base w' := ⟨h.1.grown hg hr, h.2.1.grown hg hr, h.2.2⟩
theorem Ins.Io.grown {n : Ins} (h : n.Io base w) (hg : w.grownBy w' row) (hr : NotT w row 3) : n.Io base w' := ⟨h.1.grown hg hr, h.2.1.grown hg hr, h.2.2⟩
theorem Dsc.Io.less {b2 : Nat} {d : Dsc} (h : d.Io base w) (hb : b2 ≤ base) : d.Io b2 w := ⟨h.1.less hb, h.2⟩
theorem Vw.Io.less {b2 : Nat} {v : Vw} (h : v.Io base w) (hb : b2 ≤ base) : v.Io b2 w := Dsc.Io.less h hb
theorem Ten.Io.less {b2 : Nat} {t : Ten} (h : t.Io base w) (hb : b2 ≤ base) : t.Io b2 w := ⟨h.1.less hb, h.2.1.less hb, h.2.2⟩
theorem Ins.Io.less {b2 : Nat} {n : Ins} (h : n.Io base w) (hb : b2 ≤ base) : n.Io b2 w := ⟨h.1.less hb, h.2.1.less hb, h.2.2⟩
theorem Dsc.Io.in_ {d : Dsc} (h : d.Io base w) : d.In w := ⟨h.1.ri, h.2⟩
theorem Vw.Io.in_ {v : Vw} (h : v.Io base w) : v.In w := ⟨Dsc.Io.in_ h⟩
theorem Ten.Io.in_ {t : Ten} (h : t.Io base w) : t.In w := ⟨h.1.ri, h.2.1.ri, h.2.2.1, h.2.2.2⟩
theorem Ins.Io.in_ {n : Ins} (h : n.Io base w) : n.In w := ⟨h.1.ri, h.2.1.ri, h.2.2.1, h.2.2.2⟩
theorem own_not {e : TypeId} {k n : Nat} {v : Value} {xs : List Value} (h : w.ownsRow base e k v n xs) (hg : w.grownBy w' row) (hr : NotT w row e) : w'.ownsRow base e k v n xs := by
  refine ⟨h.1, ?_⟩
  rcases h.2 with h1 | ⟨g, c, cur, h1, h2, h3, h4, h5, h6, h7⟩
  · exact .inl h1
  · have hl : g < w.heap.size := by
      rcases Nat.lt_or_ge g w.heap.size with hlt | hge
      · exact hlt
      · rw [Array.getElem?_eq_none hge] at h3; cases h3
    exact .inr ⟨g, c, cur, h1, h2, (hg.block g hl fun e => hr g e.symm cur.toList (by unfold Has; simpa using h3)).trans h3, h4, h5, h6, h7⟩
end
/-- A plan that is being made: its rows are of its own, from some place on. -/
structure Pw (base eb : Nat) (w : World) (p : Pn) : Prop where
  V : w.ownsRow base 61 3 (.slice p.V p.vs.length p.vc) p.vs.length (p.vs.flatMap Vw.vals)
  vs : ∀ v ∈ p.vs, v.Io eb w
  C : w.ownsRow base 70 3 (.slice p.C p.cs.length p.cc) p.cs.length (p.cs.flatMap Ten.vals)
  cs : ∀ v ∈ p.cs, v.Io eb w
  L : w.ownsRow base 59 2 (.slice p.L p.ls.length p.lc) p.ls.length (p.ls.flatMap Dsc.vals)
  ls : ∀ v ∈ p.ls, v.Io eb w
  K : w.ownsRow base 48 6 (.slice p.K p.is.length p.kc) p.is.length (p.is.flatMap Ins.vals)
  is : ∀ v ∈ p.is, v.Io eb w
/-- A row of none of a plan's types. -/
structure NotP (w : World) (row : Option Nat) : Prop where
  v : NotT w row 61
  t : NotT w row 70
  d : NotT w row 59
  n : NotT w row 48
  i : NotT w row 3
theorem NotP.none (w : World) : NotP w none := ⟨NotT.none _ _, NotT.none _ _, NotT.none _ _, NotT.none _ _, NotT.none _ _⟩
theorem NotP.rdr {w : World} {g : Nat} {cs : List Value} (h : Has w g 118 cs) : NotP w (some g) := ⟨NotT.has h (by decide), NotT.has h (by decide), NotT.has h (by decide), NotT.has h (by decide), NotT.has h (by decide)⟩
theorem NotP.plan {w : World} {g : Nat} {cs : List Value} (h : Has w g 27 cs) : NotP w (some g) := ⟨NotT.has h (by decide), NotT.has h (by decide), NotT.has h (by decide), NotT.has h (by decide), NotT.has h (by decide)⟩
theorem Pw.grown {base eb : Nat} {w w' : World} {p : Pn} {row : Option Nat} (h : Pw base eb w p) (hg : w.grownBy w' row) (hr : NotP w row) : Pw base eb w' p :=
  ⟨own_not h.V hg hr.v, fun v hv => (h.vs v hv).grown hg hr.i, own_not h.C hg hr.t, fun v hv => (h.cs v hv).grown hg hr.i, own_not h.L hg hr.d, fun v hv => (h.ls v hv).grown hg hr.i, own_not h.K hg hr.n, fun v hv => (h.is v hv).grown hg hr.i⟩
theorem own_low {w : World} {base n s : Nat} {e : TypeId} {v : Value} {xs : List Value} (h : w.ownsRow base e s v n xs) (k : Nat) (hk : v.ownBlock = some k) : base ≤ k := by
  rcases h.2 with ⟨rfl, -⟩ | ⟨g, c, cur, rfl, h2, -⟩
  · cases hk
  · have : g = k := Option.some.inj hk
    omega
theorem own_rw {w : World} {base n s : Nat} {e : TypeId} {P : Option Addr} {m c : Nat} {xs : List Value} (h : w.ownsRow base e s (.slice P m c) n xs) : Row w P xs := by
  obtain ⟨B, c2, e2, hr⟩ := own_row h
  injection e2 with e3
  subst e3
  exact hr
theorem Pw.in_ {base eb : Nat} {w : World} {p : Pn} (h : Pw base eb w p) (h1 : p.vs.length ≤ 1000000) (h2 : p.cs.length ≤ 1000000) (h3 : p.ls.length ≤ 1000000) (h4 : p.is.length ≤ 1000000) : p.In w :=
  ⟨own_rw h.V, fun v hv => (h.vs v hv).in_, own_rw h.C, fun v hv => (h.cs v hv).in_, own_rw h.L, fun v hv => (h.ls v hv).in_, own_rw h.K, fun v hv => (h.is v hv).in_, h1, h2, h3, h4⟩

/-- What plan.numbers reads. -/
def Rs.num (bs : List Nat) (_ : Nat) (s : Rs) : Int × Rs := s.signed bs
def Rs.numbers (bs : List Nat) (s : Rs) : List Int × Rs := Rs.rep (Rs.num bs) (s.count bs 1 8 3).1 (s.count bs 1 8 3).2
theorem Rs.count_le (bs : List Nat) (k most j : Nat) (s : Rs) : (s.count bs k most j).1 ≤ most := by
  unfold Rs.count
  split
  · exact Nat.zero_le _
  · omega
theorem Tens.wide_wf (z : Int) : -2147483648 ≤ Tens.wide z ∧ Tens.wide z ≤ 2147483647 := by unfold Tens.wide; omega
theorem Rs.num_wf (bs : List Nat) (n : Nat) (s : Rs) : ∀ z ∈ (Rs.rep (Rs.num bs) n s).1, (Lit.int .i64 z).wf = true := by
  induction n with
  | zero => exact fun z hz => by simp [Rs.rep] at hz
  | succ n ih =>
    intro z hz
    rcases List.mem_append.1 hz with hz | hz
    · exact ih z hz
    · rw [List.mem_singleton.1 hz]
      have h := Tens.wide_wf (((Rs.rep (Rs.num bs) n s).2.number bs 4).1 : Nat)
      show (Lit.int .i64 (Tens.wide (((Rs.rep (Rs.num bs) n s).2.number bs 4).1 : Nat))).wf = true
      exact wf_i64 _ (by omega)
section
variable {w0 : World} {A : Option Addr} {bs : List Nat} {cap : Nat} {es : List Addr} {ae am ak : Addr}
set_option maxRecDepth 100000 in
set_option maxHeartbeats 4000000 in
theorem numbers_m (hX : Rx w0 A bs cap es ae am ak) (g : Nat) (s : Rs) (W : World) (hg : w0.heap.size ≤ g) (hW : Below w0.heap.size w0 W) (h : RdB W.heap.size W g A bs cap es s) :
    Calls Tryd.prog 81 #[.pointer (some ⟨g, 0, none⟩)] W fun e w' => (∃ P c, e = .returned (.slice P (s.numbers bs).1.length c) ∧ Io W.heap.size w' P (s.numbers bs).1) ∧ RdB w'.heap.size w' g A bs cap es (s.numbers bs).2 ∧ W.grownBy w' (some g) := by
  have hez := (hX.at_ hW).2
  have cm := (hez.2.2 3 _ am rfl hX.im).1
  have HC := hide (count_m hX g 1 8 3 s am hX.im W (by omega) (by omega) hg hW h)
  obtain ⟨sc, hsc⟩ : ∃ sc, Hid ((s.count bs 1 8 3).2 = sc) := ⟨_, hide rfl⟩
  obtain ⟨n, hn⟩ : ∃ n, Hid ((s.count bs 1 8 3).1 = n) := ⟨_, hide rfl⟩
  have hn8 : n ≤ 8 := by rw [← hn.out]; exact Rs.count_le _ _ _ _ _
  have en : s.numbers bs = Rs.rep (Rs.num bs) n sc := by unfold Rs.numbers; rw [hsc.out, hn.out]
  rw [en]
  rw [hsc.out, hn.out] at HC
  have HSG := hide (fun (i : Nat) (s1 : Rs) (wr : World) (hs1 : (Rs.rep (Rs.num bs) i sc).2 = s1) (hb : Below w0.heap.size w0 wr) (hr : RdB wr.heap.size wr g A bs cap es s1) =>
    (signed_m hX wr.heap.size g s1 wr hg hb hr).mono (R' := fun e w' => e = .returned (.int .i64 (s1.signed bs).1) ∧ RdB w'.heap.size w' g A bs cap es (Rs.rep (Rs.num bs) (i + 1) sc).2 ∧ wr.grownBy w' (some g)) (by
      rintro e w' ⟨h1, h2, h3⟩
      refine ⟨h1, ?_, h3⟩
      show RdB w'.heap.size w' g A bs cap es ((Rs.rep (Rs.num bs) i sc).2.signed bs).2
      rw [hs1]
      exact h2.tight))
  have hsz := hW.size
  have hlt := h.lt
  clear h hez hsc hn en
  go_enter Tryd.func81, Tryd.ntmps81
  go_wp2_with fail
  refine HC.out.mono ?_
  rintro e w1 ⟨rfl, hr1, hg1⟩
  have HR1 := hide hr1
  have HG1 := hide hg1
  have HB1 := hide (hW.grown hg1 hsz (fun k e => by cases e; exact hg))
  have HO1 := hide (World.ownsRow_nil w1 W.heap.size 3 1)
  clear hr1 hg1 HC hW
  go_wp2_with fail
  go_loopw [3, 7] (fun v k wr => ∃ (i : Nat) (u : Value), u = v ∧ i ≤ n ∧ k = .int .i64 i ∧ Hid (wr.ownsRow W.heap.size 3 1 u i (i64s (Rs.rep (Rs.num bs) i sc).1)) ∧ Hid (RdB wr.heap.size wr g A bs cap es (Rs.rep (Rs.num bs) i sc).2) ∧ Hid (W.grownBy wr (some g)) ∧ Hid (Below w0.heap.size w0 wr)) (fun _ k _ => n - (intOf k).toNat)
  case atStart => exact ⟨0, _, rfl, by omega, rfl, HO1, HR1, HG1, HB1⟩
  case round =>
    clear HO1 HR1 HG1 HB1
    obtain ⟨i, u, rfl, hi, rfl, HO, HR, HG, HB⟩ := hrel
    by_cases hin : i < n
    · have hii : (i : Int) < (n : Int) := by omega
      obtain ⟨s1, hs1⟩ : ∃ s1, Hid ((Rs.rep (Rs.num bs) i sc).2 = s1) := ⟨_, hide rfl⟩
      rw [hs1.out] at HR
      have HV := hide (HSG.out i s1 wr hs1.out HB.out HR.out)
      have HNR := hide HR.out.has
      clear cm
      go_wp2_with fail
      refine HV.out.mono ?_
      rintro e w2 ⟨rfl, hr2, hg2⟩
      obtain ⟨z, hz⟩ : ∃ z, Hid ((s1.signed bs).1 = z) := ⟨_, hide rfl⟩
      have hzw : -9223372036854775808 ≤ z ∧ z ≤ 9223372036854775807 := by
        rw [← hz.out]
        have := Tens.wide_wf ((s1.number bs 4).1 : Nat)
        unfold Rs.signed
        exact ⟨by dsimp only; omega, by dsimp only; omega⟩
      obtain ⟨csr, hcr⟩ := HNR.out
      have HO2 := own_not HO.out hg2 (NotT.has hcr (by decide))
      have HG2 := HG.out.trans hg2
      have HB2 := HB.out.grown hg2 HB.out.size (fun k e => by cases e; exact hg)
      rw [hz.out]
      have hown2 := hide (HO2.alloc (.cells #[.int .i64 z] 3))
      have hr3 := hide (new_ri w2 3 [z] (fun y hy => by rw [List.mem_singleton.1 hy]; exact hzw))
      have HG3 := hide (HG2.trans (World.grownBy_alloc w2 (.cells #[.int .i64 z] 3) (some g)))
      have hs3 : Hid (W.heap.size ≤ (w2.alloc (.cells #[.int .i64 z] 3)).heap.size) := hide HG3.out.size
      have hn3 := hide (show i + 1 ≤ 1000000000000 by omega)
      have HR3 := hide (hr2.grown (World.grownBy_alloc w2 (.cells #[.int .i64 z] 3) none) (fun k e => by cases e))
      have HB3 := hide (HB2.alloc HB2.size (.cells #[.int .i64 z] 3))
      clear HV HO2 HG2 HB2 hr2 hg2 hzw hcr csr HNR HO HG HB HR
      go_wp2_with (at_builtin; refine wpList_append_is rfl (.tmp 9) (.tmp 12) rfl W.heap.size _ i (i64s (Rs.rep (Rs.num bs) i sc).1) rfl hown2.out (some ⟨w2.heap.size, 0, none⟩) 1 1 [z] rfl (hide rfl) hr3.out hn3.out hs3.out ?_)
      intro v4 w4 o1 o2 o3
      have HO4 : Hid (w4.ownsRow W.heap.size 3 1 v4 (i + 1) (i64s (Rs.rep (Rs.num bs) (i + 1) sc).1)) := hide (by
        have e : (Rs.rep (Rs.num bs) (i + 1) sc).1 = (Rs.rep (Rs.num bs) i sc).1 ++ [z] := by
          show (Rs.rep (Rs.num bs) i sc).1 ++ [((Rs.rep (Rs.num bs) i sc).2.signed bs).1] = _
          rw [hs1.out, hz.out]
        rw [e]
        simpa [i64s] using o1)
      have HR4 := hide ((HR3.out.not_at o2 (NotT.own hown2.out (by decide)) (NotT.own hown2.out (by decide))).tight)
      have HG4 : Hid (W.grownBy w4 (some g)) := hide (HG3.out.andThen o2 (fun k hk => .inl (own_low hown2.out k hk)))
      have HB4 : Hid (Below w0.heap.size w0 w4) := hide (HB3.out.grown o2 HB3.out.size (fun k hk => Nat.le_trans hsz (own_low hown2.out k hk)))
      clear o1 o2 o3 hown2 hr3 HG3 hs3 hn3 HR3 HB3
      go_wp2_with fail
      go_roundw
      case rel => exact ⟨i + 1, _, rfl, by omega, by go_num, HO4, HR4, HG4, HB4⟩
      case measure => simp [intOf]; omega
    · obtain rfl : i = n := by omega
      have HW := hide (Rs.num_wf bs i sc)
      obtain ⟨P, c, rfl, hio⟩ := Io.of_own (by have h := HO.out; exact (by rw [Rs.rep_len]; exact h : wr.ownsRow W.heap.size 3 1 u (Rs.rep (Rs.num bs) i sc).1.length (i64s (Rs.rep (Rs.num bs) i sc).1))) HW.out
      have HIO := hide hio
      clear hio HO HW
      go_wp2_with fail
      go_ret
      exact ⟨⟨P, c, rfl, HIO.out⟩, HR.out, HG.out⟩
end
end Go.Proofs.YthjnkaikjjjceaaDoor
