/-
  lodgelaw14.first, walked; how long what is read is. By an AI agent. No person has read it.
-/
import Derived.Test.YthjnkaikjjjceaaDoorPkPlnP
import Derived.Test.YthjnkaikjjjceaaDoorPkPlnH
import Derived.Test.YthjnkaikjjjceaaDoorPkBasA
import Derived.Test.YthjnkaikjjjceaaDoorPkPlnU
import Derived.Test.YthjnkaikjjjceaaDoorPkPlnS
import Derived.Test.YthjnkaikjjjceaaDoorPkErrD
import Derived.Laws.BitsAllLaws
import Derived.Lib.SliceRun
namespace Go.Proofs.YthjnkaikjjjceaaDoor
open Go.RowKit
theorem Pl.zero_in (w : World) : (Pn.of 0).In w := (Pw.of 0 0 w 0).in_ (Nat.zero_le _) (Nat.zero_le _) (Nat.zero_le _) (Nat.zero_le _)
theorem Pl.zero_fault : Pl.fault (Pn.of 0) = none := by decide
theorem Pl.zero_len : (Pl.outs (Pn.of 0)).length = 22 := by
  unfold Pl.outs
  rw [if_pos Pl.zero_fault]
  decide
set_option maxRecDepth 100000 in
set_option maxHeartbeats 4000000 in
theorem first14_c (es : List Addr) (ah am ar ae ak : Addr) (hes : TErrs es ah am ar ae ak) (w : World) (hZ : E3 w ah am ar) :
    Calls Tryd.prog 8 #[] w fun e w' => e = .returned (.bool true) ∧ Below w.heap.size w w' := by
  have HB : Hid (Calls Tryd.prog 10 #[.agg #[.int .i64 0, .slice none 0 0, .slice none 0 0, .slice none 0 0, .slice none 0 0, .int .i64 0, .int .i64 0]] w fun e w' => (∃ (A : Option Addr) (c : Nat), e = .returned (.tuple #[.slice A 22 c, .nilIface])) ∧ Below w.heap.size w w') := hide (by
    have h := pbytes_c es ah am ar ae ak hes (Pn.of 0) w (Pl.zero_in w) hZ
    refine Calls.mono (h : Calls Tryd.prog 10 #[.agg #[.int .i64 0, .slice none 0 0, .slice none 0 0, .slice none 0 0, .slice none 0 0, .int .i64 0, .int .i64 0]] w _) ?_
    rintro e w' ⟨⟨b, ev, rfl, hev, ho⟩, hb⟩
    rw [Pl.zero_fault] at hev
    obtain rfl : ev = .nilIface := hev
    rw [Pl.zero_len] at ho
    obtain ⟨B, c, rfl, -⟩ := own_row ho
    exact ⟨⟨B, c, rfl⟩, hb⟩)
  clear hZ hes
  go_enter Tryd.func8, Tryd.ntmps8
  go_wp2_with fail
  refine HB.out.mono ?_
  rintro e w2 ⟨⟨A, c, rfl⟩, hb⟩
  have HB2 := hide hb
  clear HB hb
  go_wp2_with fail
  go_ret
  exact ⟨rfl, HB2.out⟩
end Go.Proofs.YthjnkaikjjjceaaDoor
namespace Go.Proofs.YthjnkaikjjjceaaDoor
open Go.RowKit
theorem ReadIs.open_ {W w' : World} {es : List Addr} {bs : List Nat} {e : Ending} (h : ReadIs W w' es bs e) : ∃ (y : RE) (p : Pn) (ev : Value), Hid ((Pl.p12 bs).e = y) ∧ e = .returned (.tuple #[.agg #[.int .i64 p.size, .slice p.V p.vs.length p.vc, .slice p.C p.cs.length p.cc, .slice p.L p.ls.length p.lc, .slice p.K p.is.length p.kc, .int .i64 p.inp, .int .i64 p.out], ev]) ∧ Hid (p.pl = Pl.read bs) ∧ Pw W.heap.size 0 w' p ∧ EV w'.heap.size w' es y ev := by
  unfold ReadIs at h
  obtain ⟨y, hy⟩ : ∃ y, Hid ((Pl.p12 bs).e = y) := ⟨_, hide rfl⟩
  rw [hy.out] at h
  obtain ⟨p, ev, h1, h2, h3, h4⟩ := h
  exact ⟨y, p, ev, hy, h1, hide h2, h3, h4⟩
end Go.Proofs.YthjnkaikjjjceaaDoor
namespace Go.Proofs.YthjnkaikjjjceaaDoor
open Go.RowKit
theorem flat_less {α : Type} (f : α → List Nat) (l : List α) (h : ∀ x ∈ l, ∀ b ∈ f x, b < 256) : ∀ b ∈ l.flatMap f, b < 256 := by
  intro b hb
  obtain ⟨x, hx, hb⟩ := List.mem_flatMap.1 hb
  exact h x hx b hb
theorem app_less {a b : List Nat} (ha : ∀ x ∈ a, x < 256) (hb : ∀ x ∈ b, x < 256) : ∀ x ∈ a ++ b, x < 256 := by
  intro x hx
  rcases List.mem_append.1 hx with h | h
  · exact ha x h
  · exact hb x h
theorem InP.bytes_less (n : InP) : ∀ x ∈ n.bytes, x < 256 := by
  unfold InP.bytes Pl.nb
  exact app_less (app_less (app_less (app_less (app_less (Pk.le_lt _ _) (Pk.le_lt _ _)) (app_less (Pk.le_lt _ _) (Pk.all_lt _ _))) (app_less (Pk.le_lt _ _) (Pk.all_lt _ _))) (Pk.le_lt _ _)) (Pk.le_lt _ _)
theorem Pl.bytes_less (p : PlP) : ∀ x ∈ Pl.bytes p, x < 256 := by
  unfold Pl.bytes Pl.body
  exact app_less (by decide) (app_less (app_less (app_less (app_less (app_less (app_less (app_less (app_less (app_less (app_less (Pk.le_lt _ _) (Pk.le_lt _ _)) (flat_less _ _ fun v _ => app_less (Pk.le_lt _ _) (Pk.desc_lt _ _))) (Pk.le_lt _ _)) (flat_less _ _ fun t _ => Tens.bytes_lt _ _ _)) (Pk.le_lt _ _)) (flat_less _ _ fun d _ => Pk.desc_lt _ _)) (Pk.le_lt _ _)) (flat_less _ _ fun n _ => InP.bytes_less n)) (Pk.le_lt _ _)) (Pk.le_lt _ _))
end Go.Proofs.YthjnkaikjjjceaaDoor
namespace Go.Proofs.YthjnkaikjjjceaaDoor
open Go.RowKit
def Dsc.zero : Dsc := ⟨none, [], 0, false⟩
def Vw.zero : Vw := ⟨0, Dsc.zero⟩
def Pn.nv (n : Nat) (V : Option Addr) : Pn := ⟨0, V, List.replicate n Vw.zero, n, none, [], 0, none, [], 0, none, [], 0, 0, 0⟩
end Go.Proofs.YthjnkaikjjjceaaDoor
namespace Go.Proofs.YthjnkaikjjjceaaDoor
open Go.RowKit Go.Shelf
attribute [local go_sem] Oper.semAt_some

theorem own_blank (w : World) (base : Nat) (h : base ≤ w.heap.size) : (w.alloc (.cells #[] 3)).ownsRow base 3 1 (.slice (some ⟨w.heap.size, 0, none⟩) 0 0) 0 [] :=
  ⟨rfl, .inr ⟨_, 0, #[], rfl, h, heap_alloc_new w _, by omega, by unfold maxLen; omega, by simp, by simp⟩⟩
theorem own_lower {w : World} {base base' : Nat} {e : TypeId} {size : Nat} {v : Value} {n : Nat} {xs : List Value} (h : w.ownsRow base e size v n xs) (hb : base' ≤ base) : w.ownsRow base' e size v n xs :=
  ⟨h.1, h.2.imp id fun ⟨g, cap, cur, h1, h2, h3⟩ => ⟨g, cap, cur, h1, Nat.le_trans hb h2, h3⟩⟩
/-- A row of ints that lies in no block of this slice. -/
def RowOff (v : Value) (P : Option Addr) (zs : List Int) : Prop := zs ≠ [] → ∀ ad, P = some ad → some ad.block ≠ v.ownBlock
theorem Io.off {base : Nat} {W W' : World} {P : Option Addr} {zs : List Int} {v : Value} (h : Io base W P zs) (hg : W.grownBy W' v.ownBlock) (hr : RowOff v P zs) : Io base W' P zs := by
  refine ⟨h.1, fun hn => ?_⟩
  obtain ⟨g, rest, h1, h2, hH⟩ := h.2 hn
  exact ⟨g, rest, h1, h2, hH.grown hg (hr hn _ h1)⟩
/-- An instruction that was cloned: its args may grow. -/
structure Ins.Ck (base : Nat) (w : World) (n : Ins) : Prop where
  io : n.Io base w
  own : w.ownsRow base 3 1 (.slice n.G n.gs.length n.gc) n.gs.length (i64s n.gs)
theorem Ins.Ck.grown {base : Nat} {w w' : World} {row : Option Nat} {n : Ins} (h : n.Ck base w) (hg : w.grownBy w' row) (hr : NotT w row 3) : n.Ck base w' := ⟨h.io.grown hg hr, own_not h.own hg hr⟩
theorem Ins.Ck.less {base b2 : Nat} {w : World} {n : Ins} (h : n.Ck base w) (hb : b2 ≤ base) : n.Ck b2 w := ⟨h.io.less hb, own_lower h.own hb⟩
theorem grown_cell (w : World) (a : Addr) (u : Value) : w.grownBy (w.setCell a u) (some a.block) :=
  ⟨rfl, rfl, rfl, by simp, fun k _ hk => Below.heap_setCell w a u k fun e => hk (by rw [e])⟩
end Go.Proofs.YthjnkaikjjjceaaDoor
namespace Go.Proofs.YthjnkaikjjjceaaDoor
open Go.RowKit
theorem below_grown {W W' : World} (hb : Below W.heap.size W W') : W.grownBy W' none := ⟨hb.os, hb.tape, hb.output, hb.size, fun k hk _ => hb.block k hk⟩
def Ten.zero : Ten := ⟨none, [], 0, false, none, [], 0⟩
def Ins.zero : Ins := ⟨0, 0, none, [], 0, none, [], 0, 0, 0⟩
/-- Their args lie apart from all their other ints. -/
def InsApart (L : List Ins) : Prop := ∀ (a b : Nat) (x y : Ins), L[a]? = some x → L[b]? = some y → (a ≠ b → RowOff (.slice x.G x.gs.length x.gc) y.I y.is ∧ RowOff (.slice x.G x.gs.length x.gc) y.G y.gs) ∧ RowOff (.slice x.G x.gs.length x.gc) x.I x.is
theorem InsApart.nil : InsApart [] := fun a b x y h => by simp at h
end Go.Proofs.YthjnkaikjjjceaaDoor
