/-
  What the walks of every seat lean on: hiding, worlds below, slices of ints that came in. (In the seat of package flt the texts FltC and FltIn give these.) By an AI agent. No person has read it.
-/
import Derived.Test.YthjnkaikjjjceaaDoorRows
import Derived.Test.YthjnkaikjjjceaaDoorChecked
import Derived.ProofKit
import Derived.StillTailTactics
import Derived.LoopN
import Derived.Lib.Hide
import Derived.WalkLawsBesides
import Derived.Laws.Rows
import Derived.Maps.AppendAt
import Derived.Laws.MakeOwn
import Derived.OpenShut
import Derived.ChangeOld
import Derived.Deep.QuietTactic
import Derived.BigQuiet
import Derived.Laws.OwnMore
namespace Go.Proofs.YthjnkaikjjjceaaDoor
open Go.RowKit
theorem hide {p : Prop} (h : p) : Hid p := h
theorem ad_block (a : Addr) (n : Nat) : (a.add n).block = a.block := by unfold Addr.add; split <;> rfl
theorem below_row {W wr w' : World} {o : Obj} {e : TypeId} {size n : Nat} {v : Value} {xs : List Value} (hB : Below W.heap.size W wr) (ho : wr.ownsRow W.heap.size e size v n xs) (hg : (wr.alloc o).grownBy w' v.ownBlock) : Below W.heap.size W w' :=
  (hB.alloc hB.size o).grown hg (by simp; have := hB.size; omega) fun k hk => (ho.lt k hk).1
theorem new_cells (w : World) (t : TypeId) (xs : List Value) : ∀ (j : Nat) (u : Value), xs[j]? = some u → (w.alloc (.cells xs.toArray t)).cell? ((⟨w.heap.size, 0, none⟩ : Addr).add j) = some u := by
  intro j u hj
  rw [Addr.add_lit, cell_of_row _ w.heap.size (0 + j) _ t (0, 0) (heap_alloc_new w _), Nat.zero_add]
  simpa using hj
/-- These numbers lie from P on. -/
def Ri (w : World) (P : Option Addr) (zs : List Int) : Prop := (∀ z ∈ zs, (Lit.int .i64 z).wf = true) ∧ (zs ≠ [] → ∃ ad, P = some ad ∧ ad.block < w.heap.size ∧ ∀ (i : Nat) (z : Int), zs[i]? = some z → w.cell? (ad.add i) = some (.int .i64 z))
theorem Ri.below {w wr : World} {P : Option Addr} {zs : List Int} (h : Ri w P zs) (hb : Below w.heap.size w wr) : Ri wr P zs := by
  refine ⟨h.1, fun hn => ?_⟩
  obtain ⟨ad, e, h1, h2⟩ := h.2 hn
  refine ⟨ad, e, Nat.lt_of_lt_of_le h1 hb.size, fun i b hi => ?_⟩
  rw [hb.cell (p := ad.add i) (by rw [ad_block]; exact h1)]
  exact h2 i b hi
/-- The i-th of them. -/
theorem ri_at {w : World} {P : Option Addr} {zs : List Int} (h : Ri w P zs) (i : Nat) (hi : i < zs.length) : ∃ ad z, P = some ad ∧ Hid (zs[i]? = some z) ∧ w.cell? (ad.add i) = some (.int .i64 z) := by
  obtain ⟨ad, e, -, h2⟩ := h.2 (fun hn => by rw [hn] at hi; simp at hi)
  exact ⟨ad, zs[i], e, hide (List.getElem?_eq_getElem hi), h2 i _ (List.getElem?_eq_getElem hi)⟩
theorem Ri.nil (w : World) (P : Option Addr) : Ri w P [] := ⟨fun z hz => by simp at hz, fun h => absurd rfl h⟩
end Go.Proofs.YthjnkaikjjjceaaDoor
namespace Go.Proofs.YthjnkaikjjjceaaDoor
open Go.ChangeShapes Go.WideShapes Go.ChangeAt Go.RowKit
abbrev u8s (bs : List Nat) : List Value := bs.map fun n => Value.int .u8 (n : Nat)
/-- Block g is just these cells, none frozen. -/
def Has (w : World) (g : Nat) (t : TypeId) (cs : List Value) : Prop := w.heap[g]? = some (.cells cs.toArray t (0, 0))
section
variable {w w' : World} {g : Nat} {t : TypeId} {cs : List Value}
theorem Has.lt (h : Has w g t cs) : g < w.heap.size := by
  rcases Nat.lt_or_ge g w.heap.size with hlt | hge
  · exact hlt
  · unfold Has at h; rw [Array.getElem?_eq_none hge] at h; cases h
theorem Has.cell (h : Has w g t cs) (i : Nat) : w.cell? ⟨g, i, none⟩ = cs[i]? := by
  rw [cell_of_row w g i cs.toArray t (0, 0) h]; simp
theorem Has.frozen (h : Has w g t cs) (i : Nat) : w.frozen? ⟨g, i, none⟩ = false := by
  unfold Has at h
  simp [World.frozen?, h]
theorem Has.new (w : World) (t : TypeId) (cs : List Value) : Has (w.alloc (.cells cs.toArray t)) w.heap.size t cs := heap_alloc_new w _
theorem Has.drewN (h : Has w g t cs) (n : Nat) : Has (w.drewN n) g t cs := h
theorem Has.alloc (h : Has w g t cs) (o : Obj) : Has (w.alloc o) g t cs := (Below.heap_alloc w o g h.lt).trans h
theorem Has.set_ (h : Has w g t cs) (i : Nat) (u : Value) : Has (w.setCell ⟨g, i, none⟩ u) g t (cs.set i u) := by
  unfold Has at h ⊢
  simp [World.setCell, Array.getElem?_modify, h]
theorem Has.far (h : Has w g t cs) {p : Addr} (hp : g ≠ p.block) (u : Value) : Has (w.setCell p u) g t cs := (Below.heap_setCell w p u g hp).trans h
theorem Has.below {B : Nat} (h : Has w g t cs) (hb : Below B w w') (hg : g < B) : Has w' g t cs := (hb.block g hg).trans h
theorem Has.grown {row : Option Nat} (h : Has w g t cs) (hb : w.grownBy w' row) (hg : some g ≠ row) : Has w' g t cs := (hb.block g h.lt hg).trans h
end
/-- What lies from A on reads as these bytes. -/
def Rb (w : World) (A : Option Addr) (bs : List Nat) : Prop := (∀ b ∈ bs, b < 256) ∧ (bs ≠ [] → ∃ ad, A = some ad ∧ ad.block < w.heap.size ∧ ∀ (i b : Nat), bs[i]? = some b → w.cell? (ad.add i) = some (.int .u8 b))
theorem Rb.below {w wr : World} {A : Option Addr} {bs : List Nat} (h : Rb w A bs) (hb : Below w.heap.size w wr) : Rb wr A bs := by
  refine ⟨h.1, fun hn => ?_⟩
  obtain ⟨ad, e, h1, h2⟩ := h.2 hn
  refine ⟨ad, e, Nat.lt_of_lt_of_le h1 hb.size, fun i b hi => ?_⟩
  rw [hb.cell (p := ad.add i) (by rw [ad_block]; exact h1)]
  exact h2 i b hi
theorem Rb.nil (w : World) (A : Option Addr) : Rb w A [] := ⟨fun b hb => by simp at hb, fun h => absurd rfl h⟩
/-- The i-th of them. -/
theorem rb_at {w : World} {A : Option Addr} {bs : List Nat} (h : Rb w A bs) (i : Nat) (hi : i < bs.length) : ∃ ad b, A = some ad ∧ Hid (bs[i]? = some b) ∧ b < 256 ∧ w.cell? (ad.add i) = some (.int .u8 b) := by
  obtain ⟨ad, e, -, h2⟩ := h.2 (fun hn => by rw [hn] at hi; simp at hi)
  exact ⟨ad, bs[i], e, hide (List.getElem?_eq_getElem hi), h.1 _ (List.getElem_mem hi), h2 i _ (List.getElem?_eq_getElem hi)⟩
/-- A block that is known whole reads so. -/
theorem Has.rb {w : World} {g : Nat} {t : TypeId} {bs : List Nat} (h : Has w g t (u8s bs)) (hb : ∀ b ∈ bs, b < 256) : Rb w (some ⟨g, 0, none⟩) bs :=
  ⟨hb, fun _ => ⟨_, rfl, h.lt, fun i b hi => by rw [Addr.add_lit, h.cell, Nat.zero_add]; simp [hi]⟩⟩
/-- A row of the call's own reads so. -/
theorem own_rb {w : World} {base n : Nat} {t : TypeId} {v : Value} {bs : List Nat} (h : w.ownsRow base t 1 v n (u8s bs)) (hb : ∀ b ∈ bs, b < 256) :
    ∃ A cap, v = .slice A n cap ∧ bs.length = n ∧ n ≤ cap ∧ cap ≤ 9223372036854775807 ∧ Rb w A bs := by
  have hl : bs.length = n := by simpa using h.1
  rcases h.2 with ⟨rfl, rfl⟩ | ⟨g, cap, cur, rfl, h2, h3, h4, h5, _⟩
  · have hn : bs = [] := List.eq_nil_of_length_eq_zero hl
    subst hn
    exact ⟨none, 0, rfl, rfl, by omega, by omega, Rb.nil w none⟩
  · have hlt : g < w.heap.size := by
      rcases Nat.lt_or_ge g w.heap.size with hlt | hge
      · exact hlt
      · rw [Array.getElem?_eq_none hge] at h3; cases h3
    refine ⟨some ⟨g, 0, none⟩, cap, rfl, hl, h4, by unfold maxLen at h5; omega, ⟨hb, fun _ => ⟨_, rfl, hlt, fun i b hi => ?_⟩⟩⟩
    exact h.cells (g := g) rfl i _ (by rw [List.getElem?_map, hi]; rfl)
theorem u8info : ∃ i : TypeInfo, Tryd.prog.info? 5 = some i ∧ i.zero = some (.int .u8 0) ∧ i.size = 1 ∧ i.bytes = 1 := by
  obtain ⟨i, hi⟩ : ∃ i, Tryd.prog.info? 5 = some i := by
    refine Option.isSome_iff_exists.1 ?_
    kernel_rfl
  have h1 : (Tryd.prog.info? 5).bind (·.zero) = some (.int .u8 0) := by kernel_rfl
  have h2 : (Tryd.prog.info? 5).map (·.size) = some 1 := by kernel_rfl
  have h3 : (Tryd.prog.info? 5).map (·.bytes) = some 1 := by kernel_rfl
  rw [hi] at h1 h2 h3
  exact ⟨i, hi, by simpa using h1, by simpa using h2, by simpa using h3⟩
theorem ubs : Tryd.prog.underlying 30 = some (.slice 5) := by kernel_rfl
end Go.Proofs.YthjnkaikjjjceaaDoor
namespace Go.Proofs.YthjnkaikjjjceaaDoor
open Go.RowKit
abbrev i64s (zs : List Int) : List Value := zs.map fun z => Value.int .i64 z
theorem i64info : ∃ i : TypeInfo, Tryd.prog.info? 3 = some i ∧ i.zero = some (.int .i64 0) ∧ i.size = 1 ∧ i.bytes = 8 := by
  obtain ⟨i, hi⟩ : ∃ i, Tryd.prog.info? 3 = some i := by
    refine Option.isSome_iff_exists.1 ?_
    kernel_rfl
  have h1 : (Tryd.prog.info? 3).bind (·.zero) = some (.int .i64 0) := by kernel_rfl
  have h2 : (Tryd.prog.info? 3).map (·.size) = some 1 := by kernel_rfl
  have h3 : (Tryd.prog.info? 3).map (·.bytes) = some 8 := by kernel_rfl
  rw [hi] at h1 h2 h3
  exact ⟨i, hi, by simpa using h1, by simpa using h2, by simpa using h3⟩
theorem uis : Tryd.prog.underlying 46 = some (.slice 3) := by kernel_rfl
/-- make([]int, n). -/
theorem made_ints (n : Nat) (hn : n ≤ 1000000) : ∃ Z : Array Value, Hid (Z = (i64s (List.replicate n 0)).toArray) ∧ ∀ w : World, (Instr.makeSlice 46 (.int .i64 n) (.int .i64 n)).run Tryd.prog w = .ok (.slice (some ⟨w.heap.size, 0, none⟩) n n) (w.alloc (.cells Z 3)) := by
  obtain ⟨i0, hi0, hz0, hz1, hz2⟩ := i64info
  refine ⟨madeCells (Value.int .i64 0).cells n, hide ?_, fun w => ?_⟩
  · apply Array.ext'
    rw [show (Value.int .i64 0).cells = #[Value.int .i64 0] from rfl, toList_madeCells_one]
    simp
  · have h := run_make (P := Tryd.prog) w 46 3 i0 (.int .i64 0) uis hi0 hz0 .i64 .i64 (n : Int) (n : Int) (by omega) (by omega) (by rw [hz2]; omega) (by omega)
    rw [hz1, Int.toNat_natCast, Nat.mul_one] at h
    exact h
theorem Has.ri {w : World} {g : Nat} {t : TypeId} {zs : List Int} (h : Has w g t (i64s zs)) (hb : ∀ z ∈ zs, (Lit.int .i64 z).wf = true) : Ri w (some ⟨g, 0, none⟩) zs :=
  ⟨hb, fun _ => ⟨_, rfl, h.lt, fun i z hi => by rw [Addr.add_lit, h.cell, Nat.zero_add]; simp [hi]⟩⟩
theorem wf_i64 (z : Int) (h : -9223372036854775808 ≤ z ∧ z ≤ 9223372036854775807) : (Lit.int .i64 z).wf = true := by
  simp only [Lit.wf, Bool.and_eq_true, decide_eq_true_eq]
  have e1 : IntKind.i64.min = -9223372036854775808 := by decide
  have e2 : IntKind.i64.max = 9223372036854775807 := by decide
  omega
theorem new_ri (w : World) (t : TypeId) (zs : List Int) (hb : ∀ z ∈ zs, -9223372036854775808 ≤ z ∧ z ≤ 9223372036854775807) : Ri (w.alloc (.cells (i64s zs).toArray t)) (some ⟨w.heap.size, 0, none⟩) zs :=
  Has.ri (Has.new w t _) fun z hz => wf_i64 z (hb z hz)
end Go.Proofs.YthjnkaikjjjceaaDoor
