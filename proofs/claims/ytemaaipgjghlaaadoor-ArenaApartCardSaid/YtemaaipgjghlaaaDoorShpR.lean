/-
  slices.Backward over ints, as a range over a function asks for it. By an AI agent. No person has read it.
-/
import Derived.Test.YtemaaipgjghlaaaDoorBasD
import Derived.RangeFuncNested
import Derived.RangeFuncBound
import Derived.RangeFuncCalls
import Derived.RangeFuncBox
import Derived.RangeFuncLeaves
import Derived.RangeFuncWrites
import Derived.Shelf.Abstract
import Derived.Shelf.RegionOpen
import Derived.WalkKit
import Derived.OwnWalkIn
import Derived.TacticsInMore
import Derived.LoopNIn
import Derived.LoopIn
namespace Go.Proofs.YtemaaipgjghlaaaDoor
open Go.RowKit Go.Shelf

attribute [local go_sem] Oper.semAt_some

/-- What has come when k rounds are over. -/
def Rf.upto {α : Type} (f : Nat → α) (k : Nat) : List α := (List.range k).map f
theorem Rf.upto_succ {α : Type} (f : Nat → α) (k : Nat) : Rf.upto f (k + 1) = Rf.upto f k ++ [f k] := by simp [Rf.upto, List.range_succ]
theorem Rf.upto_length {α : Type} (f : Nat → α) (k : Nat) : (Rf.upto f k).length = k := by simp [Rf.upto]
/-- What a round keeps: all below n₀, and the box of the slice. -/
def Rf.KB (n₀ Bs : Nat) (W W' : World) : Prop := Below n₀ W W' ∧ W'.heap[Bs]? = W.heap[Bs]?
theorem Rf.KB.refl (n₀ Bs : Nat) (W : World) : Rf.KB n₀ Bs W W := ⟨Below.refl _ _, rfl⟩
theorem Rf.KB.trans {n₀ Bs : Nat} {A B C : World} (h : Rf.KB n₀ Bs A B) (k : Rf.KB n₀ Bs B C) : Rf.KB n₀ Bs A C := ⟨h.1.trans k.1, k.2.trans h.2⟩
theorem Rf.kb_b {n₀ Bs : Nat} {w : World} (hn : n₀ ≤ w.heap.size) (hB : Bs < w.heap.size) (W : World) (l : Nat) (o o' : Obj) (hl : w.heap.size ≤ l) (h1 : W.heap[l]? = some o) (h2 : o.isCells = false) (h3 : o.isWalk = false) : Rf.KB n₀ Bs W (W.putObj l o') :=
  ⟨belowK_b hn W l o o' hl h1 h2 h3, World.putObj_heap_other (by omega)⟩
/-- The k-th pair from behind. -/
def Rf.back (zs : List Int) (k : Nat) : Nat × Int := (zs.length - 1 - k, zs[zs.length - 1 - k]?.getD 0)
/-- A place of a list, and what stands there. -/
abbrev Rf.Pair (zs : List Int) : Type := { x : Nat × Int // zs[x.1]? = some x.2 }
/-- The first k of them, from behind. -/
def Rf.Come (zs : List Int) (k : Nat) (ys : List (Rf.Pair zs)) : Prop := ys.map (·.1) = Rf.upto (Rf.back zs) k
theorem Rf.Come.length {zs : List Int} {k : Nat} {ys : List (Rf.Pair zs)} (h : Rf.Come zs k ys) : ys.length = k := by
  have := congrArg List.length h
  rwa [List.length_map, Rf.upto_length] at this
theorem Rf.Come.next {zs : List Int} {k : Nat} {ys : List (Rf.Pair zs)} (h : Rf.Come zs k ys) (x : Rf.Pair zs) (hx : Rf.back zs k = x.1) : Rf.Come zs (k + 1) (ys ++ [x]) := by
  unfold Rf.Come at h ⊢
  rw [List.map_append, h, Rf.upto_succ, hx]
  rfl
/-- These ints lie from P on, below n₀. -/
def Rf.Ints (n₀ : Nat) (W : World) (P : Option Addr) (zs : List Int) : Prop := ∀ (j : Nat) (z : Int), zs[j]? = some z → ∃ ad, P = some ad ∧ ad.block < n₀ ∧ W.cell? (ad.add j) = some (.int .i64 z)
theorem Rf.Ints.below {n₀ : Nat} {A B : World} {P : Option Addr} {zs : List Int} (h : Rf.Ints n₀ A P zs) (hb : Below n₀ A B) : Rf.Ints n₀ B P zs := fun j z hz => by
  obtain ⟨ad, e, h1, h2⟩ := h j z hz
  exact ⟨ad, e, h1, (hb.cell (p := ad.add j) (by rw [ad_block]; exact h1)).trans h2⟩
theorem Ri.ints {w : World} {P : Option Addr} {zs : List Int} (h : Ri w P zs) : Rf.Ints w.heap.size w P zs := fun j z hz => by
  obtain ⟨ad, e, h1, h2⟩ := h.2 (fun hn => by rw [hn] at hz; simp at hz)
  exact ⟨ad, e, h1, h2 j z hz⟩

end Go.Proofs.YtemaaipgjghlaaaDoor
