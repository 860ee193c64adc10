/-
  slices.Backward over ints, as a range over a function asks for it. By an AI agent. No person has read it.
-/
import Derived.Test.YtnbjcdmiehnceaaDoorBasD
import Derived.RangeFuncNested
import Derived.RangeFuncBound
import Derived.RangeFuncCalls
import Derived.RangeFuncBox
import Derived.RangeFuncLeaves
import Derived.RangeFuncWrites
import Derived.Shelf.Abstract
import Derived.Shelf.RegionOpen
import Derived.WalkKit
import Derived.OwnWalkIn
import Derived.TacticsInMore
import Derived.LoopNIn
import Derived.LoopIn
namespace Go.Proofs.YtnbjcdmiehnceaaDoor
open Go.RowKit Go.Shelf

attribute [local go_sem] Oper.semAt_some

/-- What has come when k rounds are over. -/
def Rf.upto {α : Type} (f : Nat → α) (k : Nat) : List α := (List.range k).map f
theorem Rf.upto_succ {α : Type} (f : Nat → α) (k : Nat) : Rf.upto f (k + 1) = Rf.upto f k ++ [f k] := by simp [Rf.upto, List.range_succ]
theorem Rf.upto_length {α : Type} (f : Nat → α) (k : Nat) : (Rf.upto f k).length = k := by simp [Rf.upto]
/-- What a round keeps: all below n₀, and the box of the slice. -/
def Rf.KB (n₀ Bs : Nat) (W W' : World) : Prop := Below n₀ W W' ∧ W'.heap[Bs]? = W.heap[Bs]?
theorem Rf.KB.refl (n₀ Bs : Nat) (W : World) : Rf.KB n₀ Bs W W := ⟨Below.refl _ _, rfl⟩
theorem Rf.KB.trans {n₀ Bs : Nat} {A B C : World} (h : Rf.KB n₀ Bs A B) (k : Rf.KB n₀ Bs B C) : Rf.KB n₀ Bs A C := ⟨h.1.trans k.1, k.2.trans h.2⟩
theorem Rf.kb_b {n₀ Bs : Nat} {w : World} (hn : n₀ ≤ w.heap.size) (hB : Bs < w.heap.size) (W : World) (l : Nat) (o o' : Obj) (hl : w.heap.size ≤ l) (h1 : W.heap[l]? = some o) (h2 : o.isCells = false) (h3 : o.isWalk = false) : Rf.KB n₀ Bs W (W.putObj l o') :=
  ⟨belowK_b hn W l o o' hl h1 h2 h3, World.putObj_heap_other (by omega)⟩
/-- The k-th pair from behind. -/
def Rf.back (zs : List Int) (k : Nat) : Nat × Int := (zs.length - 1 - k, zs[zs.length - 1 - k]?.getD 0)
/-- A place of a list, and what stands there. -/
abbrev Rf.Pair (zs : List Int) : Type := { x : Nat × Int // zs[x.1]? = some x.2 }
/-- The first k of them, from behind. -/
def Rf.Come (zs : List Int) (k : Nat) (ys : List (Rf.Pair zs)) : Prop := ys.map (·.1) = Rf.upto (Rf.back zs) k
theorem Rf.Come.length {zs : List Int} {k : Nat} {ys : List (Rf.Pair zs)} (h : Rf.Come zs k ys) : ys.length = k := by
  have := congrArg List.length h
  rwa [List.length_map, Rf.upto_length] at this
theorem Rf.Come.next {zs : List Int} {k : Nat} {ys : List (Rf.Pair zs)} (h : Rf.Come zs k ys) (x : Rf.Pair zs) (hx : Rf.back zs k = x.1) : Rf.Come zs (k + 1) (ys ++ [x]) := by
  unfold Rf.Come at h ⊢
  rw [List.map_append, h, Rf.upto_succ, hx]
  rfl
/-- These ints lie from P on, below n₀. -/
def Rf.Ints (n₀ : Nat) (W : World) (P : Option Addr) (zs : List Int) : Prop := ∀ (j : Nat) (z : Int), zs[j]? = some z → ∃ ad, P = some ad ∧ ad.block < n₀ ∧ W.cell? (ad.add j) = some (.int .i64 z)
theorem Rf.Ints.below {n₀ : Nat} {A B : World} {P : Option Addr} {zs : List Int} (h : Rf.Ints n₀ A P zs) (hb : Below n₀ A B) : Rf.Ints n₀ B P zs := fun j z hz => by
  obtain ⟨ad, e, h1, h2⟩ := h j z hz
  exact ⟨ad, e, h1, (hb.cell (p := ad.add j) (by rw [ad_block]; exact h1)).trans h2⟩
theorem Ri.ints {w : World} {P : Option Addr} {zs : List Int} (h : Ri w P zs) : Rf.Ints w.heap.size w P zs := fun j z hz => by
  obtain ⟨ad, e, h1, h2⟩ := h.2 (fun hn => by rw [hn] at hz; simp at hz)
  exact ⟨ad, e, h1, h2 j z hz⟩

set_option maxRecDepth 100000 in
set_option maxHeartbeats 2000000 in
theorem back1_in (F : Fence) (n : Nat) (h8 : F.fn 92) (hro : F.round = none) (hn : 1 ≤ n) (l Bs n₀ len cap : Nat) (P : Option Addr) (zs : List Int) (hl : Hid (zs.length = len)) (hlen : len ≤ 1000000) (J Jx : List (Rf.Pair zs) → World → Prop)
    (hY : ∀ pre x W, J pre W → pre.length < len → YieldAt F (n - 1) Tryd.prog l #[.int .i64 (x.1.1 : Int), .int .i64 x.1.2] W fun e W' =>
      (e = .returned (.bool true) ∧ J (pre ++ [x]) W' ∧ Rf.KB n₀ Bs W W') ∨ (e = .returned (.bool false) ∧ Jx (pre ++ [x]) W'))
    (W : World) (hBs : W.cell? ⟨Bs, 0, none⟩ = some (.slice P len cap)) (hc : Hid (Rf.Ints n₀ W P zs)) (h0 : J [] W) :
    CallsIn F n Tryd.prog 92 #[.func (.yield l) #[] #[], .pointer (some ⟨Bs, 0, none⟩)] W fun e W' => (∃ v, e = .returned v) ∧
      ((∃ ys, Rf.Come zs len ys ∧ J ys W') ∨ (∃ pre, (∃ k, k ≤ len ∧ Rf.Come zs k pre) ∧ Jx pre W')) := by
  refine callsIn_of_wp Tryd.func92 rfl h8 ?_ hro
  simp only [Tryd.ntmps92, List.size_toArray, List.length_cons, List.length_nil, Nat.reduceAdd, Nat.reduceSub, Array.replicate_succ, Array.replicate_zero, List.push_toArray, List.append_toArray, List.nil_append, List.cons_append]
  gi_wp2
  gi_loopw [3] (fun i wr => ∃ (r k : Nat) (pre : List (Rf.Pair zs)), r + k = len ∧ i = .int .i64 ((r : Int) - 1) ∧ Rf.Come zs k pre ∧ J pre wr ∧ Rf.KB n₀ Bs W wr)
    (fun i _ => (intOf i + 1).toNat)
  case atStart => exact ⟨len, 0, [], by omega, rfl, rfl, h0, Rf.KB.refl _ _ _⟩
  case round =>
    obtain ⟨r, k, pre, hk, rfl, hco, hJs, hnx⟩ := hrel
    have hBs' := (World.cell?_of_block (a := ⟨Bs, 0, none⟩) hnx.2).trans hBs
    cases r with
    | zero =>
      obtain rfl : k = len := by omega
      gi_wp2
      go_end0
      exact ⟨⟨_, rfl⟩, .inl ⟨_, hco, hJs⟩⟩
    | succ j =>
      rw [show (((j + 1 : Nat) : Int) - 1) = (j : Int) by omega]
      obtain ⟨z, hz⟩ : ∃ z, zs[j]? = some z := ⟨_, List.getElem?_eq_getElem (by rw [hl.out]; omega)⟩
      obtain ⟨ad, rfl, hb, hcz⟩ := hc.out j z hz
      have hcx : wr.cell? (ad.add j) = some (.int .i64 z) := (hnx.1.cell (p := ad.add j) (by rw [ad_block]; exact hb)).trans hcz
      have hbk : Rf.back zs k = (j, z) := by
        unfold Rf.back
        rw [show zs.length - 1 - k = j by rw [hl.out]; omega, hz]
        rfl
      obtain ⟨fn, tmps, assign, body, hy, hR⟩ := hY _ ⟨(j, z), hz⟩ wr hJs (by rw [hco.length]; omega)
      dsimp only at hy
      have hjl : (j : Int) < len := by omega
      have hco' := hco.next ⟨(j, z), hz⟩ hbk
      clear hcz
      gi_wp2
      refine hR.mono ?_
      rintro e W3 (⟨rfl, hJ3, hk3⟩ | ⟨rfl, hJx3⟩)
      · gi_wp2
        go_roundw
        case rel => exact ⟨j, k + 1, _, by omega, rfl, hco', hJ3, hnx.trans hk3⟩
        case measure => simp [intOf]
      · gi_wp2
        refine bodyPost_ret (results_none rfl _ _ _) rfl ?_
        exact ⟨⟨_, rfl⟩, .inr ⟨_, ⟨k + 1, by omega, hco'⟩, hJx3⟩⟩

set_option maxHeartbeats 1000000 in
/-- slices.Backward(s): the slice value is boxed; the function value captures the box. -/
theorem back_in (F : Fence) (n : Nat) (h6 : F.fn 67) (hro : F.round = none) (a : Option Addr) (len cap : Nat) (w : World) :
    CallsIn F n Tryd.prog 67 #[.slice a len cap] w fun e w' => e = .returned (.func (.func 92) #[] #[.pointer (some ⟨w.heap.size, 0, none⟩)]) ∧ w' = w.alloc (.cells #[.slice a len cap] 22) := by
  refine callsIn_of_wp Tryd.func67 rfl h6 ?_ hro
  simp only [Tryd.ntmps67, List.size_toArray, List.length_cons, List.length_nil, Nat.reduceAdd, Nat.reduceSub, Array.replicate_succ, Array.replicate_zero, List.push_toArray, List.append_toArray, List.nil_append, List.cons_append]
  gi_wp2
  go_ret
  exact ⟨rfl, rfl⟩
/-- It goes through all of them, from the last on. -/
theorem back_stops (F : Fence) (n : Nat) (h8 : F.fn 92) (hro : F.round = none) (hn : 1 ≤ n) (Bs n₀ len cap : Nat) (P : Option Addr) (zs : List Int) (hl : Hid (zs.length = len)) (hreach : len ≤ 1000000) (w : World) (hBs : Bs < w.heap.size) (hn₀ : n₀ ≤ w.heap.size)
    (hc : w.cell? ⟨Bs, 0, none⟩ = some (.slice P len cap)) (hI : Rf.Ints n₀ w P zs) :
    SeqStopsK F n Tryd.prog 92 #[.pointer (some ⟨Bs, 0, none⟩)] (fun x : Rf.Pair zs => #[Value.int .i64 (x.1.1 : Int), Value.int .i64 x.1.2]) (Rf.KB n₀ Bs) (fun ys => Rf.Come zs len ys)
      (fun pre => ∃ k, k ≤ len ∧ Rf.Come zs k pre) len w := fun l J Jx W hW _ _ hY h0 =>
  back1_in F n h8 hro hn l Bs n₀ len cap P zs hl hreach J Jx hY W ((hW.cell (p := ⟨Bs, 0, none⟩) hBs).trans hc) (hide (hI.below (hW.mono hn₀))) h0
end Go.Proofs.YtnbjcdmiehnceaaDoor
