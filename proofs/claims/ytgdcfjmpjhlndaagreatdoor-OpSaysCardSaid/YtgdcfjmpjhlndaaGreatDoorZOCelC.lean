/-
  What functions of descs and of tensors answer; elem's errors not needed. By an AI agent. No person has read it.
-/
import Derived.Test.YtgdcfjmpjhlndaaGreatDoorZOElmN
import Derived.Test.YtgdcfjmpjhlndaaGreatDoorZOElmS
namespace Go.Proofs.YtgdcfjmpjhlndaaGreatDoor
open Go.RowKit
def Dsc.Fresh (n : Nat) (d : Dsc) : Prop := ∀ ad, d.P = some ad → n ≤ ad.block
theorem Dsc.Fresh.le {n m : Nat} {d : Dsc} (h : d.Fresh n) (hm : m ≤ n) : d.Fresh m := fun ad ha => Nat.le_trans hm (h ad ha)
def DscE (w : World) (ah am ar : Addr) (zs : List Int) (u : Bool) (k : Nat) (e : Ending) (w' : World) : Prop :=
 (∃ d : Dsc, e = .returned (.tuple #[.agg (dcells d.P d.zs.length d.cap d.u), Tens.err ah am ar k]) ∧ d.In w' ∧ d.Fresh (w.heap.size + 1) ∧ d.zs = zs ∧ d.u = u) ∧ Below w.heap.size w w'
theorem DscE.bad {w W : World} {ah am ar : Addr} {k : Nat} {e : Ending} (he : e = .returned (.tuple #[.agg (dcells none 0 0 false), Tens.err ah am ar k])) (hb : Below w.heap.size w W) : DscE w ah am ar [] false k e W :=
 ⟨⟨⟨none, [], 0, false⟩, he, ⟨Ri.nil _ _, by simp⟩, (fun ad h => by cases h), rfl, rfl⟩, hb⟩
def Cel.fault (ts : List Ten) (k : Nat) : Nat × Option Nat := if Tens.first ts = (0, none) then (k, none) else Tens.first ts
def Cel.or {α : Type} (ts : List Ten) (k : Nat) (x y : α) : α := if Cel.fault ts k = (0, none) then x else y
theorem Cel.fault_first {ts : List Ten} {k : Nat} (h : Tens.first ts ≠ (0, none)) : Cel.fault ts k = Tens.first ts := if_neg h
theorem Cel.fault_code {ts : List Ten} {k : Nat} (h : Tens.first ts = (0, none)) : Cel.fault ts k = (k, none) := if_pos h
def OwnData (w : World) (t : Ten) : Prop := ∃ g, t.D = some ⟨g, 0, none⟩ ∧ t.dcap = t.ds.length ∧ Has w g 3 (i64s t.ds)
def TenE (w : World) (ah am ar : Addr) (F : Nat × Option Nat) (zs : List Int) (u : Bool) (ds : List Int) (e : Ending) (w' : World) : Prop :=
 (∃ (t : Ten) (x : Value), e = .returned (.tuple #[.agg (tcells t.P t.zs.length t.cap t.u t.D t.ds.length t.dcap), x]) ∧ t.In w' ∧ t.Fresh (w.heap.size + 1) ∧ t.zs = (if F = (0, none) then zs else []) ∧ t.u = (if F = (0, none) then u else false) ∧ t.ds = (if F = (0, none) then ds else []) ∧ TErr w' ah am ar x F ∧ (F = (0, none) → OwnData w' t)) ∧ Below w.heap.size w w'
def Cel.known (k : Nat) : Prop := k = 0 ∨ k = 101 ∨ k = 102 ∨ k = 104
theorem Cel.known_shp (zs : List Int) : Cel.known (Shp.code zs) := by
 have h := Shp.code_is zs
 unfold Cel.known
 omega
theorem Cel.known_bad (ds : List Dsc) : Cel.known (Shp.firstbad ds) := by
 induction ds with
 | nil => exact .inl rfl
 | cons d l ih =>
  unfold Shp.firstbad
  split
  ·exact ih
  ·exact Cel.known_shp _
theorem Dsc.In.far {w : World} {d : Dsc} (h : d.In w) {b : Nat} (hP : ∀ ad, d.P = some ad → ad.block ≠ b) (i : Nat) (x : Value) : d.In (w.setCell ⟨b, i, none⟩ x) := by
 refine ⟨⟨h.shp.1, fun hz => ?_⟩, h.ls⟩
 obtain ⟨ad, h1, h2, h3⟩ := h.shp.2 hz
 refine ⟨ad, h1, by simpa using h2, fun j z hj => ?_⟩
 rw [World.cell?_setCell_far _ _ _ _ (by rw [ad_block]; exact Ne.symm (hP ad h1))]
 exact h3 j z hj
theorem Dsc.In.far2 {w : World} {d : Dsc} (h : d.In w) {b n : Nat} (hf : d.Fresh n) (hn : b < n) (x y : Value) : d.In ((w.setCell ⟨b, 0, none⟩ x).setCell ⟨b, 1, none⟩ y) := by
 have h1 : ∀ ad, d.P = some ad → ad.block ≠ b := fun ad ha => by have := hf ad ha; omega
 exact (h.far h1 0 x).far h1 1 y
theorem rowd_two {w : World} {B : Option Addr} {a b : Dsc} (h : Row w B ([a, b].flatMap Dsc.vals)) : ∃ ad, B = some ad ∧ ad.block < w.heap.size ∧ w.cell? ad = some (.slice a.P a.zs.length a.cap) ∧ w.cell? ⟨ad.block, ad.off + 1, none⟩ = some (.bool a.u) ∧
  w.cell? ⟨ad.block, ad.off + 2, none⟩ = some (.slice b.P b.zs.length b.cap) ∧ w.cell? ⟨ad.block, ad.off + 3, none⟩ = some (.bool b.u) := by
 obtain ⟨ad, h1, h2, h3⟩ := h (by simp [Dsc.vals])
 have c0 := h3 0 _ rfl
 have c1 := h3 1 _ rfl
 have c2 := h3 2 _ rfl
 have c3 := h3 3 _ rfl
 rw [Addr.add_zero'] at c0
 simp only [Addr.add, Nat.reduceEqDiff, if_false] at c1 c2 c3
 exact ⟨ad, h1, h2, c0, c1, c2, c3⟩
theorem own_row2 {w : World} {base n s : Nat} {e : TypeId} {v : Value} {xs : List Value} (h : w.ownsRow base e s v n xs) : ∃ B c, v = .slice B n c ∧ Row w B xs ∧ ∀ ad, B = some ad → base ≤ ad.block := by
 rcases h.2 with ⟨rfl, rfl⟩ | ⟨g, c, cur, rfl, h2, h3, -, -, -, h4⟩
 ·have h1 := h.1
  rw [Nat.zero_mul] at h1
  exact ⟨none, 0, rfl, fun hx => absurd (List.eq_nil_of_length_eq_zero h1) hx, fun ad h => by cases h⟩
 ·refine ⟨_, c, rfl, fun _ => ⟨_, rfl, (Array.getElem?_eq_some_iff.1 h3).1, fun j x hx => ?_⟩, fun ad h => by cases h; exact h2⟩
  rw [Addr.add_lit, Nat.zero_add]
  rw [← h4, List.getElem?_take] at hx
  split at hx
  ·have : w.cell? ⟨g, j, none⟩ = cur[j]? := by simp [World.cell?, h3]
   rw [this, ← hx, Array.getElem?_toList]
  ·cases hx
theorem TErr.fart {W : World} {ah am ar : Addr} {v : Value} {R : Nat × Option Nat} (h : TErr W ah am ar v R) {b : Nat} {t : TypeId} {cs : List Value} (hb : Has W b t cs) (ht : t ≠ 113) (i : Nat) (x : Value) : TErr (W.setCell ⟨b, i, none⟩ x) ah am ar v R := h.keep fun g y z hg => hg.far (p := ⟨b, i, none⟩) (by
  intro (e : g = b)
  subst e
  have h1 : W.heap[g]? = _ := hg
  have h2 : W.heap[g]? = _ := hb
  rw [h1] at h2
  simp at h2
  exact ht h2.2.symm) x
theorem TErr.fart2 {W : World} {ah am ar : Addr} {v : Value} {R : Nat × Option Nat} (h : TErr W ah am ar v R) {b : Nat} {t : TypeId} {cs : List Value} (hb : Has W b t cs) (ht : t ≠ 113) (x y : Value) : TErr ((W.setCell ⟨b, 0, none⟩ x).setCell ⟨b, 1, none⟩ y) ah am ar v R :=
 (h.fart hb ht 0 x).fart (hb.set_ 0 x) ht 1 y
theorem TErr.fart3 {W : World} {ah am ar : Addr} {v : Value} {R : Nat × Option Nat} (h : TErr W ah am ar v R) {b : Nat} {t : TypeId} {cs : List Value} (hb : Has W b t cs) (ht : t ≠ 113) (x y z : Value) : TErr (((W.setCell ⟨b, 0, none⟩ x).setCell ⟨b, 1, none⟩ y).setCell ⟨b, 2, none⟩ z) ah am ar v R :=
 ((h.fart hb ht 0 x).fart (hb.set_ 0 x) ht 1 y).fart ((hb.set_ 0 x).set_ 1 y) ht 2 z
end Go.Proofs.YtgdcfjmpjhlndaaGreatDoor
