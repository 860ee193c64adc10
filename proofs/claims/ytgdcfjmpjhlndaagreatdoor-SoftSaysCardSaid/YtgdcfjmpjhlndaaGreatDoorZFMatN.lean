/-
  The product of two matrices and a matrix turned, over lists of numbers. mat.Result, walked. cells.turn: the elements of one turned. cells.matmul: elements of the product of two. mat.look, Mul, Cell, Turn, walked. What a tensor of no fault is. lodgeref.Ints: a copy of the call's own, that may be appended to. mat.Mul and mat.Cell, walked. mat.Cell and mat.Turn, walked. lodgeworld.Number by its value; lodgelaw8.matrix. Products and turned ones that are lawful; the examples of package lodgelaw8. What laws about products use. By an AI agent. No person has read it.
-/
import Derived.Test.YtgdcfjmpjhlndaaGreatDoorZFTenWn
import Derived.Test.YtgdcfjmpjhlndaaGreatDoorZFCelC
import Derived.Test.YtgdcfjmpjhlndaaGreatDoorZFElmN
import Derived.Test.YtgdcfjmpjhlndaaGreatDoorZFShpCl
import Derived.Deep.RegionLaw
import Derived.RegionTactic
import Derived.ChangeAlike
import Derived.BigRegion
import Derived.Deep.LoopGhost
import Derived.Laws.CopyOwn
import Derived.Laws.BitsAllLaws
namespace Go.Proofs.YtgdcfjmpjhlndaaGreatDoor
open Go.RowKit
/-- The sum of the first k products of the row and the column. -/
def Mat.dot (xs ys : List Int) (za zb : Int) (inner n row col : Nat) : Nat → Int
  | 0 => 0
  | k + 1 => Mat.dot xs ys za zb inner n row col k + (xs.getD (row * inner + k) 0 - za) * (ys.getD (k * n + col) 0 - zb)
/-- The elements of the product from f on, m of them: inner: the first's columns, n: the second's. -/
def Mat.part (xs ys : List Int) (za zb : Int) (inner n f m : Nat) : List Int := (List.range m).map fun i => Tens.wide (Mat.dot xs ys za zb inner n ((f + i) / n) ((f + i) % n) inner)
/-- What is amiss with a product: the error's number. -/
def Mat.code (za zb : Int) (a b : Dsc) : Nat :=
  if Shp.firstbad [a, b] ≠ 0 then Shp.firstbad [a, b] else if a.u = true ∨ b.u = true ∨ a.zs.length ≠ 2 ∨ b.zs.length ≠ 2 ∨ a.zs.getD 1 0 ≠ b.zs.getD 0 0 then 101
  else if Tens.narrow za ≠ za ∨ Tens.narrow zb ≠ zb then 102 else Shp.code [a.zs.getD 0 0, b.zs.getD 1 0]
def Mat.shape (za zb : Int) (a b : Dsc) : List Int := if Mat.code za zb a b = 0 then [a.zs.getD 0 0, b.zs.getD 1 0] else []
def Mat.kind (za zb : Int) (a b : Dsc) : Bool := decide (Mat.code za zb a b = 0)
/-- All numbers of it are narrow. -/
def Mat.small (ds : List Int) : Prop := ∀ z ∈ ds, -128 ≤ z ∧ z ≤ 127
/-- What is held: four cells of a row. -/
abbrev LkS (ad : Addr) (x0 x1 x2 x3 : Value) (W : World) : Prop := W.cell? ad = some x0 ∧ W.cell? ⟨ad.block, ad.off + 1, none⟩ = some x1 ∧ W.cell? ⟨ad.block, ad.off + 2, none⟩ = some x2 ∧ W.cell? ⟨ad.block, ad.off + 3, none⟩ = some x3
theorem LkS.keep {ad : Addr} {x0 x1 x2 x3 : Value} {W W' : World} (h : LkS ad x0 x1 x2 x3 W) (hl : ad.block < W.heap.size) (hb : Below W.heap.size W W') : LkS ad x0 x1 x2 x3 W' :=
  ⟨(hb.cell hl).trans h.1, (hb.cell (p := ⟨ad.block, ad.off + 1, none⟩) hl).trans h.2.1, (hb.cell (p := ⟨ad.block, ad.off + 2, none⟩) hl).trans h.2.2.1, (hb.cell (p := ⟨ad.block, ad.off + 3, none⟩) hl).trans h.2.2.2⟩
theorem LkS.far2 {ad : Addr} {x0 x1 x2 x3 : Value} {W : World} (h : LkS ad x0 x1 x2 x3 W) {b : Nat} (hn : b ≠ ad.block) (x y : Value) : LkS ad x0 x1 x2 x3 ((W.setCell ⟨b, 0, none⟩ x).setCell ⟨b, 1, none⟩ y) := by
  have k : ∀ (p : Addr), p.block = ad.block → ((W.setCell ⟨b, 0, none⟩ x).setCell ⟨b, 1, none⟩ y).cell? p = W.cell? p := fun p hp => by
    rw [World.cell?_setCell_far _ _ _ _ (by rw [hp]; exact hn), World.cell?_setCell_far _ _ _ _ (by rw [hp]; exact hn)]
  exact ⟨(k ad rfl).trans h.1, (k ⟨ad.block, ad.off + 1, none⟩ rfl).trans h.2.1, (k ⟨ad.block, ad.off + 2, none⟩ rfl).trans h.2.2.1, (k ⟨ad.block, ad.off + 3, none⟩ rfl).trans h.2.2.2⟩
theorem Shp.whole {zs : List Int} (h : Shp.code zs = 0) : zs.length ≤ 4 ∧ (∀ z ∈ zs, 1 ≤ z ∧ z ≤ 256) ∧ Shp.elems zs = Shp.prod zs ∧ 1 ≤ Shp.prod zs ∧ Shp.prod zs ≤ 16384 := by
  have hk : Shp.ok zs = true := by unfold Shp.ok; exact decide_eq_true h
  obtain ⟨h1, h2, h3⟩ := (Shp.ok_iff zs).1 hk
  refine ⟨h1, fun z hz => ?_, ?_, (Shp.prod_pos zs h2).1, h3⟩
  · have := List.all_eq_true.1 h2 z hz
    exact of_decide_eq_true this
  · unfold Shp.elems
    rw [if_pos hk]
theorem Tens.whole {t : Ten} (h : t.fault = (0, none)) : Shp.code t.zs = 0 ∧ (t.ds.length : Int) = Shp.prod t.zs ∧ ∀ z ∈ t.ds, Tens.fit t.u z = true := by
  have hf : Tens.fault t.zs t.u t.ds = (0, none) := h
  obtain ⟨h1, h2⟩ := fine_len hf
  refine ⟨h2, by rw [h1]; exact (Shp.whole h2).2.2.1, ?_⟩
  unfold Tens.fault at hf
  rw [if_neg (by omega), if_neg (by omega)] at hf
  split at hf
  · cases hf
  · rename_i hn
    rw [List.findIdx?_eq_none_iff] at hn
    intro z hz
    have := hn z hz
    simpa using this
theorem fit_narrow {u : Bool} {z : Int} (hu : u = false) (h : Tens.fit u z = true) : -128 ≤ z ∧ z ≤ 127 := by
  unfold Tens.fit at h
  rw [hu, if_neg (by decide)] at h
  exact of_decide_eq_true h
/-- No fault: neither of the tensors, nor of what they look like. -/
theorem Cel.fine {ts : List Ten} {k : Nat} (h : Cel.fault ts k = (0, none)) : Tens.first ts = (0, none) ∧ k = 0 := by
  unfold Cel.fault at h
  split at h
  · rename_i h1
    exact ⟨h1, congrArg Prod.fst h⟩
  · rename_i h1
    exact absurd h h1
/-- The numbers of a product. -/
def Mat.ds (za zb : Int) (a b : Ten) : List Int := Mat.part a.ds b.ds za zb (b.zs.getD 0 0).toNat (b.zs.getD 1 0).toNat 0 ((a.zs.getD 0 0).toNat * (b.zs.getD 1 0).toNat)
/-- An element of it; 0 of a place that is none. -/
def Mat.el (za zb : Int) (a b : Ten) (i : Int) : Int := (if 0 ≤ i then (Mat.ds za zb a b).getD i.toNat 0 else 0)
/-- An element of a product; 0 of a place that is none, and where there is no product. -/
def Mat.cell (za zb : Int) (a b : Ten) (i : Int) : Int := if Cel.fault [a, b] (Mat.code za zb a.look b.look) = (0, none) then (if 0 ≤ i then (Mat.ds za zb a b).getD i.toNat 0 else 0) else 0
theorem Mat.prod_two (M N : Nat) (h1 : 1 ≤ M) (h2 : M ≤ 256) (h3 : 1 ≤ N) (h4 : N ≤ 256) (h : M * N ≤ 16384) : Shp.code [(M : Int), (N : Int)] = 0 ∧ Shp.elems [(M : Int), (N : Int)] = ((M * N : Nat) : Int) := by
  have hc : Shp.code [(M : Int), (N : Int)] = 0 := by
    unfold Shp.code
    have e1 : Shp.prod [(M : Int), (N : Int)] = ((M * N : Nat) : Int) := by simp [Shp.prod]
    rw [if_neg (by show ¬ 4 < 2; omega), if_neg (by simp [Shp.okDim]; omega), if_neg (by rw [e1]; omega)]
  refine ⟨hc, ?_⟩
  rw [(Shp.whole hc).2.2.1]
  simp [Shp.prod]
/-- A tensor of M rows and N columns. -/
structure Mat.Is (t : Ten) (M N : Nat) (u : Bool) : Prop where
  zs : t.zs = [(M : Int), (N : Int)]
  hu : t.u = u
  len : t.ds.length = M * N
  ft : ∀ z ∈ t.ds, Tens.fit u z = true
theorem Mat.Is.fault {t : Ten} {M N : Nat} {u : Bool} (h : Mat.Is t M N u) (h1 : 1 ≤ M) (h2 : M ≤ 100) (h3 : 1 ≤ N) (h4 : N ≤ 100) : t.fault = (0, none) := by
  have hmn : M * N ≤ 100 * 100 := Nat.mul_le_mul h2 h4
  obtain ⟨e1, e2⟩ := Mat.prod_two M N h1 (by omega) h3 (by omega) (by omega)
  show Tens.fault t.zs t.u t.ds = (0, none)
  rw [h.zs, h.hu]
  exact Tens.fault_none _ _ _ e1 (by rw [e2, h.len]) (fun j y hy => h.ft y (List.mem_of_getElem? hy))
theorem Mat.lit {w : World} {gs g T M N : Nat} {ds : List Int} (hS : Has w gs 3 (i64s [(M : Int), (N : Int)])) (hD : Has w g 3 (i64s ds)) (hL : ds.length = T) (hT : M * N = T) (hs : Mat.small ds) (h1 : M ≤ 100) (h2 : N ≤ 100) :
    Ten.In w ⟨some ⟨gs, 0, none⟩, [(M : Int), (N : Int)], 2, false, some ⟨g, 0, none⟩, ds, T⟩ ∧ Mat.Is ⟨some ⟨gs, 0, none⟩, [(M : Int), (N : Int)], 2, false, some ⟨g, 0, none⟩, ds, T⟩ M N false := by
  have hmn : M * N ≤ 100 * 100 := Nat.mul_le_mul h1 h2
  refine ⟨⟨hS.ri ?_, hD.ri ?_, by show 2 ≤ 1000000; omega, by show ds.length ≤ 1000000; omega⟩, ⟨rfl, rfl, by show ds.length = _; omega, fun z hz => ?_⟩⟩
  · intro q hq
    simp at hq
    rcases hq with rfl | rfl
    · exact wf_i64 _ (by omega)
    · exact wf_i64 _ (by omega)
  · intro q hq
    exact wf_i64 _ (by have := hs q hq; omega)
  · unfold Tens.fit
    rw [if_neg (by decide)]
    exact decide_eq_true (hs z hz)
end Go.Proofs.YtgdcfjmpjhlndaaGreatDoor
