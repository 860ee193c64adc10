/-
  conv.Result, walked. By an AI agent. No person has read it.
-/
import Derived.Test.YtgdcfjmpjhlndaaDoorZSCelC
import Derived.Test.YtgdcfjmpjhlndaaDoorZSMatN
import Derived.Test.YtgdcfjmpjhlndaaDoorZSElmN
import Derived.Test.YtgdcfjmpjhlndaaDoorZSCnvB
import Derived.Test.YtgdcfjmpjhlndaaDoorZSOpB
import Derived.Test.YtgdcfjmpjhlndaaDoorZSElmR
import Derived.Test.YtgdcfjmpjhlndaaDoorZSSftN
import Derived.Deep.RegionLaw
import Derived.RegionTactic
import Derived.ChangeAlike
import Derived.BigRegion
namespace Go.Proofs.YtgdcfjmpjhlndaaDoor
open Go.RowKit
/-- What a convolution looks like, if nothing is amiss. -/
def Cv.dims (qs : List Int) (a b : Dsc) : List Int := [Cv.reach (a.zs.getD 0 0) (b.zs.getD 0 0) (qs.getD 0 0) (qs.getD 1 0), Cv.reach (a.zs.getD 1 0) (b.zs.getD 1 0) (qs.getD 0 0) (qs.getD 1 0), b.zs.getD 3 0]
/-- What is amiss with a convolution: the error's number. -/
def Cv.code (qs : List Int) (a b : Dsc) : Nat :=
  if qs.length ≠ 3 then 101 else if Shp.firstbad [a, b] ≠ 0 then Shp.firstbad [a, b]
  else if a.u = true ∨ b.u = true ∨ a.zs.length ≠ 3 ∨ b.zs.length ≠ 4 ∨ b.zs.getD 2 0 ≠ a.zs.getD 2 0 then 101
  else if qs.getD 0 0 < 1 ∨ qs.getD 0 0 > 16 ∨ qs.getD 1 0 < 0 ∨ qs.getD 1 0 > 15 ∨ Tens.narrow (qs.getD 2 0) ≠ qs.getD 2 0 then 102
  else if b.zs.getD 0 0 > a.zs.getD 0 0 + 2 * qs.getD 1 0 ∨ b.zs.getD 1 0 > a.zs.getD 1 0 + 2 * qs.getD 1 0 then 101
  else Shp.code (Cv.dims qs a b)
def Cv.shape (qs : List Int) (a b : Dsc) : List Int := if Cv.code qs a b = 0 then Cv.dims qs a b else []
def Cv.kind (qs : List Int) (a b : Dsc) : Bool := decide (Cv.code qs a b = 0)
theorem Cv.bad {qs : List Int} {a b : Dsc} (h : Cv.code qs a b ≠ 0) : Cv.shape qs a b = [] ∧ Cv.kind qs a b = false := by
  unfold Cv.shape Cv.kind
  rw [if_neg h]
  exact ⟨rfl, decide_eq_false h⟩
theorem Cv.code_known (qs : List Int) (a b : Dsc) : Cel.known (Cv.code qs a b) := by
  unfold Cv.code
  split
  · exact .inr (.inl rfl)
  split
  · exact Cel.known_bad _
  split
  · exact .inr (.inl rfl)
  split
  · exact .inr (.inr (.inl rfl))
  split
  · exact .inr (.inl rfl)
  · exact Cel.known_shp _
/-- Four numbers of a row. -/
theorem ri_four {w : World} {A : Option Addr} {x y z v : Int} (h : Ri w A [x, y, z, v]) : ∃ ad, A = some ad ∧ ad.block < w.heap.size ∧ w.cell? ad = some (.int .i64 x) ∧ w.cell? ⟨ad.block, ad.off + 1, none⟩ = some (.int .i64 y) ∧ w.cell? ⟨ad.block, ad.off + 2, none⟩ = some (.int .i64 z) ∧ w.cell? ⟨ad.block, ad.off + 3, none⟩ = some (.int .i64 v) := by
  obtain ⟨ad, h1, h2, h3⟩ := h.2 (by simp)
  have c0 := h3 0 x rfl
  have c1 := h3 1 y rfl
  have c2 := h3 2 z rfl
  have c3 := h3 3 v rfl
  rw [Addr.add_zero'] at c0
  simp only [Addr.add, Nat.reduceEqDiff, if_false] at c1 c2 c3
  exact ⟨ad, h1, h2, c0, c1, c2, c3⟩
end Go.Proofs.YtgdcfjmpjhlndaaDoor
namespace Go.Proofs.YtgdcfjmpjhlndaaDoor
open Go.RowKit
def Op.no : Dsc := ⟨none, [], 0, false⟩
/-- What a lawful number of ins looks like, behind: the error's number, the shape, the kind. -/
def Op.look2 (op : Int) (qs : List Int) (ds : List Dsc) : Nat × List Int × Bool :=
  if op ≤ 11 then (Elm.code op qs ds, Elm.shape op qs ds, Elm.kind op qs ds)
  else if op = 12 then (Mat.code (qs.getD 0 0) (qs.getD 1 0) (ds.getD 0 Op.no) (ds.getD 1 Op.no), Mat.shape (qs.getD 0 0) (qs.getD 1 0) (ds.getD 0 Op.no) (ds.getD 1 Op.no), Mat.kind (qs.getD 0 0) (qs.getD 1 0) (ds.getD 0 Op.no) (ds.getD 1 Op.no))
  else if op = 13 then (Cv.code qs (ds.getD 0 Op.no) (ds.getD 1 Op.no), Cv.shape qs (ds.getD 0 Op.no) (ds.getD 1 Op.no), Cv.kind qs (ds.getD 0 Op.no) (ds.getD 1 Op.no))
  else if op = 14 ∨ op = 15 then (Pl.code qs (ds.getD 0 Op.no), Pl.shape qs (ds.getD 0 Op.no), Pl.kind qs (ds.getD 0 Op.no))
  else if op = 18 then (Op.rcode qs (ds.getD 0 Op.no), Op.rshape qs (ds.getD 0 Op.no), Op.rkind qs (ds.getD 0 Op.no))
  else if op = 21 then (Op.tcode (ds.getD 0 Op.no), Op.tshape (ds.getD 0 Op.no), Op.tkind (ds.getD 0 Op.no))
  else (Sf.code op ds, Sf.shape op ds, Sf.kind op ds)
def Op.fits (op : Int) (qs : List Int) (ds : List Dsc) : Prop := ds.length = Op.ins op ∧ (op ≠ 18 → qs.length = Op.args op)
instance (op : Int) (qs : List Int) (ds : List Dsc) : Decidable (Op.fits op qs ds) := inferInstanceAs (Decidable (_ ∧ _))
def Op.look (op : Int) (qs : List Int) (ds : List Dsc) : Nat × List Int × Bool :=
  if ¬ Op.known op then (103, [], false) else if ¬ Op.fits op qs ds then (101, [], false) else Op.look2 op qs ds
/-- What a function answers that tells what an operation looks like. -/
def OpE (w : World) (ah am ar ak : Addr) (L : Nat × List Int × Bool) (e : Ending) (w' : World) : Prop :=
  (∃ d : Dsc, e = .returned (.tuple #[.agg (dcells d.P d.zs.length d.cap d.u), Elm.err ah am ar ak L.1]) ∧ d.In w' ∧ d.zs = L.2.1 ∧ d.u = L.2.2) ∧ Below w.heap.size w w'
theorem OpE.bad {w W : World} {ah am ar ak : Addr} {k : Nat} {x : Value} {e : Ending} (he : e = .returned (.tuple #[.agg (dcells none 0 0 false), x])) (hx : x = Elm.err ah am ar ak k) (hb : Below w.heap.size w W) : OpE w ah am ar ak (k, [], false) e W :=
  ⟨⟨⟨none, [], 0, false⟩, by rw [he, hx]; rfl, ⟨Ri.nil _ _, by simp⟩, rfl, rfl⟩, hb⟩
theorem Op.elem_lens (op : Int) (h : 4 ≤ op ∧ op ≤ 11) : Op.ins op = Elm.nins op ∧ Op.args op = Elm.nargs op := by
  have : op = 4 ∨ op = 5 ∨ op = 6 ∨ op = 7 ∨ op = 8 ∨ op = 9 ∨ op = 10 ∨ op = 11 := by omega
  rcases this with rfl | rfl | rfl | rfl | rfl | rfl | rfl | rfl <;> exact ⟨by decide, by decide⟩
theorem Elm.shape_wf {op : Int} {qs : List Int} {ds : List Dsc} {w : World} (hI : ∀ d ∈ ds, d.In w) : (∀ z ∈ Elm.shape op qs ds, (Lit.int .i64 z).wf = true) ∧ (Elm.shape op qs ds).length ≤ 1000000 := by
  unfold Elm.shape
  split
  · cases ds with
    | nil => exact ⟨(fun z hz => by cases hz), by simp⟩
    | cons d l => exact ⟨(hI d (List.mem_cons_self ..)).shp.1, (hI d (List.mem_cons_self ..)).ls⟩
  · exact ⟨(fun z hz => by cases hz), by simp⟩
theorem Elm.shape_none {op : Int} {qs : List Int} {ds : List Dsc} (h : Elm.code op qs ds ≠ 0) : Elm.shape op qs ds = [] := if_neg h
end Go.Proofs.YtgdcfjmpjhlndaaDoor
namespace Go.Proofs.YtgdcfjmpjhlndaaDoor
open Go.RowKit
theorem Op.look_known (op : Int) (qs : List Int) (ds : List Dsc) : (Op.look op qs ds).1 = 0 ∨ (Op.look op qs ds).1 = 101 ∨ (Op.look op qs ds).1 = 102 ∨ (Op.look op qs ds).1 = 103 ∨ (Op.look op qs ds).1 = 104 := by
  have hc : ∀ k, Cel.known k → k = 0 ∨ k = 101 ∨ k = 102 ∨ k = 103 ∨ k = 104 := fun k h => by unfold Cel.known at h; omega
  unfold Op.look
  split
  · exact .inr (.inr (.inr (.inl rfl)))
  split
  · exact .inr (.inl rfl)
  unfold Op.look2
  split
  · show Elm.code op qs ds = 0 ∨ _
    unfold Elm.code
    split
    · exact .inr (.inr (.inr (.inl rfl)))
    split
    · exact .inr (.inl rfl)
    split
    · exact hc _ (Cel.known_bad _)
    split
    · exact .inr (.inl rfl)
    split
    · exact .inr (.inr (.inl rfl))
    · exact .inl rfl
  split
  · exact hc _ (Mat.code_known _ _ _ _)
  split
  · exact hc _ (Cv.code_known _ _ _)
  split
  · exact hc _ (Pl.code_known _ _)
  split
  · exact hc _ (Op.rcode_known _ _)
  split
  · exact hc _ (Op.tcode_known _)
  · exact hc _ (Sf.code_known _ _)
theorem Op.look_zero {op : Int} {qs : List Int} {ds : List Dsc} (h : (Op.look op qs ds).1 = 0) : Op.known op ∧ Op.fits op qs ds ∧ (Op.look2 op qs ds).1 = 0 := by
  unfold Op.look at h
  by_cases hk : Op.known op
  · rw [if_neg (fun h => h hk)] at h
    by_cases hf : Op.fits op qs ds
    · rw [if_neg (fun h => h hf)] at h
      exact ⟨hk, hf, h⟩
    · rw [if_pos hf] at h
      cases h
  · rw [if_pos hk] at h
    cases h
theorem Ri.take {w : World} {A : Option Addr} {l : List Int} (h : Ri w A l) (n : Nat) : Ri w A (l.take n) := by
  refine ⟨fun z hz => h.1 z (List.mem_of_mem_take hz), fun hn => ?_⟩
  obtain ⟨ad, h1, h2, h3⟩ := h.2 (fun e => hn (by rw [e]; simp))
  exact ⟨ad, h1, h2, fun i z hi => h3 i z (by
    rw [List.getElem?_take] at hi
    split at hi
    · exact hi
    · cases hi)⟩
end Go.Proofs.YtgdcfjmpjhlndaaDoor
namespace Go.Proofs.YtgdcfjmpjhlndaaDoor
open Go.RowKit
theorem Op.look_of {op : Int} {qs : List Int} {ds : List Dsc} (hk : Op.known op) (hf : Op.fits op qs ds) : Op.look op qs ds = Op.look2 op qs ds := by
  unfold Op.look
  rw [if_neg (fun h => h hk), if_neg (fun h => h hf)]
end Go.Proofs.YtgdcfjmpjhlndaaDoor
