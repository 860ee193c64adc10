/-
  lodgeref.Bytes, walked; what is written of a tensor is read back. By an AI agent. No person has read it.
-/
import Derived.Test.YthjnkaikjjjceaaDoorPaTenRh
import Derived.Test.YthjnkaikjjjceaaDoorPaTenF
import Derived.Test.YthjnkaikjjjceaaDoorPaTenB
import Derived.Test.YthjnkaikjjjceaaDoorPaElmN
import Derived.Test.YthjnkaikjjjceaaDoorPaBasC
import Derived.Test.YthjnkaikjjjceaaDoorPaShpC
import Derived.Test.YthjnkaikjjjceaaDoorPaTenA
import Derived.Test.YthjnkaikjjjceaaDoorPaBasCard
import Derived.Test.YthjnkaikjjjceaaDoorPaShpA
import Derived.Deep.RegionHeld3
import Derived.RegionTactic
import Derived.Deep.RegionLaw
namespace Go.Proofs.YthjnkaikjjjceaaDoor
open Go.RowKit
theorem Pk.all_cons (k : Nat) (z : Int) (zs : List Int) : Pk.all k (z :: zs) = Pk.le k (Pk.num z) ++ Pk.all k zs := by simp [Pk.all]
end Go.Proofs.YthjnkaikjjjceaaDoor
namespace Go.Proofs.YthjnkaikjjjceaaDoor
open Go.RowKit
/-- The blocks that a call has laid, while it fills in its numbers. -/
structure OfI (w : World) (V g gd : Nat) (tv dv rv xs ys : List Value) (W : World) : Prop where
  low : Below w.heap.size w W
  vec : Has W V 70 tv
  des : Has W w.heap.size 59 dv
  res : Has W (w.heap.size + 1) 70 rv
  shp : Has W g 3 xs
  dat : Has W gd 3 ys
  gdl : w.heap.size ≤ gd
  ne : g ≠ gd
  nv : w.heap.size + 1 ≠ V
theorem OfI.below {w W W' : World} {V g gd : Nat} {tv dv rv xs ys : List Value} (h : OfI w V g gd tv dv rv xs ys W) (hb : Below W.heap.size W W') : OfI w V g gd tv dv rv xs ys W' :=
  ⟨h.low.trans (hb.mono h.low.size), h.vec.below hb h.vec.lt, h.des.below hb h.des.lt, h.res.below hb h.res.lt, h.shp.below hb h.shp.lt, h.dat.below hb h.dat.lt, h.gdl, h.ne, h.nv⟩
theorem OfI.drew {w W : World} {V g gd : Nat} {tv dv rv xs ys : List Value} (h : OfI w V g gd tv dv rv xs ys W) : OfI w V g gd tv dv rv xs ys W.drew :=
  ⟨h.low.drew, h.vec.drewN 1, h.des.drewN 1, h.res.drewN 1, h.shp.drewN 1, h.dat.drewN 1, h.gdl, h.ne, h.nv⟩
theorem OfI.set {w W : World} {V g gd : Nat} {tv dv rv xs ys : List Value} (h : OfI w V g gd tv dv rv xs ys W) (i : Nat) (v : Value) : OfI w V g gd tv dv rv xs (ys.set i v) (W.setCell ⟨gd, i, none⟩ v) :=
  ⟨h.low.setCell (p := ⟨gd, i, none⟩) h.gdl v, h.vec.far (p := ⟨gd, i, none⟩) (h.vec.apart h.dat (by decide)) v, h.des.far (p := ⟨gd, i, none⟩) (h.des.apart h.dat (by decide)) v, h.res.far (p := ⟨gd, i, none⟩) (h.res.apart h.dat (by decide)) v,
    h.shp.far (p := ⟨gd, i, none⟩) h.ne v, h.dat.set_ i v, h.gdl, h.ne, h.nv⟩
theorem OfI.done {w W : World} {V g gd : Nat} {tv dv xs ys : List Value} {x y z : Value} (v1 v2 v3 : Value) (h : OfI w V g gd tv dv [x, y, z] xs ys W) :
    Has (((W.setCell ⟨w.heap.size + 1, 0, none⟩ v1).setCell ⟨w.heap.size + 1, 1, none⟩ v2).setCell ⟨w.heap.size + 1, 2, none⟩ v3) (w.heap.size + 1) 70 [v1, v2, v3] ∧
    Has (((W.setCell ⟨w.heap.size + 1, 0, none⟩ v1).setCell ⟨w.heap.size + 1, 1, none⟩ v2).setCell ⟨w.heap.size + 1, 2, none⟩ v3) g 3 xs ∧ Has (((W.setCell ⟨w.heap.size + 1, 0, none⟩ v1).setCell ⟨w.heap.size + 1, 1, none⟩ v2).setCell ⟨w.heap.size + 1, 2, none⟩ v3) gd 3 ys ∧
    Below w.heap.size w (((W.setCell ⟨w.heap.size + 1, 0, none⟩ v1).setCell ⟨w.heap.size + 1, 1, none⟩ v2).setCell ⟨w.heap.size + 1, 2, none⟩ v3) :=
  have k := tstore v1 v2 v3 h.res h.des h.shp h.dat h.low (h.shp.apart h.res (by decide)) (h.dat.apart h.res (by decide))
  ⟨k.1, k.2.2.1, k.2.2.2.1, k.2.2.2.2⟩
theorem Tens.nums_length (u : Bool) (bs : List Nat) : (Tens.nums u bs).length = if u = true then bs.length / 4 else bs.length := by
  unfold Tens.nums
  cases u
  · simp [Tens.nums1]
  · simp [Tens.nums4]
end Go.Proofs.YthjnkaikjjjceaaDoor
namespace Go.Proofs.YthjnkaikjjjceaaDoor
open Go.RowKit
/-- The five errors that tensors' bytes are told by. -/
def TErrs (es : List Addr) (ah am ar ae ak : Addr) : Prop := es[0]? = some ah ∧ es[3]? = some am ∧ es[1]? = some ar ∧ es[4]? = some ae ∧ es[2]? = some ak
theorem TErrs.end_ {es : List Addr} {ah am ar ae ak : Addr} (h : TErrs es ah am ar ae ak) {W : World} (hz : Ez W es) : ErrIs W 3 ae := hz.2.2 4 _ ae rfl h.2.2.2.1
theorem Ez.low {w : World} {es : List Addr} (h : Ez w es) (g : Nat) (a : Addr) (hi : ∃ i : Nat, egs[i]? = some g ∧ es[i]? = some a) : g < w.heap.size ∧ a.block < w.heap.size := by
  obtain ⟨i, h1, h2⟩ := hi
  have := h.2.2 i g a h1 h2
  exact ⟨this.2.1, this.2.2.1⟩
theorem Ez.grown {w w' : World} {es : List Addr} {row : Option Nat} (h : Ez w es) (hb : w.grownBy w' row) (hr : ∀ k, row = some k → ∀ g a, (∃ i : Nat, egs[i]? = some g ∧ es[i]? = some a) → True → k ≠ g ∧ k ≠ a.block) : Ez w' es :=
  ⟨h.1, h.2.1, fun i g a h1 h2 => (h.2.2 i g a h1 h2).grown hb fun k e => hr k e g a ⟨i, h1, h2⟩ trivial⟩
theorem Rb.take {w : World} {A : Option Addr} {bs : List Nat} (h : Rb w A bs) (k : Nat) : Rb w A (bs.take k) := by
  refine ⟨fun b hb => h.1 b (List.mem_of_mem_take hb), fun hn => ?_⟩
  obtain ⟨ad, e, h1, h2⟩ := h.2 (by rintro rfl; simp at hn)
  refine ⟨ad, e, h1, fun i b hi => h2 i b ?_⟩
  rw [List.getElem?_take] at hi
  split at hi
  · exact hi
  · cases hi
end Go.Proofs.YthjnkaikjjjceaaDoor
namespace Go.Proofs.YthjnkaikjjjceaaDoor
open Go.RowKit
theorem Pk.App.bytes {base : Nat} {w wr w' : World} {v b v' : Value} {n n1 m : Nat} {xs ys : List Value} {o : Obj} {bs : List Nat} (h : Pk.App base w v n1 xs wr b) (h1 : w'.ownsRow base 5 1 v' (n1 + m) (xs ++ u8s bs)) (h2 : (wr.alloc o).grownBy w' b.ownBlock)
    (h3 : v'.ownBlock = b.ownBlock ∨ v'.ownBlock = some (wr.heap.size + 1)) (hn : n1 + m = n) (hx : xs ++ u8s bs = ys) : Pk.App base w v n ys w' v' := by
  subst hn
  subst hx
  refine h.andThen ⟨h1, (World.grownBy_alloc wr o b.ownBlock).andThen h2 (fun j hj => .inr hj), ?_⟩
  rcases h3 with e | e
  · exact .inl e
  · exact .inr ⟨_, e, by omega⟩
theorem Pk.App.drew {base : Nat} {w w' : World} {v v' : Value} {n : Nat} {xs : List Value} (h : Pk.App base w v n xs w' v') : Pk.App base w v n xs w'.drew v' := ⟨h.own.drew, grown_drew h.grown, h.at_⟩
end Go.Proofs.YthjnkaikjjjceaaDoor
