/-
  Package tens's Numbers of wide ones, walked. By an AI agent. No person has read it.
-/
import Derived.Test.YthjnkaikjjjceaaDoorPcTenU
import Derived.Test.YthjnkaikjjjceaaDoorPcTenF
import Derived.Test.YthjnkaikjjjceaaDoorPcBasB
import Derived.Test.YthjnkaikjjjceaaDoorPcShpC
import Derived.Test.YthjnkaikjjjceaaDoorPcTenCard
import Derived.Test.YthjnkaikjjjceaaDoorPcTenRd
import Derived.Test.YthjnkaikjjjceaaDoorPcTenB
import Derived.Test.YthjnkaikjjjceaaDoorPcElmN
import Derived.Test.YthjnkaikjjjceaaDoorPcTenC
import Derived.StillTailTactics
import Derived.Laws.BitsAllLaws
import Derived.Deep.RegionHeld3
namespace Go.Proofs.YthjnkaikjjjceaaDoor
open Go.RowKit
theorem wide_wrap (n : Int) : IntKind.i32.wrap n = Tens.wide n := by rw [IntKind.wrap_i32]; rfl
theorem wide_in (n : Int) : IntKind.i64.wrap (Tens.wide n) = Tens.wide n := by rw [IntKind.wrap_i64]; unfold Tens.wide; omega
end Go.Proofs.YthjnkaikjjjceaaDoor
namespace Go.Proofs.YthjnkaikjjjceaaDoor
open Go.RowKit
theorem Has.apart {w : World} {g g2 : Nat} {t t2 : TypeId} {cs cs2 : List Value} (h : Has w g t cs) (h2 : Has w g2 t2 cs2) (ht : t ≠ t2) : g ≠ g2 := by
  rintro rfl
  have e : w.heap[g]? = _ := h
  have e2 : w.heap[g]? = _ := h2
  rw [e] at e2
  simp at e2
  exact ht e2.2
end Go.Proofs.YthjnkaikjjjceaaDoor
namespace Go.Proofs.YthjnkaikjjjceaaDoor
open Go.RowKit
theorem Pk.all_cons (k : Nat) (z : Int) (zs : List Int) : Pk.all k (z :: zs) = Pk.le k (Pk.num z) ++ Pk.all k zs := by simp [Pk.all]
end Go.Proofs.YthjnkaikjjjceaaDoor
namespace Go.Proofs.YthjnkaikjjjceaaDoor
open Go.RowKit
/-- The blocks that a call has laid, while it fills in its numbers. -/
structure OfI (w : World) (V g gd : Nat) (tv dv rv xs ys : List Value) (W : World) : Prop where
  low : Below w.heap.size w W
  vec : Has W V 70 tv
  des : Has W w.heap.size 59 dv
  res : Has W (w.heap.size + 1) 70 rv
  shp : Has W g 3 xs
  dat : Has W gd 3 ys
  gdl : w.heap.size ≤ gd
  ne : g ≠ gd
  nv : w.heap.size + 1 ≠ V
theorem OfI.below {w W W' : World} {V g gd : Nat} {tv dv rv xs ys : List Value} (h : OfI w V g gd tv dv rv xs ys W) (hb : Below W.heap.size W W') : OfI w V g gd tv dv rv xs ys W' :=
  ⟨h.low.trans (hb.mono h.low.size), h.vec.below hb h.vec.lt, h.des.below hb h.des.lt, h.res.below hb h.res.lt, h.shp.below hb h.shp.lt, h.dat.below hb h.dat.lt, h.gdl, h.ne, h.nv⟩
theorem OfI.drew {w W : World} {V g gd : Nat} {tv dv rv xs ys : List Value} (h : OfI w V g gd tv dv rv xs ys W) : OfI w V g gd tv dv rv xs ys W.drew :=
  ⟨h.low.drew, h.vec.drewN 1, h.des.drewN 1, h.res.drewN 1, h.shp.drewN 1, h.dat.drewN 1, h.gdl, h.ne, h.nv⟩
theorem OfI.set {w W : World} {V g gd : Nat} {tv dv rv xs ys : List Value} (h : OfI w V g gd tv dv rv xs ys W) (i : Nat) (v : Value) : OfI w V g gd tv dv rv xs (ys.set i v) (W.setCell ⟨gd, i, none⟩ v) :=
  ⟨h.low.setCell (p := ⟨gd, i, none⟩) h.gdl v, h.vec.far (p := ⟨gd, i, none⟩) (h.vec.apart h.dat (by decide)) v, h.des.far (p := ⟨gd, i, none⟩) (h.des.apart h.dat (by decide)) v, h.res.far (p := ⟨gd, i, none⟩) (h.res.apart h.dat (by decide)) v,
    h.shp.far (p := ⟨gd, i, none⟩) h.ne v, h.dat.set_ i v, h.gdl, h.ne, h.nv⟩
end Go.Proofs.YthjnkaikjjjceaaDoor
