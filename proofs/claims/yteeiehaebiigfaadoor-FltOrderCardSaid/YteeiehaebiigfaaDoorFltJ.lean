/-
  The library's insertion, laid at this program. By an AI agent. No person has read it.
-/
import Derived.Test.YteeiehaebiigfaaDoorFltF
import Derived.Shelf.SlGeneric
import Derived.Shelf.SlSortCmp.Insertion
import Derived.Ground.SlsfProg
namespace Go.Proofs.YteeiehaebiigfaaDoor
open Go.RowKit Go.Shelf
def ins_ren : Go.Shelf.Ren := ⟨fun | 20 => 77 | n => n, fun | 24 => 22 | 22 => 27 | 3 => 3 | 25 => 72 | 4 => 4 | 0 => 0 | n => n, fun | n => n⟩
theorem ins : Go.Proofs.SlLaysF.n20 Tryd.prog ins_ren := {
  mixed := by kernel_rfl
  f20 := ⟨Tryd.f77.name, by decide, Tryd.func77.trans (congrArg some (by kernel_rfl))⟩
  t0 := Tryd.underlying0
  a0 := Tryd.isAgg0
  z0 := Tryd.sizeOf0
  v0 := Tryd.zeroValue0
  t3 := Tryd.underlying3
  a3 := Tryd.isAgg3
  z3 := Tryd.sizeOf3
  v3 := Tryd.zeroValue3
  t4 := Tryd.underlying4
  a4 := Tryd.isAgg4
  z4 := Tryd.sizeOf4
  v4 := Tryd.zeroValue4
  t22 := Tryd.underlying27
  a22 := Tryd.isAgg27
  z22 := Tryd.sizeOf27
  v22 := Tryd.zeroValue27
  a24 := Tryd.isAgg22
  z24 := Tryd.sizeOf22
  t25 := Tryd.underlying72
  a25 := Tryd.isAgg72
  z25 := Tryd.sizeOf72
  v25 := Tryd.zeroValue72 }

def cmpF (x y : W64) : Int := Flt.cmp x.val y.val
theorem ltOf_cmp : Go.Proofs.ltOf cmpF = ltF := by
  funext x y
  unfold Go.Proofs.ltOf cmpF ltF
  rw [Bool.eq_iff_iff, decide_eq_true_eq, cmp_neg]
theorem reads_cmp (blk off size : Nat) (w : World) : Go.Proofs.CmpReads Tryd.prog 56 #[] encF cmpF blk off size w :=
  fun _ _ _ _ x y => (compare_c x.val y.val x.isLt y.isLt _).mono fun _ _ ⟨he, hw⟩ => ⟨he, 0, hw⟩
theorem sortsF : SortsF 77 := fun blk off cap a b d w hH hab hb hsz => by
  have eg : ∀ args w, (callFunc 56 args).run Tryd.prog w = .ok (.enter 56 args) w := enters_of Tryd.func56 (by kernel_rfl) rfl
  have h := Go.Proofs.Any.insertionSortCmpFunc_one ins encF (fun _ => rfl) cmpF 56 #[] blk off cap a b d w eg (reads_cmp blk off d.size w) hH hab hb (by omega)
  rw [ltOf_cmp] at h
  exact h
end Go.Proofs.YteeiehaebiigfaaDoor
